import PyProof.Rows.All
import Wide.All
import OpenK.AllK
import Wide.FinOn
import Lean
import PyProof.EqAt
import PyProof.EqKinds
import PyProof.TupleCall
import PyProof.P3In
import PyProof.NeData
import PyProof.ReprLen
import PyProof.CompUse
import KE.KSortTup
import PyProof.SumAny
import PyProof.Rows.SeqCalls
import KE.KRevIter
import PyProof.TupleOfGen
import PyProof.CollectIter
import PyProof.Draws
import PyProof.EnumMake
import PySem.Challenge.RW_thinnet_k13_papers_of_ways_told
open PySem.W (Frag nsIn keepIn fnOf codeIn mg_of mg_none_of)
set_option Elab.async false
set_option linter.all false
set_option maxRecDepth 100000
namespace _p
namespace L2
open PySem PySem.Spec PyProof.Rows
abbrev Key:=Sum Int Str
def Kb:Key->Value->Bool
 | .inl k,v=>Value.isInt k v
 | .inr x,v=>Value.isStrOf x v
def X2(w:World):Key->Int
 | .inl k=>hashInt k
 | .inr x=>hashStr w x
theorem BQ:∀{k:Key} {v:Value},Kb k v=true->(∃i t,k=Sum.inl i/\v=Value.int i t)\/(∃x t,k=Sum.inr x/\v=Value.str x t)
 | .inl i,v,h=>by
  obtain⟨t,e⟩:=Value.isInt_shape (k:=i) (v:=v) h
  exact .inl ⟨i,t,rfl,e⟩
 | .inr x,v,h=>by
  obtain⟨t,e⟩:=Value.isStrOf_shape (x:=x) (v:=v) h
  exact .inr ⟨x,t,rfl,e⟩
theorem Qo(i:Int)(t:Tok):Kb (.inl i) (.int i t)=true:=by simp [Kb,Value.isInt]
theorem Qn(x:Str)(t:Tok):Kb (.inr x) (.str x t)=true:=by simp [Kb,Value.isStrOf]
theorem VZ(a b:Int):decide ((Sum.inl a:Key)=Sum.inl b)=(a==b):=by
 by_cases e:a=b
 ·subst e; simp
 ·have h:¬(Sum.inl a:Key)=Sum.inl b:=λq=>e (Sum.inl.inj q)
  rw [decide_eq_false h]
  exact(beq_eq_false_iff_ne.mpr e).symm
theorem VW(a b:Str):decide ((Sum.inr a:Key)=Sum.inr b)=decide (a=b):=by
 by_cases e:a=b
 ·subst e; simp
 ·have h:¬(Sum.inr a:Key)=Sum.inr b:=λq=>e (Sum.inr.inj q)
  rw [decide_eq_false h,decide_eq_false e]
theorem VY(a:Int)(b:Str):decide ((Sum.inl a:Key)=Sum.inr b)=false:=decide_eq_false (λq=>nomatch q)
theorem VX(a:Str)(b:Int):decide ((Sum.inr a:Key)=Sum.inl b)=false:=decide_eq_false (λq=>nomatch q)
def A_(prog:Program)(w:World):PySem.KeyKind prog w Key where
 is:=Kb
 hash:=X2 w
 inj:=λv a b ha hb=>by
  rcases BQ ha with ⟨i,t,rfl,rfl⟩ | ⟨x,t,rfl,rfl⟩
  ·rcases BQ hb with ⟨j,u,rfl,e⟩ | ⟨y,u,rfl,e⟩
   ·injection e with e1 _; rw [e1]
   ·exact nomatch e
  ·rcases BQ hb with ⟨j,u,rfl,e⟩ | ⟨y,u,rfl,e⟩
   ·exact nomatch e
   ·injection e with e1 _; rw [e1]
 byValue:=λk v h=>by
  rcases BQ h with ⟨i,t,rfl,rfl⟩ | ⟨x,t,rfl,rfl⟩ <;> rfl
 pyHash:=λhv h=>by
  rcases BQ hv with ⟨i,t,rfl,rfl⟩ | ⟨x,t,rfl,rfl⟩
  ·exact wpAny_pyHash_int h
  ·exact wpAny_pyHash_str h
 eqBool:=λhu hv h=>by
  rcases BQ hu with ⟨i,t,rfl,rfl⟩ | ⟨x,t,rfl,rfl⟩
  ·rcases BQ hv with ⟨j,u,rfl,rfl⟩ | ⟨y,u,rfl,rfl⟩
   ·rw [VZ] at h; exact wpAny_eqBool_int h
   ·rw [VY] at h; exact SeqAt.EqAt.int_str i t y u _ _ _ _ h
  ·rcases BQ hv with ⟨j,u,rfl,rfl⟩ | ⟨y,u,rfl,rfl⟩
   ·rw [VX] at h; exact SeqAt.EqAt.str_int x t j u _ _ _ _ h
   ·rw [VW] at h; exact wpAny_eqBool_str h
 «strs»:=λk x t v h=>by
  rcases BQ h with ⟨i,u,rfl,e⟩ | ⟨y,u,rfl,e⟩
  ·exact nomatch e
  ·injection e with e1 _
   subst e1
   cases v <;> rfl
theorem Mx(prog:Program)(w:World)(i:Int)(t:Tok):(A_ prog w).is (.inl i) (.int i t)=true:=Qo i t
theorem Mw(prog:Program)(w:World)(x:Str)(t:Tok):(A_ prog w).is (.inr x) (.str x t)=true:=Qn x t
inductive V where
 | non | bl (b:Bool) | int (i:Int) | str (x:Str) | byt (b:Array UInt8) | flt (b:UInt64) | ref (a:Addr) | ty (n:String)
 deriving DecidableEq
def RelV:V->Value->Prop
 | .non,u=>u=Value.none
 | .bl b,u=>u=Value.bool b
 | .int i,u=>∃t,u=Value.int i t
 | .str x,u=>∃t,u=Value.str x t
 | .byt b,u=>∃t,u=Value.bytes b t
 | .flt b,u=>∃t,u=Value.float b t
 | .ref a,u=>u=Value.ref a
 | .ty n,u=>u=Value.type n
abbrev Vals:List V->List Value->Prop:=Paired RelV
theorem Vals.length{xs:List V}{us:List Value}(r:Vals xs us):xs.length=us.length:=Paired.length r
theorem Vals.get:∀{xs:List V} {us:List Value} {i:Nat} {x:V},Vals xs us->xs[i]?=some x->∃u,us[i]?=some u/\RelV x u
 | _,_,_,_,.nil,e=>by simp at e
 | _,_,0,_,.cons r _,e=>by simp at e; subst e; exact⟨_,rfl,r⟩
 | _,_,i+1,x,.cons _ t,e=>by
  obtain⟨u,h1,h2⟩:=Vals.get (i:=i) (x:=x) t (by simpa using e)
  exact⟨u,by simpa using h1,h2⟩
theorem Vals.set{x:V}{u:Value}(r:RelV x u):∀{xs:List V} {us:List Value} (i:Nat),Vals xs us->Vals (xs.set i x) (us.set i u)
 | _,_,_,.nil=>.nil
 | _,_,0,.cons _ t=>.cons r t
 | _,_,i+1,.cons q t=>.cons q (Vals.set r i t)
theorem Vals.append:∀{xs ys:List V} {us ws:List Value},Vals xs us->Vals ys ws->Vals (xs++ys) (us++ws)
 | _,_,_,_,.nil,s=>s
 | _,_,_,_,.cons r t,s=>.cons r (Vals.append t s)
theorem Vals.take:∀{xs:List V} {us:List Value} (n:Nat),Vals xs us->Vals (xs.take n) (us.take n)
 | _,_,0,_=>.nil
 | _,_,_+1,.nil=>.nil
 | _,_,n+1,.cons r t=>.cons r (Vals.take n t)
theorem Vals.drop:∀{xs:List V} {us:List Value} (n:Nat),Vals xs us->Vals (xs.drop n) (us.drop n)
 | _,_,0,r=>r
 | _,_,_+1,.nil=>.nil
 | _,_,n+1,.cons _ t=>Vals.drop n t
def RelO:Option V->Option Value->Prop
 | some v,some u=>RelV v u
 | none,none=>True
 | _,_=>False
def KV{κ:Type}:List (κ×V)->List (κ×Value)->Prop:=Paired fun(p:κ×V) (q:κ×Value)=>p.1=q.1/\RelV p.2 q.2
def kV:Key->V
 | .inl i=>.int i
 | .inr x=>.str x
inductive HO where
 | lst (xs:List V)
 | tup (xs:List V)
 | dK (kvs:List (Key×V)) | dT (kvs:List (List Key×V))
 | set (S:Int->Bool) (n:Nat)
 | ins (C dx:Addr) (fs:List (Str×V))
 | own (x:Addr)
 | xd (fs:List (Str×V))
 | met (f x:Addr)
 | rng (lo hi:Int)
 | frz (o:Obj) (u:HO)
 | tbl (ps:Array Value)
 | ext (φ:Heap->Prop)
abbrev Hp:=Addr->Option HO
def BG(H:Hp)(a:Addr)(o:HO):Hp:=λb=>if b=a then some o else H b
theorem Ak{H:Hp}{a:Addr}{o:HO}:BG H a o a=some o:=by unfold BG; rw [if_pos rfl]
theorem AT{H:Hp}{a b:Addr}{o:HO}(h:b≠a):BG H a o b=H b:=by unfold BG; rw [if_neg h]
theorem W0{H:Hp}{a b:Addr}{o u:HO}(h:H a=some o)(h':H b=some u)(d:o≠u):a≠b:=by
 intro e; subst e; rw [h] at h'; exact d (Option.some.inj h')
theorem Ar{H:Hp}{a b:Addr}{o:HO}(h:H a=some o)(h':H b=none):a≠b:=by
 intro e; subst e; rw [h] at h'; cases h'
def IsTupN(h:Heap)(a:Addr)(items:Array Value):Prop:=∃o,h.get? a=some o/\o.cls=.type "tuple"/\∃n,o.data=.seq items n/\o.dict=none/\o.slots=#[]
theorem IsTupN.tup{h:Heap}{a:Addr}{items:Array Value}(x:IsTupN h a items):IsTup h a items:=let ⟨o,h1,h2,n,h3,_⟩:=x; ⟨o,h1,h2,n,h3⟩
theorem IsTupN.new(h:Heap)(items:Array Value):IsTupN (h.push { cls:=.type "tuple",data:=.seq items }) h.objs.size items:=⟨_,Heap.get?_push_size _ rfl,rfl,_,rfl,rfl,rfl⟩
section
variable (P:Program)(w:World)
def ObjOk(H:Hp)(h:Heap)(a:Addr):HO->Prop
 | .lst xs=>xs.length<=sizeLine/\∃(its:List Value) (n:Nat),Vals xs its/\h.get? a=some { cls:=.type "list",data:=.seq its.toArray n }
 | .tup xs=>xs.length<=sizeLine/\∃its:List Value,Vals xs its/\IsTupN h a its.toArray
 | .dK kvs=>kvs.length<=sizeLine/\(a==sysModules)=false/\∃vs,KV kvs vs/\h.DictOf (A_ P w) a vs
 | .dT kvs=>kvs.length<=sizeLine/\(a==sysModules)=false/\∃xs:List (List Key×Addr×Value),
   Paired (fun(p:List Key×V) (q:List Key×Addr×Value)=>p.1=q.1/\H q.2.1=some (.tup (p.1.map kV))/\RelV p.2 q.2.2) kvs xs /\
   ∃o es ep,h.get? a=some o/\o.ExactDict/\o.data=.dict es ep/\es.toList=xs.map (entryOfKey (tupleKind (A_ P w)))/\(xs.map (·.1)).Nodup
 | .set S n=>h.SetOf (intKind P w) a S n
 | .ins C dx fs=>H dx=some (.own a)/\fs.length<=1000/\dx≠a/\h.get? a=some (PySem.W.instObj C dx) /\
   ∃mA,h.Ns1 dx mA/\(∀f,RelO (fs.lookup f) (mA f))/\PySem.Within mA (fs.map (·.1))
 | .own _=>∃o,h.get? a=some o
 | .xd fs=>∃mA,h.Ns1 a mA/\∀f,RelO (fs.lookup f) (mA f)
 | .rng lo hi=>∃t u v,h.get? a=some { cls:=.type "range",data:=.fields #[.int lo t,.int hi u,.int 1 v] }
 | .frz o u=>h.get? a=some o/\ObjOk H h a u
 | .tbl ps=>h.get? a=some { cls:=.none,data:=.fields ps }
 | .met f x=>h.get? a=some (PySem.W.methodObj (.ref f) (.ref x))
 | .ext φ=>φ h/\(∃o,h.get? a=some o)/\∀h1 h2:Heap,φ h1->(∀o,h1.get? a=some o->h2.get? a=some o)->φ h2
def HOk(H:Hp)(h:Heap):Prop:=∀a o,H a=some o->ObjOk P w H h a o
end
section
variable {P:Program}{w:World}{H H':Hp}{h h':Heap}{a:Addr}{o:HO}
theorem ObjOk.lt(x:ObjOk P w H h a o):a<h.objs.size:=by
 cases o with
 | lst xs=>obtain⟨_,_,_,_,e⟩:=x; exact Heap.lt_size e
 | tup xs=>obtain⟨_,_,_,p⟩:=x; exact p.tup.lt
 | dK kvs=>obtain⟨_,_,_,_,o,_,_,e,_⟩:=x; exact Heap.lt_size e
 | dT kvs=>obtain⟨_,_,_,_,o,_,_,e,_⟩:=x; exact Heap.lt_size e
 | set S n=>obtain⟨o,_,_,_,e,_⟩:=x; exact Heap.lt_size e
 | ins C dx fs=>obtain⟨_,_,_,e,_⟩:=x; exact Heap.lt_size e
 | own y=>obtain⟨_,e⟩:=x; exact Heap.lt_size e
 | xd fs=>obtain⟨_,⟨_,_,_,e,_⟩,_⟩:=x; exact Heap.lt_size e
 | rng lo hi=>obtain⟨_,_,_,e⟩:=x; exact Heap.lt_size e
 | frz ob u=>obtain⟨e,_⟩:=x; exact Heap.lt_size e
 | tbl ps=>exact Heap.lt_size (show h.get? a=some _ from x)
 | met f y=>exact Heap.lt_size (show h.get? a=some _ from x)
 | ext φ=>obtain⟨_,⟨_,e⟩,_⟩:=x; exact Heap.lt_size e
theorem Paired.mapP{α β:Type}{F G:α->β->Prop}:∀{l₁:List α} {l₂:List β},Paired F l₁ l₂->(∀a b,F a b->G a b)->Paired G l₁ l₂
 | _,_,.nil,_=>.nil
 | _,_,.cons r t,f=>.cons (f _ _ r) (Paired.mapP t f)
theorem ObjOk.stay(x:ObjOk P w H h a o)(k:∀b u,(b=a\/H b=some (.own a))->h.get? b=some u->h'.get? b=some u)
  (ho:∀b,H b=some (.own a)->H' b=some (.own a)) (ht:∀b xs,H b=some (.tup xs)->H' b=some (.tup xs)):ObjOk P w H' h' a o:=by
 induction o with
 | lst xs=>obtain⟨z,its,n,r,e⟩:=x; exact⟨z,its,n,r,k _ _ (.inl rfl) e⟩
 | tup xs=>obtain⟨z,its,r,ob,e,c⟩:=x; exact⟨z,its,r,ob,k _ _ (.inl rfl) e,c⟩
 | dK kvs=>obtain⟨z,y,vs,r,ob,es,ep,e,c⟩:=x; exact⟨z,y,vs,r,ob,es,ep,k _ _ (.inl rfl) e,c⟩
 | dT kvs =>
  obtain⟨z,y,xs,r,ob,es,ep,e,c⟩:=x
  exact⟨z,y,xs,Paired.mapP r λp q z=>⟨z.1,ht _ _ z.2.1,z.2.2⟩,ob,es,ep,k _ _ (.inl rfl) e,c⟩
 | set S n=>obtain⟨ob,es,ep,t,e,c⟩:=x; exact⟨ob,es,ep,t,k _ _ (.inl rfl) e,c⟩
 | ins C dx fs =>
  obtain⟨d,z,ne,e,mA,⟨od,es,ep,e2,c⟩,r⟩:=x
  exact⟨ho _ d,z,ne,k _ _ (.inl rfl) e,mA,⟨od,es,ep,k _ _ (.inr d) e2,c⟩,r⟩
 | own y=>obtain⟨ob,e⟩:=x; exact⟨ob,k _ _ (.inl rfl) e⟩
 | xd fs=>obtain⟨mA,⟨od,es,ep,e,c⟩,r⟩:=x; exact⟨mA,⟨od,es,ep,k _ _ (.inl rfl) e,c⟩,r⟩
 | rng lo hi=>obtain⟨t,u,v,e⟩:=x; exact⟨t,u,v,k _ _ (.inl rfl) e⟩
 | frz ob u ih=>obtain⟨e,q⟩:=x; exact⟨k _ _ (.inl rfl) e,ih q⟩
 | tbl ps =>
  have e:h.get? a=some { cls:=.none,data:=.fields ps }:=x
  show h'.get? a=some { cls:=.none,data:=.fields ps }
  exact k a _ (.inl rfl) e
 | met f y =>
  have e:h.get? a=some (PySem.W.methodObj (.ref f) (.ref y)):=x
  show h'.get? a=some (PySem.W.methodObj (.ref f) (.ref y))
  exact k a _ (.inl rfl) e
 | ext φ=>obtain⟨p,⟨o,e⟩,st⟩:=x; exact⟨st _ _ p λo q=>k _ _ (.inl rfl) q,⟨o,k _ _ (.inl rfl) e⟩,st⟩
theorem HOk.lt(x:HOk P w H h)(e:H a=some o):a<h.objs.size:=(x a o e).lt
theorem HOk.fresh(x:HOk P w H h)(e:h.objs.size<=a):H a=none:=by
 cases q:H a with
 | none=>rfl
 | some u=>exact absurd (Nat.lt_of_lt_of_le (x.lt q) e) (Nat.lt_irrefl _)
theorem HOk.kept(x:HOk P w H h)(k:∀b u,h.get? b=some u->h'.get? b=some u):HOk P w H h':=λa o e =>
 (x a o e).stay (λb u _ q=>k b u q) (λ_ q=>q) λ_ _ q=>q
theorem HOk.laid(x:HOk P w H h)(k:∀b u,h.get? b=some u->h'.get? b=some u)(hp:h.objs.size<=a)(new:ObjOk P w (BG H a o) h' a o):HOk P w (BG H a o) h':=λb u e=>by
 have hn:=x.fresh hp
 by_cases hb:b=a
 ·subst hb; rw [Ak] at e; cases e; exact new
 ·rw [AT hb] at e
  exact(x b u e).stay (λc v _ q=>k c v q) (λc q=>by rw [AT (Ar q hn)]; exact q) λc xs q=>by rw [AT (Ar q hn)]; exact q
end
def Rd(H:Hp)(a:Addr)(u:HO):Prop:=H a=some u\/∃o,H a=some (.frz o u)
theorem Rd.ok{P:Program}{w:World}{H:Hp}{h:Heap}{a:Addr}{u:HO}(r:Rd H a u)(x:HOk P w H h):ObjOk P w H h a u:=by
 rcases r with r | ⟨o,r⟩
 ·exact x a u r
 ·obtain⟨_,q⟩:=x a _ r
  exact q
def XW:Option HO->Prop
 | some (.lst _)=>True
 | some (.dK _)=>True
 | some (.dT _)=>True
 | some (.set _ _)=>True
 | some (.ins _ _ _)=>True
 | some (.ext _)=>True
 | _=>False
section
variable {P:Program}{w:World}{H:Hp}{h h':Heap}{x e:Addr}{o':HO}
theorem HOk.write(ok:HOk P w H h)(mu:XW (H x))(he:e=x\/H e=some (.own x))(k:∀b u,b≠e->h.get? b=some u->h'.get? b=some u)(heo:∃u,h'.get? e=some u)
  (new:ObjOk P w (BG H x o') h' x o'):HOk P w (BG H x o') h':=λb u q=>by
 have nown:∀c y,H c=some (.own y)->c≠x:=λc y r z=>by subst z; rw [r] at mu; exact mu
 have ntup:∀c xs,H c=some (.tup xs)->c≠x:=λc xs r z=>by subst z; rw [r] at mu; exact mu
 by_cases hb:b=x
 ·subst hb; rw [Ak] at q; cases q; exact new
 ·rw [AT hb] at q
  by_cases hbe:b=e
  ·have q':H b=some (.own x):=by
    rcases he with z | z
    ·exact absurd (hbe.trans z) hb
    ·rw [hbe]; exact z
   rw [q] at q'; cases q'
   obtain⟨v,hv⟩:=heo
   exact⟨v,by rw [hbe]; exact hv⟩
  ·refine(ok b u q).stay (λc v hc r=>k c v ?_ r) (λc r=>by rw [AT (nown c b r)]; exact r) λc xs r=>by rw [AT (ntup c xs r)]; exact r
   rcases hc with rfl | hc
   ·exact hbe
   ·rintro rfl
    rcases he with z | z
    ·exact nown c b hc z
    ·rw [hc] at z; cases z; exact hb rfl
end
structure Un (fs ex:List Addr) (H H':Hp) (h h':Heap):Prop where
 keep:∀b o,h.get? b=some o->H b=none->b∉fs->b∉ex->h'.get? b=some o
 slot:∀b o,h.get? b=some o->H b=none->b∈fs->b∉ex->∃sl,h'.get? b=some { o with slots:=sl }
 free:∀b o,h.get? b=some o->H b=none->b∉ex->H' b=none
 there:∀b o,h.get? b=some o->b∉ex->∃o',h'.get? b=some o'
 tups:∀b xs,H b=some (.tup xs)->H' b=some (.tup xs)
 frzs:∀b o u,H b=some (.frz o u)->H' b=some (.frz o u)
 tbls:∀b ps,H b=some (.tbl ps)->∃more,H' b=some (.tbl (ps++more))
section
variable {fs fs' ex ex':List Addr}{H H1 H2:Hp}{h h1 h2 h':Heap}{a x e:Addr}{o:HO}
theorem Un.any(u:Un fs ex H H1 h h1){b:Addr}{ob:Obj}(q:h.get? b=some ob)(n:H b=none)(hx:b∉ex):∃sl,h1.get? b=some { ob with slots:=sl }:=by
 by_cases hb:b∈fs
 ·exact u.slot b ob q n hb hx
 ·exact⟨ob.slots,u.keep b ob q n hb hx⟩
theorem Un.kept(k:∀b u,h.get? b=some u->h'.get? b=some u):Un fs ex H H h h' :=
 ⟨λb ob q _ _ _=>k b ob q,λb ob q _ _ _=>⟨ob.slots,k b ob q⟩,λ_ _ _ n _=>n,λb ob q _=>⟨ob,k b ob q⟩,λ_ _ q=>q,λ_ _ _ q=>q,λ_ ps q=>⟨#[],by rw [q]; simp⟩⟩
theorem Un.refl:Un fs ex H H h h:=Un.kept λ_ _ q=>q
theorem Un.laid(k:∀b u,h.get? b=some u->h'.get? b=some u)(hp:h.objs.size<=a)(hn:H a=none):Un fs ex H (BG H a o) h h' where
 keep:=λb u q _ _ _=>k b u q
 slot:=λb u q _ _ _=>⟨u.slots,k b u q⟩
 free:=λb u q n _=>by rw [AT (Nat.ne_of_lt (Nat.lt_of_lt_of_le (Heap.lt_size q) hp))]; exact n
 there:=λb u q _=>⟨u,k b u q⟩
 tups:=λb xs q=>by rw [AT (Ar q hn)]; exact q
 frzs:=λb u xs q=>by rw [AT (Ar q hn)]; exact q
 tbls:=λb ps q=>⟨#[],by rw [AT (Ar q hn),q]; simp⟩
theorem Un.write(mu:XW (H x))(he:e=x\/H e=some (.own x))(k:∀b u,b≠e->h.get? b=some u->h'.get? b=some u)(heo:∃u,h'.get? e=some u):Un fs ex H (BG H x o) h h':=by
 have hx:∀b,H b=none->b≠x:=λb n z=>by subst z; rw [n] at mu; exact mu
 have hb:∀b,H b=none->b≠e:=λb n z=>by
  subst z
  rcases he with r | r
  ·exact hx b n r
  ·rw [n] at r; cases r
 have hm:∀b u,H b=some u->¬XW (some u)->b≠x:=λb u q nm z=>by subst z; rw [q] at mu; exact nm mu
 refine⟨λb u q n _ _=>k b u (hb b n) q,λb u q n _ _=>⟨u.slots,k b u (hb b n) q⟩,λb u q n _=>by rw [AT (hx b n)]; exact n,λb u q _=>?_,
  λb xs q=>by rw [AT (hm b _ q λz=>z)]; exact q,λb u xs q=>by rw [AT (hm b _ q λz=>z)]; exact q,λb ps q=>⟨#[],by rw [AT (hm b _ q λz=>z),q]; simp⟩⟩
 by_cases hbe:b=e
 ·subst hbe; exact heo
 ·exact⟨u,k b u hbe q⟩
end
def Xb(h:Heap)(H:Hp):List Addr:=(List.range h.objs.size).filter λa=>(H a).isSome
def Ls(h:Heap)(H:Hp):Heap:=PySem.W.hideAll h (Xb h H)
theorem Qu(h:Heap)(H:Hp):(Ls h H).objs.size=h.objs.size:=PySem.W.hideAll_size _ _
theorem SX{h:Heap}{H:Hp}{b:Addr}{o:Obj}(e:h.get? b=some o)(n:H b=none):(Ls h H).get? b=some o :=
 PySem.W.hideAll_get _ e λhm=>by
  have q:(H b).isSome=true:=(List.mem_filter.mp hm).2
  rw [n] at q; simp at q
theorem Tf{h:Heap}{H:Hp}{b:Addr}{o:Obj}(e:(Ls h H).get? b=some o):h.get? b=some o/\H b=none:=by
 have e':h.get? b=some o:=PySem.W.of_hideAll (Xb h H) e
 refine⟨e',?_⟩
 cases q:H b with
 | none=>rfl
 | some x =>
  have hm:b∈Xb h H:=List.mem_filter.mpr ⟨List.mem_range.mpr (Heap.lt_size e'),by simp [q]⟩
  have z:(Ls h H).get? b=none:=PySem.W.hideAll_none (Xb h H) hm
  rw [z] at e; cases e
structure Mod (K:Frag) (mg:Str->Option Value) (base:Heap):Prop where
 kin:K.In base
 glob:base.Ns mainGlobals mg
 blt:∃mb,base.Ns builtinsNs mb/\∀x:Str,x ≠ "__name__"->mb x=bootBuiltins x
 nolimit:base.NoLimit
/-- the context: a def's body (or a comprehension's block) running. base: fixed through the whole law; s₀, H₀: the entry; outer: the frames whose slots others may change (a def's callers); stack: all frames that run;
   ex: iterators that were made ahead of the entry and are walked here (a comprehension's); fn: the names whose cells were made at the entry (a def: all; a comprehension's block: its own); calm: not within an except suite; pn: pins that every state bears; xe: what is wanted of an exception that leaves the code -/
structure Cx where
 prog:Program
 w:World
 K:Frag
 mg:Str->Option Value
 base:Heap
 A:Around
 N:List Str
 s₀:Shared
 H₀:Hp
 env:Env
 outer:List Env
 stack:List Env
 ex:List Addr
 fn:Str->Bool
 calm:Bool
 pn:List (Addr×Obj)
 xe:Value->Shared->Prop
def RA(l:List Env):List Addr:=l.filterMap (·.frame)
abbrev Cx.fs(X:Cx):List Addr:=RA X.outer
def V2(sc:Scope)(x:Str):Prop:=sc.names.lookup x=some .local\/sc.names.lookup x=some .cell\/sc.names.lookup x=some .free
def Loc(sc:Scope)(x:Str):Prop:=sc.names.lookup x=some .local\/sc.names.lookup x=some .cell
def Look(env:Env)(h:Heap)(m:Str->Option Value)(x:Str)(u:Value):Prop :=
 (env.kindOf x=some .local/\m x=some u)\/((env.kindOf x=some .cell\/env.kindOf x=some .free)/\∃c,env.cells.lookup x=some c/\h.IsCell c (some u))
structure Cx.Ok (X:Cx):Prop where
 mod:Mod X.K X.mg X.base
 kind:X.env.scope.kind=.function
 glob:X.env.globals=mainGlobals
 blt:X.env.builtins=builtinsNs
 above:X.s₀.heap.objs.size<=X.env.locals
 inj:∀x y c,X.env.cells.lookup x=some c->X.env.cells.lookup y=some c->x=y
 has:∀x,(X.env.kindOf x=some .cell\/X.env.kindOf x=some .free)->∃c,X.env.cells.lookup x=some c
 cab:∀x c,X.fn x=true->X.env.cells.lookup x=some c->X.s₀.heap.objs.size<=c
 hd:X.calm=true->X.A.handled=none
 frames:X.A.frames=some X.stack
 stk:X.stack=X.outer\/(X.stack=X.env::X.outer/\X.env.frame=some X.env.locals)
 exf:∀b∈X.ex,b≠X.env.locals/\∀x c,X.env.cells.lookup x=some c->c≠b
 bs:∀b o,X.base.get? b=some o->X.s₀.heap.get? b=some o/\X.H₀ b=none
 bsz:X.base.objs.size<=X.s₀.heap.objs.size
 noex:∀b o,X.base.get? b=some o->b∉X.ex
 exfs:∀b∈X.ex,b∉X.fs
 funs:X.s₀.heap.FunFrames X.base X.outer
 frf:∀b∈X.fs,X.H₀ b=none
structure Inv (X:Cx) (pins:List (Addr×Obj)) (σ:List (Option V)) (H:Hp) (s:Shared):Prop where
 ok:X.Ok
 os:s.os=X.s₀.os
 bare:AllBare s.gens
 base:Un X.fs X.ex X.H₀ H X.s₀.heap s.heap
 loc:∃m,s.heap.Ns X.env.locals m/\∀(i:Nat) (x:Str) (v:V),X.N[i]?=some x->σ[i]?=some (some v)->V2 X.env.scope x->∃u,RelV v u/\Look X.env s.heap m x u
 cell:∀x c,X.env.cells.lookup x=some c->∃v,s.heap.IsCell c v
 free:H X.env.locals=none
 freeC:∀x c,X.env.cells.lookup x=some c->H c=none
 pin:∀p∈X.pn++pins,s.heap.get? p.1=some p.2/\H p.1=none/\p.1≠X.env.locals/\p.1∉X.fs/\∀v,p.2.data≠.cell v
 hok:HOk X.prog X.w H s.heap
 len:σ.length=X.N.length
section
variable {X:Cx}{pins:List (Addr×Obj)}{σ:List (Option V)}{H H':Hp}{s:Shared}{h':Heap}
theorem Cx.Ok.nofr(ok:X.Ok){b:Addr}{o:Obj}(e:X.base.get? b=some o):b∉X.fs:=λhb=>by
 have:=(ok.funs.mem hb).1
 rw [e] at this; cases this
theorem Inv.bs(I:Inv X pins σ H s):∀b o,X.base.get? b=some o->s.heap.get? b=some o/\H b=none:=λb o e =>
 ⟨I.base.keep b o (I.ok.bs b o e).1 (I.ok.bs b o e).2 (I.ok.nofr e) (I.ok.noex b o e),I.base.free b o (I.ok.bs b o e).1 (I.ok.bs b o e).2 (I.ok.noex b o e)⟩
theorem Inv.bk(I:Inv X pins σ H s):∀b o,X.base.get? b=some o->s.heap.get? b=some o:=λb o e=>(I.bs b o e).1
theorem Inv.mod(I:Inv X pins σ H s):Mod X.K X.mg X.base:=I.ok.mod
theorem Inv.kIn(I:Inv X pins σ H s):X.K.In s.heap:=I.ok.mod.kin.keeps I.bk
theorem Inv.lt(I:Inv X pins σ H s):X.env.locals<s.heap.objs.size:=let ⟨_,hn,_⟩:=I.loc; hn.lt
theorem Inv.sz(I:Inv X pins σ H s):X.s₀.heap.objs.size<=s.heap.objs.size:=Nat.le_trans I.ok.above (Nat.le_of_lt I.lt)
theorem Inv.nofs(I:Inv X pins σ H s){a:Addr}(h:s.heap.objs.size<=a):a∉X.fs:=λhb=>by
 obtain⟨_,o,ho,_⟩:=I.ok.funs.mem hb
 exact absurd (Nat.lt_of_lt_of_le (Heap.lt_size ho) (Nat.le_trans I.sz h)) (Nat.lt_irrefl _)
theorem Inv.cne(I:Inv X pins σ H s):∀x c,X.env.cells.lookup x=some c->c≠X.env.locals:=λx c e z=>by
 obtain⟨v,o,ho,hd⟩:=I.cell x c e
 obtain⟨m,⟨o',es,ep,ho',hd',_⟩,_⟩:=I.loc
 rw [z,ho'] at ho; cases ho; rw [hd'] at hd; cases hd
theorem Inv.funs(I:Inv X pins σ H s):s.heap.FunFrames X.base X.outer:=by
 have all:∀(l:List Env),(∀b∈RA l,b∈X.fs)->X.s₀.heap.FunFrames X.base l->s.heap.FunFrames X.base l:=by
  intro l
  induction l with
  | nil=>intro _ _; trivial
  | cons env r ih =>
   intro hs hl
   obtain⟨hk,⟨L,o,hf,hn,ho,hd⟩,hr⟩:=hl
   have hL:L∈X.fs:=hs L (by unfold RA; rw [List.filterMap_cons,hf]; exact List.mem_cons_self)
   obtain⟨sl,e⟩:=I.base.slot L o ho (I.ok.frf L hL) hL λz=>I.ok.exfs L z hL
   exact⟨hk,⟨L,_,hf,hn,e,hd⟩,ih (λb hb=>hs b (by unfold RA; rw [List.filterMap_cons,hf]; exact List.mem_cons_of_mem _ hb)) hr⟩
 exact all X.outer (λ_ hb=>hb) I.ok.funs
theorem Inv.stack(I:Inv X pins σ H s):s.heap.FunFrames X.base X.stack:=by
 rcases I.ok.stk with e | ⟨e,hf⟩
 ·rw [e]; exact I.funs
 ·rw [e]
  obtain⟨m,hn,_⟩:=I.loc
  refine .cons (by rw [I.ok.kind]; decide) hf hn ?_ I.funs
  exact Heap.get?_none_of_le (Nat.le_trans I.ok.bsz I.ok.above)
theorem Inv.stkSub(I:Inv X pins σ H s):∀b∈RA X.stack,b∈X.env.locals::X.fs:=λb hb=>by
 rcases I.ok.stk with e | ⟨e,hf⟩
 ·rw [e] at hb; exact List.mem_cons_of_mem _ hb
 ·rw [e] at hb
  unfold RA at hb
  rw [List.filterMap_cons,hf] at hb
  exact hb
theorem Inv.stkFree(I:Inv X pins σ H s):∀b∈RA X.stack,H b=none:=λb hb=>by
 rcases List.mem_cons.mp (I.stkSub b hb) with e | hb
 ·rw [e]; exact I.free
 ·obtain⟨_,o,ho,_⟩:=I.ok.funs.mem hb
  exact I.base.free b o ho (I.ok.frf b hb) λz=>I.ok.exfs b z hb
theorem Inv.step{g':Array GenState}{t':Nat}{d':Drawn}{ch:List Addr}(I:Inv X pins σ H s)
  (hch:∀b∈ch,(b∈X.ex\/X.s₀.heap.objs.size<=b)/\b≠X.env.locals/\(∀x c,X.env.cells.lookup x=some c->c≠b)/\∀p∈X.pn++pins,p.1≠b)
  (keep:∀b o,b≠X.env.locals->b∉X.fs->b∉ch->s.heap.get? b=some o->H b=none->h'.get? b=some o)
  (slot:∀b o,b≠X.env.locals->b∈X.fs->b∉ch->s.heap.get? b=some o->H b=none->∃sl,h'.get? b=some { o with slots:=sl }) (free:∀b o,b∉ch->s.heap.get? b=some o->H b=none->H' b=none)
  (there:∀b o,b∉ch->s.heap.get? b=some o->∃o',h'.get? b=some o')
  (tups:∀b xs,H b=some (.tup xs)->H' b=some (.tup xs)) (frzs:∀b o u,H b=some (.frz o u)->H' b=some (.frz o u)) (tbls:∀b ps,H b=some (.tbl ps)->∃more,H' b=some (.tbl (ps++more)))
  (ns:∀m,s.heap.Ns X.env.locals m->h'.Ns X.env.locals m) (hok:HOk X.prog X.w H' h') (hg:AllBare g') :
  Inv X pins σ H' { s with heap:=h',gens:=g',drawn:=d',toks:=t' }:=by
 have neL:∀b o,X.s₀.heap.get? b=some o->b≠X.env.locals:=λb o e=>Nat.ne_of_lt (Nat.lt_of_lt_of_le (Heap.lt_size e) I.ok.above)
 have neC:∀b o,X.s₀.heap.get? b=some o->b∉X.ex->b∉ch:=λb o e hx hb=>by
  rcases (hch b hb).1 with z | z
  ·exact hx z
  ·exact absurd (Nat.lt_of_lt_of_le (Heap.lt_size e) z) (Nat.lt_irrefl _)
 have cellK:∀x c,X.env.cells.lookup x=some c->∀v,s.heap.IsCell c v->h'.IsCell c v:=λx c e v ⟨o,ho,hd⟩=>by
  have nch:c∉ch:=λz=>(hch c z).2.2.1 x c e rfl
  by_cases hc:c∈X.fs
  ·obtain⟨sl,q⟩:=slot c o (I.cne x c e) hc nch ho (I.freeC x c e)
   exact⟨_,q,hd⟩
  ·exact⟨o,keep c o (I.cne x c e) hc nch ho (I.freeC x c e),hd⟩
 refine⟨I.ok,I.os,hg,⟨λb o e n hb hx=>?_,λb o e n hb hx=>?_,λb o e n hx=>?_,λb o e hx=>?_,λb xs e=>tups b xs (I.base.tups b xs e),λb o xs e=>frzs b o xs (I.base.frzs b o xs e),λb ps e=>?_⟩,?_,λx c e=>?_,?_,λx c e=>?_,λp hp=>?_,hok,I.len⟩
 ·exact keep b o (neL b o e) hb (neC b o e hx) (I.base.keep b o e n hb hx) (I.base.free b o e n hx)
 ·obtain⟨sl,e1⟩:=I.base.slot b o e n hb hx
  obtain⟨sl',e2⟩:=slot b _ (neL b o e) hb (neC b o e hx) e1 (I.base.free b o e n hx)
  exact⟨sl',e2⟩
 ·obtain⟨o',e1⟩:=I.base.there b o e hx
  exact free b o' (neC b o e hx) e1 (I.base.free b o e n hx)
 ·obtain⟨o',e1⟩:=I.base.there b o e hx
  exact there b o' (neC b o e hx) e1
 ·obtain⟨m1,e1⟩:=I.base.tbls b ps e
  obtain⟨m2,e2⟩:=tbls b _ e1
  exact⟨m1++m2,by rw [e2,Array.append_assoc]⟩
 ·obtain⟨m,hn,hl⟩:=I.loc
  refine⟨m,ns m hn,λi x v e1 e2 e3=>?_⟩
  obtain⟨u,r,l⟩:=hl i x v e1 e2 e3
  refine⟨u,r,?_⟩
  rcases l with l | ⟨k,c,e,z⟩
  ·exact .inl l
  ·exact .inr ⟨k,c,e,cellK x c e _ z⟩
 ·obtain⟨v,z⟩:=I.cell x c e
  exact⟨v,cellK x c e v z⟩
 ·obtain⟨m,⟨o,_,_,ho,_⟩,_⟩:=I.loc
  exact free _ o (λz=>(hch _ z).2.1 rfl) ho I.free
 ·obtain⟨v,o,ho,hd⟩:=I.cell x c e
  exact free c o (λz=>(hch c z).2.2.1 x c e rfl) ho (I.freeC x c e)
 ·obtain⟨e,n,ne,nf,d⟩:=I.pin p hp
  have nch:p.1∉ch:=λz=>(hch p.1 z).2.2.2 p hp rfl
  exact⟨keep p.1 p.2 ne nf nch e n,free p.1 p.2 nch e n,ne,nf,d⟩
theorem Inv.un{t':Nat}(I:Inv X pins σ H s)(u:Un X.fs [] H H' s.heap h')(hok:HOk X.prog X.w H' h'):Inv X pins σ H' { s with heap:=h',toks:=t' }:=by
 obtain⟨m,⟨o,es,ep,ho,r⟩,_⟩:=id I.loc
 obtain⟨sl,hL⟩:=u.any ho I.free (by simp)
 exact I.step (g':=s.gens) (d':=s.drawn) (ch:=[]) (λ_ z=>nomatch z) (λb o _ hb _ e n=>u.keep b o e n hb (by simp)) (λb o _ hb _ e n=>u.slot b o e n hb (by simp)) (λb o _ e n=>u.free b o e n (by simp)) (λb o _ e=>u.there b o e (by simp)) u.tups u.frzs u.tbls (λm' hm=>by
  obtain⟨o',es',ep',ho',r'⟩:=hm
  rw [ho] at ho'; cases ho'
  exact⟨_,es',ep',hL,r'⟩) hok I.bare
theorem Inv.call{g':Array GenState}{t':Nat}{d':Drawn}{ch:List Addr}(I:Inv X pins σ H s)(u:Un (RA X.stack) ch H H' s.heap h')(hok:HOk X.prog X.w H' h')(hg:AllBare g')
  (hch:∀b∈ch,(b∈X.ex\/X.s₀.heap.objs.size<=b)/\b≠X.env.locals/\(∀x c,X.env.cells.lookup x=some c->c≠b)/\∀p∈X.pn++pins,p.1≠b) :
  Inv X pins σ H' { s with heap:=h',gens:=g',drawn:=d',toks:=t' }:=by
 obtain⟨m,⟨o,es,ep,ho,r⟩,_⟩:=id I.loc
 obtain⟨sl,hL⟩:=u.any ho I.free λz=>(hch _ z).2.1 rfl
 exact I.step (ch:=ch) hch (λb o hL hb hc e n=>u.keep b o e n (λz=>(List.mem_cons.mp (I.stkSub b z)).elim hL hb) hc) (λb o _ _ hc e n=>u.any e n hc) (λb o hc e n=>u.free b o e n hc) (λb o hc e=>u.there b o e hc) u.tups u.frzs u.tbls (λm' hm=>by
  obtain⟨o',es',ep',ho',r'⟩:=hm
  rw [ho] at ho'; cases ho'
  exact⟨_,es',ep',hL,r'⟩) hok hg
theorem Inv.turned{t':Nat}{it:Addr}(I:Inv X pins σ H s)(k:∀b o,b≠it->s.heap.get? b=some o->h'.get? b=some o)(hn:H it=none)(hL:it≠X.env.locals)
  (h1:it∈X.ex\/X.s₀.heap.objs.size<=it) (h2:∀x c,X.env.cells.lookup x=some c->c≠it) (h3:∀p∈X.pn++pins,p.1≠it):Inv X pins σ H { s with heap:=h',toks:=t' }:=by
 have nit:∀b u,H b=some u->b≠it:=λb u e z=>by rw [z,hn] at e; cases e
 refine I.step (g':=s.gens) (d':=s.drawn) (ch:=[it]) (λb hb=>?_) (λb o _ _ hc e _=>k b o (λz=>hc (by simp [z])) e) (λb o _ _ hc e _=>⟨o.slots,k b o (λz=>hc (by simp [z])) e⟩) (λ_ _ _ _ n=>n)
  (λb o hc e=>⟨o,k b o (λz=>hc (by simp [z])) e⟩) (λ_ _ e=>e) (λ_ _ _ e=>e) (λb ps e=>⟨#[],by rw [e]; simp⟩) (λm hm=>?_) (λb u e=>?_) I.bare
 ·have e:b=it:=by simpa using hb
  subst e
  exact⟨h1,hL,h2,h3⟩
 ·obtain⟨o,es,ep,ho,r⟩:=hm
  exact⟨o,es,ep,k _ o (Ne.symm hL) ho,r⟩
 ·refine(I.hok b u e).stay (λc v hc q=>k c v ?_ q) (λ_ q=>q) λ_ _ q=>q
  rcases hc with z | z
  ·rw [z]; exact nit b u e
  ·exact nit c _ z
theorem Inv.tok(I:Inv X pins σ H s)(t:Nat):Inv X pins σ H { s with toks:=t }:=I.un (h':=s.heap) (t':=t) Un.refl I.hok
theorem Inv.kept{t':Nat}(I:Inv X pins σ H s)(k:∀b u,s.heap.get? b=some u->h'.get? b=some u):Inv X pins σ H { s with heap:=h',toks:=t' }:=I.un (Un.kept k) (I.hok.kept k)
theorem Inv.laid{a:Addr}{o:HO}{t':Nat}(I:Inv X pins σ H s)(k:∀b u,s.heap.get? b=some u->h'.get? b=some u)(hp:s.heap.objs.size<=a)(new:ObjOk X.prog X.w (BG H a o) h' a o) :
  Inv X pins σ (BG H a o) { s with heap:=h',toks:=t' }:=I.un (Un.laid k hp (I.hok.fresh hp)) (I.hok.laid k hp new)
theorem Inv.write{x e:Addr}{o:HO}{t':Nat}(I:Inv X pins σ H s)(mu:XW (H x))(he:e=x\/H e=some (.own x))(k:∀b u,b≠e->s.heap.get? b=some u->h'.get? b=some u)(heo:∃u,h'.get? e=some u)
  (new:ObjOk X.prog X.w (BG H x o) h' x o):Inv X pins σ (BG H x o) { s with heap:=h',toks:=t' }:=I.un (Un.write mu he k heo) (I.hok.write mu he k heo new)
theorem Inv.pins_of{pins':List (Addr×Obj)}(I:Inv X pins σ H s)(h:∀p∈pins',s.heap.get? p.1=some p.2/\H p.1=none/\p.1≠X.env.locals/\p.1∉X.fs/\∀v,p.2.data≠.cell v):Inv X pins' σ H s :=
 ⟨I.ok,I.os,I.bare,I.base,I.loc,I.cell,I.free,I.freeC,λp hp=>(List.mem_append.mp hp).elim (λz=>I.pin p (List.mem_append_left _ z)) (h p),I.hok,I.len⟩
theorem Mr{N:List Str}(hN:N.Nodup){i j:Nat}{x:Str}(a:N[i]?=some x)(b:N[j]?=some x):i=j:=by
 obtain⟨h1,e1⟩:=List.getElem?_eq_some_iff.mp a
 obtain⟨h2,e2⟩:=List.getElem?_eq_some_iff.mp b
 exact(List.getElem_inj hN).mp (e1.trans e2.symm)
theorem KR{M:Model}{A:Around}{E:Value->Shared->Prop}{i:Nat}{x:Str}{v:V}{u:Value}{Q:Unit->Shared->Prop}(I:Inv X pins σ H s)(hN:X.N.Nodup)(hi:X.N[i]?=some x)(hx:Loc X.env.scope x)(r:RelV v u)
  (h:∀s',Inv X pins (σ.set i (some v)) H s'->(∃a,Heap.SameBut a s.heap s'.heap/\(a=X.env.locals\/X.env.cells.lookup x=some a))->Q () s') (hf:X.fn x=true\/X.env.scope.names.lookup x=some .local:=by first | exact .inl rfl | exact .inr rfl | assumption):wpAny M A (storeName X.env x u) Q E s:=by
 obtain⟨m,hn,hl⟩:=id I.loc
 have hcls:(X.env.scope.kind==.class||(X.env.scope.kind==.module&&X.env.locals != X.env.globals))=false:=by rw [I.ok.kind]; rfl
 have hiσ:i<σ.length:=by rw [I.len]; exact(List.getElem?_eq_some_iff.mp hi).1
 have cne:=I.cne
 have tracked:∀{a:Addr} {h':Heap},(∃o,s.heap.get? a=some o/\H a=none)->Heap.SameBut a s.heap h'->HOk X.prog X.w H h':=λ{a h'} ha hs b ob e=>by
  obtain⟨_,_,hfree⟩:=ha
  refine(I.hok b ob e).stay (λc w' hc q=>(hs.2 c ?_).trans q) (λ_ q=>q) λ_ _ q=>q
  rintro rfl
  rcases hc with rfl | hc
  ·rw [hfree] at e; cases e
  ·rw [hfree] at hc; cases hc
 rcases hx with hk | hk
 ·refine wpAny_storeName_local hk hn (λh' hn' hs=>?_) hcls
  obtain⟨oL,_,_,hoL,_⟩:=id hn
  refine h _ ⟨I.ok,I.os,I.bare,⟨λb o e n hb hx=>?_,λb o e n hb hx=>?_,I.base.free,λb o e hx=>?_,I.base.tups,I.base.frzs,I.base.tbls⟩,⟨_,hn',λj y v' e1 e2 e3=>?_⟩,λy c e=>?_,I.free,I.freeC,λp hp=>?_,tracked ⟨oL,hoL,I.free⟩ hs,by simpa using I.len⟩ ⟨_,hs,.inl rfl⟩
  ·exact(hs.2 b (Nat.ne_of_lt (Nat.lt_of_lt_of_le (Heap.lt_size e) I.ok.above))).trans (I.base.keep b o e n hb hx)
  ·obtain⟨sl,e1⟩:=I.base.slot b o e n hb hx
   exact⟨sl,(hs.2 b (Nat.ne_of_lt (Nat.lt_of_lt_of_le (Heap.lt_size e) I.ok.above))).trans e1⟩
  ·obtain⟨o',e1⟩:=I.base.there b o e hx
   exact⟨o',(hs.2 b (Nat.ne_of_lt (Nat.lt_of_lt_of_le (Heap.lt_size e) I.ok.above))).trans e1⟩
  ·by_cases hj:j=i
   ·subst hj
    rw [hi] at e1; cases e1
    rw [List.getElem?_set_self hiσ] at e2
    cases e2
    exact⟨u,r,.inl ⟨hk,by simp⟩⟩
   ·rw [List.getElem?_set_ne (Ne.symm hj)] at e2
    obtain⟨u',r',q⟩:=hl j y v' e1 e2 e3
    refine⟨u',r',?_⟩
    rcases q with ⟨k,e⟩ | ⟨k,c,e,z⟩
    ·refine .inl ⟨k,?_⟩
     have:y≠x:=λe=>hj (Mr hN e1 (e▸hi))
     simp [this,e]
    ·exact .inr ⟨k,c,e,z.sameBut hs (cne y c e)⟩
  ·obtain⟨w',z⟩:=I.cell y c e
   exact⟨w',z.sameBut hs (cne y c e)⟩
  ·obtain⟨e,n,ne,nf,d⟩:=I.pin p hp
   exact⟨(hs.2 p.1 ne).trans e,n,ne,nf,d⟩
 ·have hfn:X.fn x=true:=by
   rcases hf with z | z
   ·exact z
   ·rw [z] at hk; cases hk
  obtain⟨c,hc⟩:=I.ok.has x (.inl hk)
  obtain⟨w',z⟩:=I.cell x c hc
  refine wpAny_storeName_cell I.ok.kind hk hc z (λh' hc' hs=>?_)
  obtain⟨oc,hoc,hocd⟩:=id z
  refine h { s with heap:=h' } ⟨I.ok,I.os,I.bare,⟨λb o e n hb hx=>?_,λb o e n hb hx=>?_,I.base.free,λb o e hx=>?_,I.base.tups,I.base.frzs,I.base.tbls⟩,⟨m,hn.sameBut hs (Ne.symm (cne x c hc)),λj y v' e1 e2 e3=>?_⟩,λy c' e=>?_,I.free,I.freeC,λp hp=>?_,tracked ⟨oc,hoc,I.freeC x c hc⟩ hs,by simpa using I.len⟩ ⟨c,hs,.inr hc⟩
  ·exact(hs.2 b (Nat.ne_of_lt (Nat.lt_of_lt_of_le (Heap.lt_size e) (I.ok.cab x c hfn hc)))).trans (I.base.keep b o e n hb hx)
  ·obtain⟨sl,e1⟩:=I.base.slot b o e n hb hx
   exact⟨sl,(hs.2 b (Nat.ne_of_lt (Nat.lt_of_lt_of_le (Heap.lt_size e) (I.ok.cab x c hfn hc)))).trans e1⟩
  ·obtain⟨o',e1⟩:=I.base.there b o e hx
   exact⟨o',(hs.2 b (Nat.ne_of_lt (Nat.lt_of_lt_of_le (Heap.lt_size e) (I.ok.cab x c hfn hc)))).trans e1⟩
  ·by_cases hj:j=i
   ·subst hj
    rw [hi] at e1; cases e1
    rw [List.getElem?_set_self hiσ] at e2
    cases e2
    exact⟨u,r,.inr ⟨.inl hk,c,hc,hc'⟩⟩
   ·rw [List.getElem?_set_ne (Ne.symm hj)] at e2
    obtain⟨u',r',q⟩:=hl j y v' e1 e2 e3
    refine⟨u',r',?_⟩
    rcases q with q | ⟨k,c',e,z'⟩
    ·exact .inl q
    ·refine .inr ⟨k,c',e,z'.sameBut hs ?_⟩
     rintro rfl
     exact hj (Mr hN e1 (I.ok.inj _ _ _ e hc▸hi))
  ·by_cases hcc:c'=c
   ·subst hcc; exact⟨_,hc'⟩
   ·obtain⟨w2,z2⟩:=I.cell y c' e
    exact⟨w2,z2.sameBut hs hcc⟩
  ·obtain⟨e,n,ne,nf,d⟩:=I.pin p hp
   refine⟨(hs.2 p.1 ?_).trans e,n,ne,nf,d⟩
   intro q
   rw [q,hoc] at e
   have q':oc=p.2:=Option.some.inj e
   exact d w' (by rw [← q']; exact hocd)
theorem IT{M:Model}{A:Around}{E:Value->Shared->Prop}{i:Nat}{x:Str}{v:V}{u:Value}{Q:Unit->Shared->Prop}(I:Inv X pins σ H s)(hN:X.N.Nodup)(hi:X.N[i]?=some x)(hx:Loc X.env.scope x)(r:RelV v u)
  (h:∀s',Inv X pins (σ.set i (some v)) H s'->Q () s') (hf:X.fn x=true\/X.env.scope.names.lookup x=some .local:=by first | exact .inl rfl | exact .inr rfl | assumption):wpAny M A (storeName X.env x u) Q E s :=
 KR I hN hi hx r (λs' I' _=>h s' I') hf
theorem Inv.call'{s':Shared}{ch:List Addr}(I:Inv X pins σ H s)(ho:s'.os=s.os)(u:Un (RA X.stack) ch H H' s.heap s'.heap)(hok:HOk X.prog X.w H' s'.heap)(hg:AllBare s'.gens)
  (hch:∀b∈ch,(b∈X.ex\/X.s₀.heap.objs.size<=b)/\b≠X.env.locals/\(∀x c,X.env.cells.lookup x=some c->c≠b)/\∀p∈X.pn++pins,p.1≠b):Inv X pins σ H' s':=by
 obtain⟨h',g',d',t',o'⟩:=s'
 have e:o'=s.os:=ho
 subst e
 exact I.call (g':=g') (t':=t') (d':=d') u hok hg hch
end
abbrev XK:=Value->Option Addr->Hp->Prop
abbrev St:=List (Option V)
abbrev VK:=V->Hp->Prop
abbrev TE:=St->Hp->VK->Prop
abbrev TT:=St->Hp->(Bool->Hp->Prop)->Prop
abbrev TA:=St->Hp->(List V->Hp->Prop)->Prop
structure Ends where
 nx:St->Hp->Prop
 rt:VK
 bk:St->Hp->Prop:=λ_ _=>False
 ct:St->Hp->Prop:=λ_ _=>False
abbrev TS:=Ends->St->Hp->Prop
def EP(X:Cx)(pins:List (Addr×Obj))(σ:St)(Q:VK)(u:Value)(s':Shared):Prop:=∃v H',Inv X pins σ H' s'/\RelV v u/\Q v H'
def TP(X:Cx)(pins:List (Addr×Obj))(σ:St)(Q:Bool->Hp->Prop)(b:Bool)(s':Shared):Prop:=∃H',Inv X pins σ H' s'/\Q b H'
def AP(X:Cx)(pins:List (Addr×Obj))(σ:St)(Q:List V->Hp->Prop)(us:List Value)(s':Shared):Prop:=∃vs H',Inv X pins σ H' s'/\Vals vs us/\Q vs H'
def SP(X:Cx)(pins:List (Addr×Obj))(D:Ends)(f:Flow)(s':Shared):Prop :=
 match f with
 | .next=>∃σ' H',Inv X pins σ' H' s'/\D.nx σ' H'
 | .brk=>∃σ' H',Inv X pins σ' H' s'/\D.bk σ' H'
 | .cont=>∃σ' H',Inv X pins σ' H' s'/\D.ct σ' H'
 | .ret u=>∃v σ' H',Inv X pins σ' H' s'/\RelV v u/\D.rt v H'
def PE(X:Cx)(e:Expr)(t:TE):Prop :=
 ∀(pins:List (Addr×Obj)) (s:Shared) (σ:St) (H:Hp) (Q:VK),Inv X pins σ H s->t σ H Q->wpAny (model X.prog X.w) X.A (eval e X.env) (EP X pins σ Q) X.xe s
def PT(X:Cx)(e:Expr)(t:TT):Prop :=
 ∀(pins:List (Addr×Obj)) (s:Shared) (σ:St) (H:Hp) (Q:Bool->Hp->Prop),Inv X pins σ H s->t σ H Q->wpAny (model X.prog X.w) X.A (isTrue e X.env (eval e X.env)) (TP X pins σ Q) X.xe s
def PW(X:Cx)(e:Expr)(t:TT):Prop :=
 ∀(whole:Sem Value) (pins:List (Addr×Obj)) (s:Shared) (σ:St) (H:Hp) (Q:Bool->Hp->Prop),Inv X pins σ H s->t σ H Q->wpAny (model X.prog X.w) X.A (isTrue e X.env whole) (TP X pins σ Q) X.xe s
theorem PW.pt{X:Cx}{e:Expr}{t:TT}(h:PW X e t):PT X e t:=h _
def PA(X:Cx)(es:List Expr)(t:TA):Prop :=
 ∀(pos:Pos) (pins:List (Addr×Obj)) (s:Shared) (σ:St) (H:Hp) (Q:List V->Hp->Prop),Inv X pins σ H s->t σ H Q->wpAny (model X.prog X.w) X.A (spliced (backTo pos (starEach es X.env))) (AP X pins σ Q) X.xe s
def PS(X:Cx)(st:Stmt)(t:TS):Prop :=
 ∀(pins:List (Addr×Obj)) (s:Shared) (σ:St) (H:Hp) (D:Ends),Inv X pins σ H s->t D σ H->wpAny (model X.prog X.w) X.A (exec st X.env) (SP X pins D) X.xe s
def PSs(X:Cx)(st:List Stmt)(t:TS):Prop :=
 ∀(pins:List (Addr×Obj)) (s:Shared) (σ:St) (H:Hp) (D:Ends),Inv X pins σ H s->t D σ H->wpAny (model X.prog X.w) X.A (execs st X.env) (SP X pins D) X.xe s
theorem thn{α:Type}{t:Sem α}{Q Q':α->Shared->Prop}{M:Model}{A:Around}{E:Value->Shared->Prop}{s:Shared}(h:wpAny M A t Q E s)(hQ:∀a s,Q a s->Q' a s):wpAny M A t Q' E s:=wpAny_mono h hQ λ_ _ x=>x
section
variable {X:Cx}
def CN(i:Nat):TE:=λσ H Q=>∃v,σ[i]?=some (some v)/\Q v H
def tC(v:V):TE:=λ_ H Q=>Q v H
theorem LW{i:Nat}{x:Str}{pos:Pos}(hN:X.N[i]?=some x)(hv:V2 X.env.scope x)(hd:(x==("__debug__" : Str))=false:=by decide)(hcd:(x==("__classdict__" : Str))=false:=by decide):PE X (.Name x pos) (CN i):=by
 intro pins s σ H Q I h
 obtain⟨v,e,h⟩:=h
 obtain⟨m,hn,hl⟩:=I.loc
 obtain⟨u,r,l⟩:=hl i x v hN e hv
 have fin:EP X pins σ Q u s:=⟨v,H,I,r,h⟩
 rcases l with ⟨hk,hm⟩ | ⟨hk,c,hc,hcell⟩
 ·exact wpAny_Name (wpAny_loadName_local I.ok.kind hk hn hm fin) hd
 ·rcases hk with hk | hk
  ·exact wpAny_Name (wpAny_loadName_cell I.ok.kind hk hc hcell fin) hd
  ·exact wpAny_Name (wpAny_loadName_free I.ok.kind hk hc hcell fin hcd) hd
theorem A2{i j pos}:PE X (.Constant (.int i) j pos) (tC (.int i)):=λ_ _ _ H _ I h=>wpAny_Constant_int ⟨.int i,H,I.tok _,⟨_,rfl⟩,h⟩
theorem Wv{b j pos}:PE X (.Constant (.bool b) j pos) (tC (.bl b)):=λ_ _ _ H _ I h=>Constant_bool ⟨.bl b,H,I,rfl,h⟩
theorem VJ{j pos}:PE X (.Constant .none j pos) (tC .non):=λ_ _ _ H _ I h=>Constant_none ⟨.non,H,I,rfl,h⟩
theorem VG{x j pos}:PE X (.Constant (.str x) j pos) (tC (.str x)):=λ_ _ _ H _ I h=>Calls.Constant_str ⟨.str x,H,I.tok _,⟨_,rfl⟩,h⟩
def Gl(X:Cx)(x:Str):Prop:=X.env.kindOf x=some .globalImplicit
theorem PM{E:Value->Shared->Prop}{pins:List (Addr×Obj)}{s:Shared}{σ:St}{H:Hp}{x:Str}{u:Value}{pos:Pos}{Q:Value->Shared->Prop}(I:Inv X pins σ H s)(hg:Gl X x)(hm:X.mg x=some u)(h:Q u s)
  (hd:(x==("__debug__" : Str))=false:=by decide):wpAny (model X.prog X.w) X.A (eval (.Name x pos) X.env) Q E s :=
 Calls.Name_function_global I.ok.kind hg (Calls.loadGlobal_global (by rw [I.ok.glob]; exact I.mod.glob.keeps I.bk) hm h) hd
theorem Dz{E:Value->Shared->Prop}{pins:List (Addr×Obj)}{s:Shared}{σ:St}{H:Hp}{x:Str}{u:Value}{pos:Pos}{Q:Value->Shared->Prop}(I:Inv X pins σ H s)(hg:Gl X x)(hm:X.mg x=none)(hv:bootBuiltins x=some u)(h:Q u s)
  (hn:x ≠ "__name__":=by decide) (hd:(x==("__debug__" : Str))=false:=by decide):wpAny (model X.prog X.w) X.A (eval (.Name x pos) X.env) Q E s:=by
 obtain⟨mb,h1,h2⟩:=I.mod.blt
 exact Calls.Name_function_global I.ok.kind hg (Calls.loadGlobal_builtin (by rw [I.ok.glob]; exact I.mod.glob.keeps I.bk) hm (by rw [I.ok.blt]; exact h1.keeps I.bk) ((h2 x hn).trans hv) h) hd
theorem TZ{x:Str}{v:V}{u:Value}{pos:Pos}(hg:Gl X x)(hm:X.mg x=none)(hv:bootBuiltins x=some u)(r:RelV v u)(hn:x ≠ "__name__":=by decide)(hd:(x==("__debug__" : Str))=false:=by decide):PE X (.Name x pos) (tC v) :=
 λ_ _ _ H _ I h=>Dz I hg hm hv ⟨v,H,I,r,h⟩ hn hd
variable {a b:Expr}{ta tb:TE}{pos:Pos}
def tB(t:TE):TT:=λσ H Q=>t σ H λx H1=>∃c,x=.bl c/\Q c H1
theorem VC{e:Expr}{t:TE}(h:PE X e t)(he:∀whole,isTrue e X.env whole=(do let v ← whole; standAt e.pos; holding [v] (truthy v)):=by intro _; rfl):PT X e (tB t):=by
 intro pins s σ H Q I hw
 refine isTrue_plain (thn (h pins s σ H _ I hw) λv s1 ⟨x,H1,I1,r1,q1⟩=>?_) (he _)
 obtain⟨d,rfl,q⟩:=q1
 cases r1
 exact wpAny_truthy_bool ⟨H1,I1,q⟩
variable {tA tB':TT}{rest:List Expr}
def WX(t u:TT):TT:=λσ H Q=>t σ H λc H1=>if c=true then u σ H1 Q else Q false H1
def Ya(t u:TT):TT:=λσ H Q=>t σ H λc H1=>if c=true then Q true H1 else u σ H1 Q
def Xt(t:TT):TT:=λσ H Q=>t σ H λc H1=>Q (!c) H1
theorem O2(ha:PT X a tA):PW X (.BoolOp .And [a] pos) tA:=by
 intro wh pins s σ H Q I h
 refine isTrue_and (thn (ha pins s σ H Q I h) λc s1 e=>?_)
 cases c with
 | true=>exact isTrue_and_nil e
 | false=>exact e
theorem VB(ha:PT X a tA):PW X (.BoolOp .Or [a] pos) tA:=by
 intro wh pins s σ H Q I h
 refine isTrue_or (thn (ha pins s σ H Q I h) λc s1 e=>?_)
 cases c with
 | false=>exact isTrue_or_nil e
 | true=>exact e
theorem Rh(ha:PT X a tA)(hb:PW X (.BoolOp .And (b::rest) pos) tB'):PW X (.BoolOp .And (a::b::rest) pos) (WX tA tB'):=by
 intro wh pins s σ H Q I h
 refine isTrue_and (thn (ha pins s σ H _ I h) λc s1 ⟨H1,I1,q1⟩=>?_)
 cases c with
 | true=>exact hb wh pins s1 σ H1 Q I1 q1
 | false=>exact⟨H1,I1,q1⟩
theorem Ws(ha:PT X a tA)(hb:PW X (.BoolOp .Or (b::rest) pos) tB'):PW X (.BoolOp .Or (a::b::rest) pos) (Ya tA tB'):=by
 intro wh pins s σ H Q I h
 refine isTrue_or (thn (ha pins s σ H _ I h) λc s1 ⟨H1,I1,q1⟩=>?_)
 cases c with
 | true=>exact⟨H1,I1,q1⟩
 | false=>exact hb wh pins s1 σ H1 Q I1 q1
theorem VD(ha:PT X a tA):PT X (.UnaryOp .Not a pos) (Xt tA):=by
 intro pins s σ H Q I h
 exact isTrue_not (ha pins s σ H (λc H1=>Q (!c) H1) I h)
def WW(ta tb:TE):TE:=λσ H Q=>ta σ H λx H1=>∃c,x=.bl c/\if c=true then tb σ H1 Q else Q (.bl false) H1
def WR(ta:TE):TE:=λσ H Q=>ta σ H λx H1=>∃c,x=.bl c/\Q (.bl (!c)) H1
theorem VH{op}{t:TE}(h:PE X a t):PE X (.BoolOp op [a] pos) t:=λpins s σ H Q I hw=>BoolOp_one (h pins s σ H Q I hw)
theorem VM(ha:PE X a ta)(hb:PE X (.BoolOp .And (b::rest) pos) tb):PE X (.BoolOp .And (a::b::rest) pos) (WW ta tb):=by
 intro pins s σ H Q I h
 refine BoolOp_and (thn (ha pins s σ H _ I h) λv s1 ⟨x,H1,I1,r1,q1⟩=>?_)
 obtain⟨c,rfl,q1⟩:=q1
 cases r1
 refine wpAny_truthy_bool ?_
 cases c with
 | true=>exact hb pins s1 σ H1 Q I1 q1
 | false=>exact⟨.bl false,H1,I1,rfl,q1⟩
theorem VI(ha:PE X a ta):PE X (.UnaryOp .Not a pos) (WR ta):=by
 intro pins s σ H Q I h
 refine UnaryOp_ (thn (ha pins s σ H _ I h) λv s1 ⟨x,H1,I1,r1,q1⟩=>?_)
 obtain⟨c,rfl,q1⟩:=q1
 cases r1
 exact not_of (wpAny_truthy_bool ⟨.bl (!c),H1,I1,rfl,q1⟩)
def Yb(t:TT)(ta tb:TE):TE:=λσ H Q=>t σ H λc H1=>if c=true then ta σ H1 Q else tb σ H1 Q
theorem Mf{c:Expr}(hc:PT X c tA)(ha:PE X a ta)(hb:PE X b tb):PE X (.IfExp c a b pos) (Yb tA ta tb):=by
 intro pins s σ H Q I h
 refine wpAny_IfExp (thn (hc pins s σ H _ I h) λd s1 ⟨H1,I1,q1⟩=>?_)
 cases d with
 | true=>exact ha pins s1 σ H1 Q I1 q1
 | false=>exact hb pins s1 σ H1 Q I1 q1
end
def SqL(K:Frag)(H:Hp)(a:Addr)(xs:List V):Prop :=
 Rd H a (.lst xs) \/
  ∃(o:Obj) (its:Array Value) (n:Nat),K.lookup a=some o/\o.cls=.type "list"/\o.dict=none/\o.data=.seq its n/\its.size<=sizeLine/\Vals xs its.toList
def SqT(K:Frag)(H:Hp)(a:Addr)(xs:List V):Prop :=
 Rd H a (.tup xs) \/
  ∃(o:Obj) (its:Array Value) (n:Nat),K.lookup a=some o/\o.cls=.type "tuple"/\o.data=.seq its n/\its.size<=sizeLine/\Vals xs its.toList
def YE:Value->Option V
 | .none=>some .non
 | .bool b=>some (.bl b)
 | .int i _=>some (.int i)
 | .str x _=>some (.str x)
 | .bytes b _=>some (.byt b)
 | .float b _=>some (.flt b)
 | .ref a=>some (.ref a)
 | .type n=>some (.ty n)
 | _=>none
theorem RelV.abs{x:V}{u:Value}(r:RelV x u):YE u=some x:=by
 cases x with
 | non=>cases r; rfl
 | bl _=>cases r; rfl
 | int _=>obtain⟨t,rfl⟩:=r; rfl
 | str _=>obtain⟨t,rfl⟩:=r; rfl
 | byt _=>obtain⟨t,rfl⟩:=r; rfl
 | flt _=>obtain⟨t,rfl⟩:=r; rfl
 | ref _=>cases r; rfl
 | ty _=>cases r; rfl
theorem RelV.inj{x y:V}{u:Value}(r:RelV x u)(q:RelV y u):x=y:=Option.some.inj (r.abs.symm.trans q.abs)
theorem Vals.inj:∀{xs ys:List V} {us:List Value},Vals xs us->Vals ys us->xs=ys
 | _,_,_,.nil,.nil=>rfl
 | _,_,_,.cons r t,.cons r' t'=>by rw [r.inj r',Vals.inj t t']
section
variable {X:Cx}{pins:List (Addr×Obj)}{σ:St}{H:Hp}{s:Shared}{a:Addr}{xs ys:List V}
theorem SqL.of{K:Frag}(h:H a=some (.lst xs)):SqL K H a xs:=.inl (.inl h)
theorem SqT.of{K:Frag}(h:H a=some (.tup xs)):SqT K H a xs:=.inl (.inl h)
theorem Inv.list(I:Inv X pins σ H s)(h:SqL X.K H a xs):∃its:List Value,Vals xs its/\PlainL s.heap a its.toArray/\xs.length<=sizeLine:=by
 rcases h with h | ⟨o,its,n,hk,hc,hd,hs,hz,r⟩
 ·obtain⟨z,its,n,r,e⟩:=h.ok I.hok
  exact⟨its,r,⟨_,n,e,rfl,rfl,rfl⟩,z⟩
 ·refine⟨its.toList,r,⟨o,n,I.kIn a o hk,hc,hd,by simpa using hs⟩,?_⟩
  have e:=r.length
  simp only [Array.length_toList] at e
  omega
theorem Inv.tuple(I:Inv X pins σ H s)(h:SqT X.K H a xs):∃its:List Value,Vals xs its/\IsTup s.heap a its.toArray/\xs.length<=sizeLine:=by
 rcases h with h | ⟨o,its,n,hk,hc,hs,hz,r⟩
 ·obtain⟨z,its,r,p⟩:=h.ok I.hok
  exact⟨its,r,p.tup,z⟩
 ·refine⟨its.toList,r,⟨o,I.kIn a o hk,hc,n,by simpa using hs⟩,?_⟩
  have e:=r.length
  simp only [Array.length_toList] at e
  omega
theorem Inv.list_inj(I:Inv X pins σ H s)(h:SqL X.K H a xs)(h':SqL X.K H a ys):xs=ys:=by
 obtain⟨its,r,⟨o,n,e,_,_,d⟩,_⟩:=I.list h
 obtain⟨its',r',⟨o',n',e',_,_,d'⟩,_⟩:=I.list h'
 rw [e] at e'; cases e'
 rw [d] at d'
 injection d' with d1 _
 have:its=its':=by simpa using congrArg Array.toList d1
 subst this
 exact r.inj r'
theorem Inv.tuple_inj(I:Inv X pins σ H s)(h:SqT X.K H a xs)(h':SqT X.K H a ys):xs=ys:=by
 obtain⟨its,r,⟨o,e,_,n,d⟩,_⟩:=I.tuple h
 obtain⟨its',r',⟨o',e',_,n',d'⟩,_⟩:=I.tuple h'
 rw [e] at e'; cases e'
 rw [d] at d'
 injection d' with d1 _
 have:its=its':=by simpa using congrArg Array.toList d1
 subst this
 exact r.inj r'
end
abbrev Cx.wish(X:Cx)(E:Value->Shared->Prop):Cx:={ X with xe:=E }
abbrev Cx.nox(X:Cx):Cx:=X.wish λ_ _=>False
theorem Cx.Ok.wish{X:Cx}(ok:X.Ok)(E:Value->Shared->Prop):(X.wish E).Ok :=
 ⟨ok.mod,ok.kind,ok.glob,ok.blt,ok.above,ok.inj,ok.has,ok.cab,ok.hd,ok.frames,ok.stk,ok.exf,ok.bs,ok.bsz,ok.noex,ok.exfs,ok.funs,ok.frf⟩
theorem Cx.Ok.unwish{X:Cx}{E:Value->Shared->Prop}(ok:(X.wish E).Ok):X.Ok :=
 ⟨ok.mod,ok.kind,ok.glob,ok.blt,ok.above,ok.inj,ok.has,ok.cab,ok.hd,ok.frames,ok.stk,ok.exf,ok.bs,ok.bsz,ok.noex,ok.exfs,ok.funs,ok.frf⟩
section
variable {X:Cx}{pins:List (Addr×Obj)}{σ:St}{H:Hp}{s:Shared}{E:Value->Shared->Prop}
theorem Inv.wish(I:Inv X pins σ H s)(E:Value->Shared->Prop):Inv (X.wish E) pins σ H s:=⟨I.ok.wish E,I.os,I.bare,I.base,I.loc,I.cell,I.free,I.freeC,I.pin,I.hok,I.len⟩
theorem Inv.unwish(I:Inv (X.wish E) pins σ H s):Inv X pins σ H s:=⟨I.ok.unwish,I.os,I.bare,I.base,I.loc,I.cell,I.free,I.freeC,I.pin,I.hok,I.len⟩
theorem SP.unwish{D:Ends}{f:Flow}{s':Shared}(h:SP (X.wish E) pins D f s'):SP X pins D f s':=by
 cases f with
 | next=>obtain⟨σ',H',I,q⟩:=h; exact⟨σ',H',I.unwish,q⟩
 | brk=>obtain⟨σ',H',I,q⟩:=h; exact⟨σ',H',I.unwish,q⟩
 | cont=>obtain⟨σ',H',I,q⟩:=h; exact⟨σ',H',I.unwish,q⟩
 | ret u=>obtain⟨v,σ',H',I,r,q⟩:=h; exact⟨v,σ',H',I.unwish,r,q⟩
theorem PSs.nox{st:List Stmt}{t:TS}(h:PSs X.nox st t):PSs X st t:=λpins s σ H D I hw =>
 wpAny_mono (h pins s σ H D (I.wish _) hw) (λ_ _ q=>q.unwish) λ_ _ z=>False.elim z
end
section
variable {X:Cx}{st:Stmt}{rest:List Stmt}{t u:TS}{e:Expr}{te:TE}{pos:Pos}
def UG:TS:=λD σ H=>D.nx σ H
def P9(t u:TS):TS:=λD σ H=>t { D with nx:=u D } σ H
theorem LR:PSs X [] UG:=λ_ _ σ H _ I h=>wpAny_execs_nil ⟨σ,H,I,h⟩
theorem BU(h1:PS X st t)(h2:PSs X rest u):PSs X (st::rest) (P9 t u):=by
 intro pins s σ H D I h
 refine wpAny_execs_cons (thn (h1 pins s σ H { D with nx:=u D } I h) λf s1 q=>?_)
 cases f with
 | next =>
  obtain⟨σ',H',I',q⟩:=q
  exact h2 pins s1 σ' H' D I' q
 | ret v=>exact q
 | brk=>exact q
 | cont=>exact q
theorem Dw(h1:PS X st t):PSs X [st] t:=by
 intro pins s σ H D I h
 refine wpAny_execs_cons (thn (h1 pins s σ H D I h) λf s1 q=>?_)
 cases f with
 | next=>exact wpAny_execs_nil q
 | ret v=>exact q
 | brk=>exact q
 | cont=>exact q
theorem Inv.quiet{pins:List (Addr×Obj)}{σ:St}{H:Hp}{s:Shared}(I:Inv X pins σ H s):interactive X.env=false:=by simp [interactive,I.ok.kind]
def WT(te:TE):TS:=λD σ H=>te σ H λ_ H1=>D.nx σ H1
theorem O6(he:PE X e te)(hs:swapsWith e none pos.line X.env=pure false:=by rfl):PS X (.Expr e pos) (WT te):=by
 intro pins s σ H D I h
 exact wpAny_Expr_any (thn (he pins s σ H _ I h) λv s1 ⟨x,H1,I1,r1,q1⟩=>⟨σ,H1,I1,q1⟩) I.quiet hs
def TF(te:TE):TS:=λD σ H=>te σ H D.rt
theorem Fh(he:PE X e te):PS X (.Return (some e) pos) (TF te):=by
 intro pins s σ H D I h
 exact wpAny_Return_some (thn (he pins s σ H _ I h) λv s1 ⟨x,H1,I1,r1,q1⟩=>⟨x,σ,H1,I1,r1,q1⟩)
def WS(c:TT)(t u:TS):TS:=λD σ H=>c σ H λb H1=>if b=true then t D σ H1 else u D σ H1
theorem Rm{c:Expr}{a b:List Stmt}{tc:TT}(hc:PT X c tc)(ha:PSs X a t)(hb:PSs X b u):PS X (.If c a b pos) (WS tc t u):=by
 intro pins s σ H D I h
 refine wpAny_If (thn (hc pins s σ H _ I h) λd s1 ⟨H1,I1,q1⟩=>?_)
 cases d with
 | true=>exact ha pins s1 σ H1 D I1 q1
 | false=>exact hb pins s1 σ H1 D I1 q1
end
abbrev TG:=V->St->Hp->(St->Hp->Prop)->Prop
abbrev V5:=List V->St->Hp->(St->Hp->Prop)->Prop
def PG(X:Cx)(target:Expr)(t:TG):Prop :=
 ∀(pins:List (Addr×Obj)) (s:Shared) (σ:St) (H:Hp) (v:V) (u:Value) (Q:St->Hp->Prop),Inv X pins σ H s->RelV v u->t v σ H Q ->
  wpAny (model X.prog X.w) X.A (assign target X.env u) (λ_ s'=>∃σ' H',Inv X pins σ' H' s'/\Q σ' H') X.xe s
def XT(X:Cx)(ts:List Expr)(t:V5):Prop :=
 ∀(pins:List (Addr×Obj)) (s:Shared) (σ:St) (H:Hp) (vs:List V) (us:List Value) (Q:St->Hp->Prop),Inv X pins σ H s->Vals vs us->t vs σ H Q ->
  wpAny (model X.prog X.w) X.A (assignInOrder ((assignEach ts X.env).map (·.2)) us) (λ_ s'=>∃σ' H',Inv X pins σ' H' s'/\Q σ' H') X.xe s
abbrev V4:=V->V->V->Hp->(Hp->Prop)->Prop
def XR(X:Cx)(t:V4):Prop :=
 ∀(pins:List (Addr×Obj)) (s:Shared) (σ:St) (H:Hp) (o i v:V) (ov iv u:Value) (Q:Hp->Prop),Inv X pins σ H s->RelV o ov->RelV i iv->RelV v u->t o i v H Q ->
  wpAny (model X.prog X.w) X.A (setItem ov iv u) (λ_ s'=>∃H',Inv X pins σ H' s'/\Q H') X.xe s
abbrev Xj:=V->V->Hp->VK->Prop
def YS(X:Cx)(op:Operator)(t:Xj):Prop :=
 ∀(pins:List (Addr×Obj)) (s:Shared) (σ:St) (H:Hp) (x y:V) (v u:Value) (Q:VK),Inv X pins σ H s->RelV x v->RelV y u->t x y H Q ->
  wpAny (model X.prog X.w) X.A (inplaceOp op v u) (EP X pins σ Q) X.xe s
section
variable {X:Cx}{pos:Pos}
def HV(i:Nat):TG:=λv σ H Q=>Q (σ.set i (some v)) H
theorem F_{i:Nat}{x:Str}(hN:X.N.Nodup)(hi:X.N[i]?=some x)(hx:Loc X.env.scope x)(hf:X.fn x=true\/X.env.scope.names.lookup x=some .local:=by first | exact .inl rfl | exact .inr rfl | assumption):PG X (.Name x pos) (HV i):=by
 intro pins s σ H v u Q I r h
 exact wpAny_assign_Name (IT I hN hi hx r (λs' I'=>⟨_,H,I',h⟩) hf)
def X8:V5:=λvs σ H Q=>vs=[]/\Q σ H
def W7(t:TG)(u:V5):V5:=λvs σ H Q=>∃v r,vs=v::r/\t v σ H λσ' H'=>u r σ' H' Q
theorem O9:XT X [] X8:=by
 intro pins s σ H vs us Q I r h
 obtain⟨e,h⟩:=h
 subst e
 cases r
 exact assignInOrder_nil ⟨σ,H,I,h⟩
theorem Fz{e:Expr}{es:List Expr}{t:TG}{u:V5}(h1:PG X e t)(h2:XT X es u)
  (hs:(assignEach (e::es) X.env).map (·.2)=assign e X.env::(assignEach es X.env).map (·.2):=by rfl):XT X (e::es) (W7 t u):=by
 intro pins s σ H vs us Q I r h
 obtain⟨v,vr,e1,h⟩:=h
 subst e1
 cases r with
 | cons r rr =>
  rw [hs]
  refine assignInOrder_cons (thn (h1 pins s σ H _ _ _ I r h) λ_ s1 ⟨σ1,H1,I1,q1⟩=>?_)
  exact h2 pins s1 σ1 H1 _ _ Q I1 rr q1
def X7(K:Frag)(n:Nat)(t:V5):TG:=λv σ H Q=>∃a xs,v=.ref a/\SqT K H a xs/\xs.length=n/\t xs σ H Q
theorem Ru{es:List Expr}{k:Nat}{t:V5}{n:Nat}(hc:X.calm=true)(h:XT X es t)
  (hn:(assignEach es X.env).length=n:=by rfl) (hst:(assignEach es X.env).findIdx? (·.1)=none:=by rfl):PG X (.Tuple es k pos) (X7 X.K n t):=by
 intro pins s σ H v u Q I r hw
 obtain⟨a,xs,e1,hq,hl,hw⟩:=hw
 subst e1
 cases r
 obtain⟨its,rv,ht,hz⟩:=I.tuple hq
 refine assign_Tuple_tuple (I.ok.hd hc) ht (by simp [hn,← hl,rv.length]) hst λh' hx=>?_
 have I1:Inv X pins σ H { s with heap:=h' }:=I.kept (t':=s.toks) λb o e=>hx b o (Nat.ne_of_lt (Heap.lt_size e)) e
 exact h pins _ σ H xs _ Q I1 (by simpa using rv) hw
def W6(to ti:TE)(t:V4):TG:=λv σ H Q=>to σ H λo H1=>ti σ H1 λi H2=>t o i v H2 λH3=>Q σ H3
theorem OH{o i:Expr}{to ti:TE}{t:V4}(ho:PE X o to)(hi:PE X i ti)(hs:XR X t)
  (ha:∀v,assign (.Subscript o i pos) X.env v=(do
   let ov ← holding [v] (eval o X.env)
   let iv ← holding [v,ov] (eval i X.env)
   standAt pos
   holding [v,ov,iv] (setItem ov iv v)
   release [v,ov,iv] []):=by intro _; rfl):PG X (.Subscript o i pos) (W6 to ti t):=by
 intro pins s σ H v u Q I r h
 rw [ha]
 refine wpAny_bind (wpAny_holding (thn (ho pins s σ H _ I h) λov s1 ⟨x,H1,I1,r1,q1⟩=>?_))
 refine wpAny_bind (wpAny_holding (thn (hi pins s1 σ H1 _ I1 q1) λiv s2 ⟨y,H2,I2,r2,q2⟩=>?_))
 refine wpAny_bind (wpAny_standAt (wpAny_bind (wpAny_holding (thn (hs pins s2 σ H2 x y v ov iv u _ I2 r1 r2 r q2) λ_ s3 ⟨H3,I3,q3⟩=>?_))))
 exact wpAny_release ⟨σ,H3,I3,q3⟩
def MO(te:TE)(g:TG):TS:=λD σ H=>te σ H λx H1=>g x σ H1 D.nx
theorem LU{tg e:Expr}{te:TE}{g:TG}(he:PE X e te)(hg:PG X tg g)(hs:swapsWithSole [tg] e pos.line X.env=pure false:=by rfl)(hw:swappedStores [tg] e X.env=pure none:=by rfl)
  (h1:(assignEach [tg] X.env).map (·.2)=[assign tg X.env]:=by rfl):PS X (.Assign [tg] e pos) (MO te g):=by
 intro pins s σ H D I h
 refine wpAny_Assign_stores (thn (he pins s σ H _ I h) λv s1 ⟨x,H1,I1,r1,q1⟩=>?_) hs hw
 rw [h1]
 exact thn (hg pins s1 σ H1 x v _ I1 r1 q1) λ_ s2 q=>q
theorem Eo{i:Nat}{x:Str}{e:Expr}{te:TE}{pos':Pos}(hN:X.N.Nodup)(hi:X.N[i]?=some x)(hx:Loc X.env.scope x)(he:PE X e te)(hs:swapsWith e (some (.Name x pos')) pos.line X.env=pure false:=by rfl)(hf:X.fn x=true\/X.env.scope.names.lookup x=some .local:=by first | exact .inl rfl | exact .inr rfl | assumption) :
  PS X (.Assign [.Name x pos'] e pos) (MO te (HV i)):=by
 intro pins s σ H D I h
 refine wpAny_Assign_Name (thn (he pins s σ H _ I h) λv s1 ⟨y,H1,I1,r1,q1⟩=>?_) hs
 exact IT I1 hN hi hx r1 (λs2 I2=>⟨_,H1,I2,q1⟩) hf
def Xx(i:Nat)(te:TE)(ti:Xj):TS:=λD σ H=>∃x,σ[i]?=some (some x)/\te σ H λy H1=>ti x y H1 λz H2=>D.nx (σ.set i (some z)) H2
theorem VE{i:Nat}{x:Str}{e:Expr}{te:TE}{op:Operator}{ti:Xj}{pos':Pos}(hN:X.N.Nodup)(hi:X.N[i]?=some x)(hx:Loc X.env.scope x)(he:PE X e te)(ho:YS X op ti)(hf:X.fn x=true\/X.env.scope.names.lookup x=some .local:=by first | exact .inl rfl | exact .inr rfl | assumption) :
  PS X (.AugAssign (.Name x pos') op e pos) (Xx i te ti):=by
 intro pins s σ H D I h
 obtain⟨v,e1,h⟩:=h
 obtain⟨m,hn,hl⟩:=I.loc
 have vis:V2 X.env.scope x:=by rcases hx with k | k; exact .inl k; exact .inr (.inl k)
 obtain⟨u,r,l⟩:=hl i x v hi e1 vis
 refine wpAny_AugAssign_Name ?_
 have go:wpAny (model X.prog X.w) X.A (eval e X.env) (λw s₂=>wpAny (model X.prog X.w) X.A (inplaceOp op u w) (λr s₃=>wpAny (model X.prog X.w) X.A (storeName X.env x r) (λ_=>SP X pins D .next) X.xe s₃) X.xe s₂) X.xe s:=by
  refine thn (he pins s σ H _ I h) λw s1 ⟨y,H1,I1,r1,q1⟩=>?_
  refine thn (ho pins s1 σ H1 v y u w _ I1 r r1 q1) λz s2 ⟨zv,H2,I2,r2,q2⟩=>?_
  exact IT I2 hN hi hx r2 (λs3 I3=>⟨_,H2,I3,q2⟩) hf
 rcases l with ⟨hk,hm⟩ | ⟨hk,c,hc,hcell⟩
 ·exact wpAny_loadName_local I.ok.kind hk hn hm go
 ·rcases hk with hk | hk
  ·exact wpAny_loadName_cell I.ok.kind hk hc hcell go
  ·rcases hx with k | k
   ·have:X.env.scope.names.lookup x=some .free:=hk
    rw [k] at this; cases this
   ·have:X.env.scope.names.lookup x=some .free:=hk
    rw [k] at this; cases this
def Yd(f:Int->Int->Int):Xj:=λx y H Q=>∃i j,x=.int i/\y=.int j/\Q (.int (f i j)) H
theorem Vg:YS X .Add (Yd λi j=>i+j):=by
 intro pins s σ H x y v u Q I r1 r2 h
 obtain⟨i,j,e1,e2,q⟩:=h
 subst e1; subst e2
 obtain⟨t,rfl⟩:=r1
 obtain⟨t',rfl⟩:=r2
 exact iadd_int ⟨.int _,H,I.tok _,⟨_,rfl⟩,q⟩
end
section
variable {X:Cx}{pos:Pos}
def Ux(c:TT)(tb:TS):TS:=λD σ H=>∃W:Nat->St->Hp->Prop,(∃m,W m σ H)/\∀m σ H,W m σ H ->
 c σ H λb H1=>if b=true then ∃N:St->Hp->Prop,(∀σ' H',N σ' H'->∃m',m'<m/\W m' σ' H')/\tb { D with nx:=N,ct:=N,bk:=D.nx } σ H1 else D.nx σ H1
theorem Rl{c:Expr}{body:List Stmt}{tc:TT}{tb:TS}(hp:PassesOwn (model X.prog X.w) X.A X.env X.xe)(hc:PT X c tc)(hb:PSs X body tb):PS X (.While c body [] pos) (Ux tc tb):=by
 intro pins s σ H D I h
 obtain⟨W,⟨m0,w0⟩,turn⟩:=h
 refine wpAny_While (codeAny_whileLoop (λn s'=>∃σ' H',Inv X pins σ' H' s'/\W n σ' H') ?_ m0 ⟨σ,H,I,w0⟩)
 rintro n s1 ⟨σ1,H1,I1,w1⟩
 refine wpAny_passesOwn hp (thn (hc pins s1 σ1 H1 _ I1 (turn n σ1 H1 w1)) λb s2 ⟨H2,I2,q2⟩=>?_)
 cases b with
 | true =>
  obtain⟨N,hN,q2⟩:=q2
  rw [if_pos rfl]
  refine wpAny_passesOwn hp (thn (hb pins s2 σ1 H2 _ I2 q2) λf s3 q3=>?_)
  cases f with
  | next =>
   obtain⟨σ3,H3,I3,n3⟩:=q3
   obtain⟨m',hm,w3⟩:=hN σ3 H3 n3
   exact⟨m',hm,σ3,H3,I3,w3⟩
  | cont =>
   obtain⟨σ3,H3,I3,n3⟩:=q3
   obtain⟨m',hm,w3⟩:=hN σ3 H3 n3
   exact⟨m',hm,σ3,H3,I3,w3⟩
  | brk=>exact q3
  | ret v=>exact q3
 | false =>
  rw [if_neg Bool.false_ne_true]
  exact wpAny_execs_nil ⟨σ1,H2,I2,q2⟩
end
structure It where
 go:Nat->Hp->Prop
 yld:Nat->Hp->V->Hp->Prop
 stop:Nat->Hp->Prop
def Gm(X:Cx)(pins:List (Addr×Obj))(H:Hp)(b:Addr):Prop :=
 H b=none/\b≠X.env.locals/\b∉X.fs/\(b∈X.ex\/X.s₀.heap.objs.size<=b)/\(∀x c,X.env.cells.lookup x=some c->c≠b)/\∀p∈X.pn++pins,p.1≠b
theorem Inv.fpOk{X:Cx}{pins:List (Addr×Obj)}{σ:St}{H H':Hp}{s:Shared}{b:Addr}(I:Inv X pins σ H s)(hb:s.heap.objs.size<=b)(hn:H' b=none):Gm X pins H' b:=by
 refine⟨hn,Nat.ne_of_gt (Nat.lt_of_lt_of_le I.lt hb),I.nofs hb,.inr (Nat.le_trans I.sz hb),λx c e z=>?_,λp hp z=>?_⟩
 ·obtain⟨v,q⟩:=I.cell x c e
  exact absurd (Nat.lt_of_lt_of_le q.lt (by rw [z]; exact hb)) (Nat.lt_irrefl _)
 ·exact absurd (Nat.lt_of_lt_of_le (Heap.lt_size (I.pin p hp).1) (by rw [z]; exact hb)) (Nat.lt_irrefl _)
structure Turn (P:Program) (w:World) (K:Frag) (tg:Expr) (J:It) (fp:List Addr) (it:Addr) (tn:Nat->Heap->Prop):Prop where
 mem:it∈fp
 obj:∀i h,tn i h->∀b∈fp,∃o,h.get? b=some o/\∀v,o.data≠.cell v
 keep:∀i h h',tn i h->(∀b∈fp,∀o,h.get? b=some o->h'.get? b=some o)->tn i h'
 item:∀(X:Cx),X.prog=P->X.w=w->X.K=K->X.calm=true->∀(i:Nat) (pins:List (Addr×Obj)) (s:Shared) (σ:St) (H:Hp) (E:Value->Shared->Prop),Inv X pins σ H s->(∀b∈fp,Gm X pins H b)->tn i s.heap->J.go i H ->
  wpAny (model P w) X.A (pyNext (.ref it)) (λr s1=>∃u,r=some u /\
   wpAny (model P w) X.A (letOwnedTupleGo tg (.ref it) u) (λ_ s2=>∃x H',Inv X pins σ H' s2/\RelV x u/\J.yld i H x H'/\tn (i+1) s2.heap/\∀b∈fp,H' b=none) E s1) E s
 done:∀(X:Cx),X.prog=P->X.w=w->X.K=K->X.calm=true->∀(i:Nat) (pins:List (Addr×Obj)) (s:Shared) (σ:St) (H:Hp) (E:Value->Shared->Prop),Inv X pins σ H s->(∀b∈fp,Gm X pins H b)->tn i s.heap->J.stop i H ->
  wpAny (model P w) X.A (pyNext (.ref it)) (λr s1=>r=none/\Inv X pins σ H s1) E s
 self:∀(A:Around) (i:Nat) (s:Shared) (Q:Value->Shared->Prop) (E:Value->Shared->Prop),tn i s.heap->Q (.ref it) s->wpAny (model P w) A (pyIter (.ref it)) Q E s
abbrev TI:=St->Hp->(It->Hp->Prop)->Prop
def YT(X:Cx)(pins:List (Addr×Obj))(σ:St)(tg:Expr)(R:It->Hp->Prop)(itv:Value)(s2:Shared):Prop :=
 ∃(it:Addr) (fp:List Addr) (tn:Nat->Heap->Prop) (J:It) (H':Hp),itv=.ref it/\Inv X pins σ H' s2/\Turn X.prog X.w X.K tg J fp it tn/\tn 0 s2.heap/\(∀b∈fp,Gm X pins H' b)/\R J H'
def PI(X:Cx)(tg iter:Expr)(wi:TI):Prop :=
 ∀(pins:List (Addr×Obj)) (s:Shared) (σ:St) (H:Hp) (R:It->Hp->Prop),Inv X pins σ H s->wi σ H R ->
  wpAny (model X.prog X.w) X.A (eval iter X.env) (λv s1=>wpAny (model X.prog X.w) X.A (pyIter v) (YT X pins σ tg R) X.xe s1) X.xe s
theorem PU {M : Model} {A : Around} {E : Value → Shared → Prop} {s : Shared} {tg : Expr} {it : Addr} {u : Value} {o : Obj} {n : String} {vs : Array Value} {Q : Unit → Shared → Prop} (ho : s.heap.get? it = some o) (hc : o.cls = .type n) (hd : o.data = .fields vs)
    (hn : ["enumerate", "zip", "dict_itemiterator", "dict_reverseitemiterator", "odict_iterator", "itertools.zip_longest", "itertools.pairwise"].contains n = false) (hQ : Q () s) : wpAny M A (letOwnedTupleGo tg (.ref it) u) Q E s := by
  unfold letOwnedTupleGo
  cases tg <;> first
    | exact wpAny_pure hQ
    | (cases u <;> first
        | exact wpAny_pure hQ
        | (refine wpAny_bind (wpAny_load ho ?_)
           rw [hc, hd]
           show wpAny M A (if (["enumerate", "zip", "dict_itemiterator", "dict_reverseitemiterator", "odict_iterator", "itertools.zip_longest", "itertools.pairwise"].contains n && vs[0]? == some (rawInt _)) = true then _ else _) Q E s
           rw [if_neg (by intro h; rw [hn, Bool.false_and] at h; cases h)]
           exact wpAny_pure hQ))
def YJ(K:Frag)(a:Addr):It :=
 ⟨λi H=>∃xs x,SqL K H a xs/\xs[i]?=some x,λi H x H'=>H'=H/\∀xs,SqL K H a xs->xs[i]?=some x,λi H=>∃xs,SqL K H a xs/\xs.length<=i⟩
def V_(K:Frag)(a:Addr):It :=
 ⟨λi H=>∃xs x,SqT K H a xs/\xs[i]?=some x,λi H x H'=>H'=H/\∀xs,SqT K H a xs->xs[i]?=some x,λi H=>∃xs,SqT K H a xs/\xs.length<=i⟩
def XY(lo:Int)(n:Nat):It:=⟨λi _=>i<n,λi H x H'=>H'=H/\x=.int (lo+i),λi _=>n<=i⟩
theorem P5{P:Program}{w:World}{K:Frag}{tg:Expr}(a it:Addr):Turn P w K tg (YJ K a) [it] it (λi h=>h.IsListIter it a i) where
 mem:=by simp
 obj:=λi h st b hb=>by
  have e:b=it:=by simpa using hb
  subst e
  obtain⟨o,e,c,d⟩:=st
  exact⟨o,e,λv z=>by rw [d] at z; cases z⟩
 keep:=λi h h' st k=>st.at λo e=>k it (by simp) o e
 item:=by
  intro X hP hw hK hc i pins s σ H E I hf st hg
  subst hP hw hK
  obtain⟨xs,x,hq,hx⟩:=hg
  obtain⟨its,rv,p,hz⟩:=I.list hq
  obtain⟨u,hu,ru⟩:=rv.get hx
  obtain⟨f0,f1,f2,f3,f4,f5⟩:=hf it (by simp)
  refine wpAny_pyNext_list_item st p.isList (x:=u) (by simpa using hu) λh' st' sb=>?_
  have I1:Inv X pins σ H { s with heap:=h' }:=I.turned (t':=s.toks) (λb o hb e=>(sb.2 b hb).trans e) f0 f1 f3 f4 f5
  obtain⟨o,e,c,d⟩:=id st'
  exact⟨u,rfl,PU (s:={ s with heap:=h' }) e c d (by decide) ⟨x,H,I1,ru,⟨rfl,λys hy=>by rw [I.list_inj hy hq]; exact hx⟩,st',λb hb=>(hf b hb).1⟩⟩
 done:=by
  intro X hP hw hK hc i pins s σ H E I hf st hg
  subst hP hw hK
  obtain⟨xs,hq,hx⟩:=hg
  obtain⟨its,rv,p,hz⟩:=I.list hq
  obtain⟨f0,f1,f2,f3,f4,f5⟩:=hf it (by simp)
  have hl:=rv.length
  exact wpAny_pyNext_list_end (I.ok.hd hc) st p.isList (by simp; omega) λh' eb=>⟨rfl,I.turned (t':=s.toks) (λb o hb e=>eb b o hb e) f0 f1 f3 f4 f5⟩
 self:=λ_ _ _ _ _ st h=>wpAny_pyIter_listiter st h
theorem IM{P:Program}{w:World}{K:Frag}{tg:Expr}(a it:Addr):Turn P w K tg (V_ K a) [it] it (λi h=>h.IsTupleIter it a i) where
 mem:=by simp
 obj:=λi h st b hb=>by
  have e:b=it:=by simpa using hb
  subst e
  obtain⟨o,e,c,d⟩:=st
  exact⟨o,e,λv z=>by rw [d] at z; cases z⟩
 keep:=λi h h' st k=>st.at λo e=>k it (by simp) o e
 item:=by
  intro X hP hw hK hc i pins s σ H E I hf st hg
  subst hP hw hK
  obtain⟨xs,x,hq,hx⟩:=hg
  obtain⟨its,rv,p,hz⟩:=I.tuple hq
  obtain⟨u,hu,ru⟩:=rv.get hx
  obtain⟨f0,f1,f2,f3,f4,f5⟩:=hf it (by simp)
  refine wpAny_pyNext_tuple_item st (show s.heap.IsTuple a its.toArray from p) (x:=u) (by simpa using hu) λh' st' sb=>?_
  have I1:Inv X pins σ H { s with heap:=h' }:=I.turned (t':=s.toks) (λb o hb e=>(sb.2 b hb).trans e) f0 f1 f3 f4 f5
  obtain⟨o,e,c,d⟩:=id st'
  exact⟨u,rfl,PU (s:={ s with heap:=h' }) e c d (by decide) ⟨x,H,I1,ru,⟨rfl,λys hy=>by rw [I.tuple_inj hy hq]; exact hx⟩,st',λb hb=>(hf b hb).1⟩⟩
 done:=by
  intro X hP hw hK hc i pins s σ H E I hf st hg
  subst hP hw hK
  obtain⟨xs,hq,hx⟩:=hg
  obtain⟨its,rv,p,hz⟩:=I.tuple hq
  obtain⟨f0,f1,f2,f3,f4,f5⟩:=hf it (by simp)
  have hl:=rv.length
  exact wpAny_pyNext_tuple_end (I.ok.hd hc) st (show s.heap.IsTuple a its.toArray from p) (by simp; omega) λh' eb=>⟨rfl,I.turned (t':=s.toks) (λb o hb e=>eb b o hb e) f0 f1 f3 f4 f5⟩
 self:=λ_ _ _ _ _ st h=>wpAny_pyIter_tupleiter st h
theorem Nz{P:Program}{w:World}{K:Frag}{tg:Expr}(it:Addr)(lo:Int)(n:Nat):Turn P w K tg (XY lo n) [it] it (λi h=>IsRangeIter h it (lo+(i:Nat)*1) ((n:Int) - (i:Nat)) 1) where
 mem:=by simp
 obj:=λi h st b hb=>by
  have e:b=it:=by simpa using hb
  subst e
  exact⟨_,st,λv z=>by
   have z':Data.fields _=Data.cell v:=z
   cases z'⟩
 keep:=λi h h' st k=>k it (by simp) _ st
 item:=by
  intro X hP hw hK hc i pins s σ H E I hf st hg
  subst hP hw hK
  obtain⟨f0,f1,f2,f3,f4,f5⟩:=hf it (by simp)
  have W:=Walks.range (prog:=X.prog) (w:=X.w) (I.ok.hd hc) it lo 1 n
  refine W.item i s _ _ hg st λv h' tk hv st' kk=>?_
  obtain⟨t,rfl⟩:=hv
  have I1:Inv X pins σ H { s with heap:=h',toks:=tk }:=I.turned (λb o hb e=>kk b o (by simpa using hb) e) f0 f1 f3 f4 f5
  refine⟨_,rfl,PU (s:={ s with heap:=h',toks:=tk }) (n := "range_iterator") st' rfl rfl (by decide) ⟨.int (lo+i),H,I1,⟨t,?_⟩,⟨rfl,rfl⟩,st',λb hb=>(hf b hb).1⟩⟩
  rw [Int.mul_one]
 done:=by
  intro X hP hw hK hc i pins s σ H E I hf st hg
  subst hP hw hK
  obtain⟨f0,f1,f2,f3,f4,f5⟩:=hf it (by simp)
  exact wpAny_pyNext_range_end (I.ok.hd hc) st (by have:n<=i:=hg; omega) λh' eb=>⟨rfl,I.turned (t':=s.toks) (λb o hb e=>eb b o hb e) f0 f1 f3 f4 f5⟩
 self:=λ_ _ _ _ _ st h=>wpAny_pyIter_rangeiter st h
section
variable {X:Cx}{tg:Expr}
def X5(K:Frag)(tl:TE):TI:=λσ H R=>tl σ H λx H1=>∃a,x=.ref a/\(∃xs,SqT K H1 a xs)/\R (V_ K a) H1
theorem Rq{l:Expr}{tl:TE}(hl:PE X l tl):PI X tg l (X5 X.K tl):=by
 intro pins s σ H R I h
 refine thn (hl pins s σ H _ I h) λv s1 ⟨x,H1,I1,r1,q1⟩=>?_
 obtain⟨a,e,⟨xs,hq⟩,q⟩:=q1
 subst e
 cases r1
 obtain⟨its,rv,p,hz⟩:=I1.tuple hq
 refine wpAny_pyIter_tuple (show s1.heap.IsTuple a its.toArray from p) ?_
 refine⟨s1.heap.objs.size,[s1.heap.objs.size],_,_,H1,rfl,I1.kept (t':=s1.toks) λb o e=>Heap.get?_push_of_some _ e,IM a _,⟨_,Heap.get?_push_size _ rfl,rfl,rfl⟩,λb hb=>?_,q⟩
 have e:b=s1.heap.objs.size:=by simpa using hb
 subst e
 exact I1.fpOk (Nat.le_refl _) (I1.hok.fresh (Nat.le_refl _))
theorem Md{pins:List (Addr×Obj)}{σ:St}{H:Hp}{s:Shared}{R:It->Hp->Prop}{E:Value->Shared->Prop}{lo hi:Int}{t u v:Tok}{tk:Nat}(I:Inv X pins σ H s)(h1:-(2 ^ 62)<=lo)(h2:lo<2 ^ 62)(h3:-(2 ^ 62)<=hi)(h4:hi<2 ^ 62)
  (q:R (XY lo (hi - lo).toNat) H):wpAny (model X.prog X.w) X.A (pyIter (.ref s.heap.objs.size)) (YT X pins σ tg R) E { s with heap:=s.heap.push { cls:=.type "range",data:=.fields #[.int lo t,.int hi u,.int 1 v] },toks:=tk }:=by
 refine wpAny_pyIter_range (IsRange.new ..) (small_one h1 h2 h3 h4) ?_
 have I1:Inv X pins σ H { s with heap:=s.heap.push { cls:=.type "range",data:=.fields #[.int lo t,.int hi u,.int 1 v] },toks:=tk }:=I.kept λb o e=>Heap.get?_push_of_some _ e
 refine⟨(s.heap.push { cls:=.type "range",data:=.fields #[.int lo t,.int hi u,.int 1 v] }).objs.size,[(s.heap.push { cls:=.type "range",data:=.fields #[.int lo t,.int hi u,.int 1 v] }).objs.size],_,_,H,rfl,
  I1.kept (t':=tk) λb o e=>Heap.get?_push_of_some _ e,Nz _ lo (hi - lo).toNat,?_,λb hb=>?_,q⟩
 ·have e1:lo+((0:Nat):Int)*1=lo:=by simp
  have e2:(((hi - lo).toNat:Nat):Int) - ((0:Nat):Int)=Builtin.Range.rangeSize lo hi 1:=by rw [rangeSize_one]; split <;> omega
  show IsRangeIter _ _ (lo+((0:Nat):Int)*1) ((((hi - lo).toNat:Nat):Int) - ((0:Nat):Int)) 1
  rw [e1,e2]
  exact Heap.get?_push_size _ rfl
 ·have e:b=(s.heap.push { cls:=.type "range",data:=.fields #[.int lo t,.int hi u,.int 1 v] }).objs.size:=by simpa using hb
  subst e
  exact I1.fpOk (Nat.le_refl _) (I1.hok.fresh (Nat.le_refl _))
def W4(ta:TA):TI:=λσ H R=>ta σ H λvs H1=>∃j:Int,vs=[.int j]/\-(2 ^ 62)<=j/\j<2 ^ 62/\R (XY 0 j.toNat) H1
def W3(ta:TA):TI:=λσ H R=>ta σ H λvs H1=>∃i j:Int,vs=[.int i,.int j]/\(-(2 ^ 62)<=i/\i<2 ^ 62/\-(2 ^ 62)<=j/\j<2 ^ 62)/\R (XY i (j - i).toNat) H1
theorem QN{a:Expr}{ta:TA}{p pos:Pos}(hg:Gl X "range")(hm:X.mg "range"=none)(ha:PA X [a] ta)(hs:starEach [a] X.env=[(false,eval a X.env)]:=by rfl):PI X tg (.Call (.Name "range" p) [a] [] pos) (W4 ta):=by
 intro pins s σ H R I h
 refine Call_ (Dz I hg hm boot_range (PyProof.Rows.callWith_type1 (thn (ha pos pins s σ H _ I h) λus s1 ⟨vs,H1,I1,r1,q1⟩=>?_) hs rfl))
 obtain⟨j,e,q1,q2,q⟩:=q1
 subst e
 cases r1 with
 | cons r rr =>
  cases rr
  obtain⟨t,rfl⟩:=r
  exact call_range_1 (Md I1 (by omega) (by omega) q1 q2 (by simpa using q))
theorem QM{a b:Expr}{ta:TA}{p pos:Pos}(hg:Gl X "range")(hm:X.mg "range"=none)(ha:PA X [a,b] ta)(hs:starEach [a,b] X.env=[(false,eval a X.env),(false,eval b X.env)]:=by rfl)(hs2:starEach [b] X.env=[(false,eval b X.env)]:=by rfl) :
  PI X tg (.Call (.Name "range" p) [a,b] [] pos) (W3 ta):=by
 intro pins s σ H R I h
 refine Call_ (Dz I hg hm boot_range (PyProof.Rows.callWith_type1 (thn (ha pos pins s σ H _ I h) λus s1 ⟨vs,H1,I1,r1,q1⟩=>?_) (by rw [hs,hs2]) (by rw [hs2]; rfl)))
 obtain⟨i,j,e,⟨q1,q2,q3,q4⟩,q⟩:=q1
 subst e
 cases r1 with
 | cons r rr =>
  cases rr with
  | cons r' rr =>
   cases rr
   obtain⟨t,rfl⟩:=r
   obtain⟨t',rfl⟩:=r'
   exact call_range_2 (Md I1 q1 q2 q3 q4 q)
def Xw(wi:TI)(g:TG)(tb:TS):TS:=λD σ H=>wi σ H λJ H1=>∃W:Nat->Nat->St->Hp->Prop,(∃m,W 0 m σ H1)/\∀i m σ H,W i m σ H ->
 (J.stop i H/\D.nx σ H)\/(J.go i H/\∃N:St->Hp->Prop,(∀σ' H',N σ' H'->∃m',m'<m/\W (i+1) m' σ' H')/\∀x H',J.yld i H x H'->g x σ H' λσ2 H2=>tb { D with nx:=N,ct:=N,bk:=D.nx } σ2 H2)
def Iq(fp:List Addr)(h:Heap):List (Addr×Obj):=fp.filterMap λb=>(h.get? b).map λo=>(b,o)
theorem EO{fp:List Addr}{h:Heap}{b:Addr}{o:Obj}(hb:b∈fp)(e:h.get? b=some o):(b,o)∈Iq fp h:=List.mem_filterMap.mpr ⟨b,hb,by rw [e]; rfl⟩
theorem QX{fp:List Addr}{h:Heap}{p:Addr×Obj}(hp:p∈Iq fp h):p.1∈fp/\h.get? p.1=some p.2:=by
 obtain⟨b,hb,e⟩:=List.mem_filterMap.mp hp
 cases q:h.get? b with
 | none=>rw [q] at e; cases e
 | some o =>
  rw [q] at e
  have e':(b,o)=p:=Option.some.inj e
  subst e'
  exact⟨hb,q⟩
theorem Inv.pinned{pins:List (Addr×Obj)}{σ:St}{H:Hp}{s:Shared}{fp:List Addr}(I:Inv X pins σ H s)(hf:∀b∈fp,Gm X pins H b)(ho:∀b∈fp,∃o,s.heap.get? b=some o/\∀v,o.data≠.cell v):Inv X (pins++Iq fp s.heap) σ H s :=
 I.pins_of λp hp=>(List.mem_append.mp hp).elim (λz=>I.pin p (List.mem_append_right _ z)) λz=>by
  obtain⟨hb,e⟩:=QX z
  obtain⟨f0,f1,f2,_⟩:=hf p.1 hb
  obtain⟨o,e',d⟩:=ho p.1 hb
  rw [e] at e'; cases e'
  exact⟨e,f0,f1,f2,d⟩
theorem Inv.unpinned{pins pl:List (Addr×Obj)}{σ:St}{H:Hp}{s:Shared}(I:Inv X (pins++pl) σ H s):Inv X pins σ H s:=I.pins_of λp hp=>I.pin p (List.mem_append_right _ (List.mem_append_left _ hp))
theorem LS{iter:Expr}{body:List Stmt}{wi:TI}{g:TG}{tb:TS}{pos:Pos}(hp:PassesOwn (model X.prog X.w) X.A X.env X.xe)(hc:X.calm=true)(hi:PI X tg iter wi)(hg:PG X tg g)(hb:PSs X body tb)
  (hs:∀x,foldedSetIterable iter X.env x=pure x:=by intro _; rfl):PS X (.For tg iter body [] pos) (Xw wi g tb):=by
 intro pins s σ H D I h
 refine wpAny_For (thn (hi pins s σ H _ I h) λv s1 h1=>thn h1 λitv s2 h2=>?_) hs
 obtain⟨it,fp,tn,J,H2,e,I2,T,st2,f2,W,⟨m0,w0⟩,turn⟩:=h2
 subst e
 have stat:∀{H':Hp},(∀b∈fp,H' b=none)->∀b∈fp,Gm X pins H' b:=λhn b hb=>⟨hn b hb,(f2 b hb).2⟩
 refine codeAny_forLoop_any (λn s'=>∃i σ' H',Inv X pins σ' H' s'/\tn i s'.heap/\(∀b∈fp,H' b=none)/\W i n σ' H') ?_ m0 ⟨0,σ,H2,I2,st2,λb hb=>(f2 b hb).1,w0⟩
 rintro n s3 ⟨i,σ3,H3,I3,st3,fr3,w3⟩
 rcases turn i n σ3 H3 w3 with ⟨stop,qn⟩ | ⟨go,N,hN,step⟩
 ·refine wpAny_passesOwn hp (thn (T.done X rfl rfl rfl hc i pins s3 σ3 H3 X.xe I3 (stat fr3) st3 stop) λr s4 ⟨hr,I4⟩=>?_)
  subst hr
  exact wpAny_execs_nil ⟨σ3,H3,I4,qn⟩
 ·refine wpAny_passesOwn hp (thn (T.item X rfl rfl rfl hc i pins s3 σ3 H3 X.xe I3 (stat fr3) st3 go) λr s4 ⟨u,hr,h4⟩=>?_)
  subst hr
  refine wpAny_passesOwn hp (thn h4 λ_ s5 ⟨x,H5,I5,r5,y5,st5,fr5⟩=>?_)
  have I5':=I5.pinned (stat fr5) (T.obj _ _ st5)
  refine wpAny_passesOwn hp (thn (hg _ s5 σ3 H5 x u _ I5' r5 (step x H5 y5)) λ_ s6 ⟨σ6,H6,I6,q6⟩=>?_)
  refine wpAny_passesOwn hp (thn (hb _ s6 σ6 H6 _ I6 q6) λf s7 q7=>?_)
  have again:∀{σ7:St} {H7:Hp},Inv X (pins++Iq fp s5.heap) σ7 H7 s7->N σ7 H7->∃m,m<n/\∃i σ' H',Inv X pins σ' H' s7/\tn i s7.heap/\(∀b∈fp,H' b=none)/\W i m σ' H':=λ{σ7 H7} I7 n7=>by
   obtain⟨m',hm,w7⟩:=hN σ7 H7 n7
   refine⟨m',hm,i+1,σ7,H7,I7.unpinned,T.keep _ _ _ st5 λb hb o e=>(I7.pin (b,o) (List.mem_append_right _ (List.mem_append_right _ (EO hb e)))).1,λb hb=>?_,w7⟩
   obtain⟨o,e,d⟩:=T.obj _ _ st5 b hb
   exact(I7.pin (b,o) (List.mem_append_right _ (List.mem_append_right _ (EO hb e)))).2.1
  cases f with
  | next=>obtain⟨σ7,H7,I7,n7⟩:=q7; exact again I7 n7
  | cont=>obtain⟨σ7,H7,I7,n7⟩:=q7; exact again I7 n7
  | brk=>obtain⟨σ7,H7,I7,q7⟩:=q7; exact⟨σ7,H7,I7.unpinned,q7⟩
  | ret v=>obtain⟨x7,σ7,H7,I7,r7,q7⟩:=q7; exact⟨x7,σ7,H7,I7.unpinned,r7,q7⟩
end
theorem PY{K:Frag}{a:Addr}{xs:List V}{g:TG}{tb:TS}{D:Ends}{σ:St}{H:Hp}(Pv:Nat->St->Hp->Prop)(h0:Pv 0 σ H)(hl:∀i σ H,i<=xs.length->Pv i σ H->SqT K H a xs)
  (hs:∀i x σ H,xs[i]?=some x->Pv i σ H->g x σ H λσ2 H2=>tb { D with nx:=Pv (i+1),ct:=Pv (i+1),bk:=D.nx } σ2 H2) (hd:∀σ H,Pv xs.length σ H->D.nx σ H) :
  ∃W:Nat->Nat->St->Hp->Prop,(∃m,W 0 m σ H)/\∀i m σ H,W i m σ H ->
   ((V_ K a).stop i H/\D.nx σ H)\/((V_ K a).go i H/\∃N:St->Hp->Prop,(∀σ' H',N σ' H'->∃m',m'<m/\W (i+1) m' σ' H')/\∀x H',(V_ K a).yld i H x H'->g x σ H' λσ2 H2=>tb { D with nx:=N,ct:=N,bk:=D.nx } σ2 H2):=by
 refine⟨λi m σ H=>m=xs.length - i/\i<=xs.length/\Pv i σ H,⟨xs.length,by simp,Nat.zero_le _,h0⟩,?_⟩
 rintro i m σ H ⟨rfl,hi,p⟩
 have q:=hl i σ H hi p
 by_cases hlt:i<xs.length
 ·refine .inr ⟨⟨xs,xs[i],q,by simp [hlt]⟩,Pv (i+1),λσ' H' p'=>⟨xs.length - (i+1),by omega,rfl,hlt,p'⟩,λx H' y=>?_⟩
  obtain⟨e,y⟩:=y
  subst e
  exact hs i x σ _ (y xs q) p
 ·have e:i=xs.length:=by omega
  subst e
  exact .inl ⟨⟨xs,q,Nat.le_refl _⟩,hd σ H p⟩
abbrev R2:=V->V->Hp->VK->Prop
def OpR(X:Cx)(f:Value->Value->Sem Value)(r:R2):Prop :=
 ∀(pins:List (Addr×Obj)) (s:Shared) (σ:St) (H:Hp) (x y:V) (v u:Value) (Q:VK),Inv X pins σ H s->RelV x v->RelV y u->r x y H Q ->
  wpAny (model X.prog X.w) X.A (f v u) (EP X pins σ Q) X.xe s
def YF(X:Cx)(f:Value->Sem Value)(r:V->Hp->VK->Prop):Prop :=
 ∀(pins:List (Addr×Obj)) (s:Shared) (σ:St) (H:Hp) (x:V) (v:Value) (Q:VK),Inv X pins σ H s->RelV x v->r x H Q ->
  wpAny (model X.prog X.w) X.A (f v) (EP X pins σ Q) X.xe s
def EM(X:Cx)(f:Value)(r:List V->Hp->VK->Prop):Prop :=
 ∀(pins:List (Addr×Obj)) (s:Shared) (σ:St) (H:Hp) (xs:List V) (us:List Value) (Q:VK),Inv X pins σ H s->Vals xs us->r xs H Q ->
  wpAny (model X.prog X.w) X.A (call f us) (EP X pins σ Q) X.xe s
def YG(X:Cx)(r:V->Hp->(Bool->Hp->Prop)->Prop):Prop :=
 ∀(pins:List (Addr×Obj)) (s:Shared) (σ:St) (H:Hp) (x:V) (v:Value) (Q:Bool->Hp->Prop),Inv X pins σ H s->RelV x v->r x H Q ->
  wpAny (model X.prog X.w) X.A (truthy v) (TP X pins σ Q) X.xe s
def D9(r:R2)(ta tb:TE):TE:=λσ H Q=>ta σ H λx H1=>tb σ H1 λy H2=>r x y H2 Q
def YY(r:V->Hp->VK->Prop)(ta:TE):TE:=λσ H Q=>ta σ H λx H1=>r x H1 Q
def rI(C:Int->Int->Prop)(g:Int->Int->V):R2:=λx y H Q=>∃i j,x=.int i/\y=.int j/\C i j/\Q (g i j) H
def Hl(g:Int->Int->V):R2:=λx y H Q=>∃i j,x=.int i/\y=.int j/\Q (g i j) H
def rU(g:Int->V):V->Hp->VK->Prop:=λx H Q=>∃i,x=.int i/\Q (g i) H
section
variable {X:Cx}{a b c:Expr}{ta tb tc:TE}{pos:Pos}
theorem Vx(ha:PE X a ta)(hb:PE X b tb){pins:List (Addr×Obj)}{s:Shared}{σ:St}{H:Hp}{R:V->V->Hp->Prop}(I:Inv X pins σ H s)
  (h:ta σ H λx H1=>tb σ H1 λy H2=>R x y H2) {Q:Value->Shared->Prop} {f:Value->Value->Sem Value}
  (hf:∀v u s2 x y H2,Inv X pins σ H2 s2->RelV x v->RelV y u->R x y H2->wpAny (model X.prog X.w) X.A (f v u) Q X.xe s2) :
  wpAny (model X.prog X.w) X.A (eval a X.env) (λv s₁=>wpAny (model X.prog X.w) X.A (eval b X.env) (λu s₂=>wpAny (model X.prog X.w) X.A (f v u) Q X.xe s₂) X.xe s₁) X.xe s:=by
 refine thn (ha pins s σ H _ I h) λv s1 ⟨x,H1,I1,r1,q1⟩=>?_
 refine thn (hb pins s1 σ H1 _ I1 q1) λu s2 ⟨y,H2,I2,r2,q2⟩=>?_
 exact hf v u s2 x y H2 I2 r1 r2 q2
theorem CA{op:Operator}{r:R2}(ho:OpR X (binaryOp op) r)(ha:PE X a ta)(hb:PE X b tb):PE X (.BinOp a op b pos) (D9 r ta tb):=by
 intro pins s σ H Q I h
 exact wpAny_BinOp (Vx ha hb I h λv u s2 x y H2 I2 rx ry q=>ho pins s2 σ H2 x y v u Q I2 rx ry q)
theorem Wu{op:UnaryOp}{r:V->Hp->VK->Prop}(ho:YF X (unaryOp op) r)(ha:PE X a ta):PE X (.UnaryOp op a pos) (YY r ta):=by
 intro pins s σ H Q I h
 exact UnaryOp_ (thn (ha pins s σ H _ I h) λv s1 ⟨x,H1,I1,r1,q1⟩=>ho pins s1 σ H1 x v Q I1 r1 q1)
theorem Xe{f:Value->Value->Sem Value}{C:Int->Int->Prop}{g:Int->Int->Int}
  (rule:∀(i j:Int) (t u:Tok) (s:Shared) (Q:Value->Shared->Prop) (E:Value->Shared->Prop),C i j->Q (.int (g i j) s.toks) { s with toks:=s.toks+1 }->wpAny (model X.prog X.w) X.A (f (.int i t) (.int j u)) Q E s) :
  OpR X f (rI C λi j=>.int (g i j)):=by
 intro pins s σ H x y v u Q I rx ry h
 obtain⟨i,j,rfl,rfl,hc,q⟩:=h
 obtain⟨t,rfl⟩:=rx
 obtain⟨t',rfl⟩:=ry
 exact rule i j t t' s _ _ hc ⟨.int (g i j),H,I.tok _,⟨_,rfl⟩,q⟩
theorem Wy{f:Value->Value->Sem Value}{g:Int->Int->Int}
  (rule:∀(i j:Int) (t u:Tok) (s:Shared) (Q:Value->Shared->Prop) (E:Value->Shared->Prop),Q (.int (g i j) s.toks) { s with toks:=s.toks+1 }->wpAny (model X.prog X.w) X.A (f (.int i t) (.int j u)) Q E s) :
  OpR X f (Hl λi j=>.int (g i j)):=by
 intro pins s σ H x y v u Q I rx ry h
 obtain⟨i,j,rfl,rfl,q⟩:=h
 obtain⟨t,rfl⟩:=rx
 obtain⟨t',rfl⟩:=ry
 exact rule i j t t' s _ _ ⟨.int (g i j),H,I.tok _,⟨_,rfl⟩,q⟩
theorem Td{f:Value->Value->Sem Value}{g:Int->Int->Bool}
  (rule:∀(i j:Int) (t u:Tok) (s:Shared) (Q:Value->Shared->Prop) (E:Value->Shared->Prop),Q (.bool (g i j)) s->wpAny (model X.prog X.w) X.A (f (.int i t) (.int j u)) Q E s) :
  OpR X f (Hl λi j=>.bl (g i j)):=by
 intro pins s σ H x y v u Q I rx ry h
 obtain⟨i,j,rfl,rfl,q⟩:=h
 obtain⟨t,rfl⟩:=rx
 obtain⟨t',rfl⟩:=ry
 exact rule i j t t' s _ _ ⟨.bl (g i j),H,I,rfl,q⟩
def UA(i j:Int):Prop:=0<j/\j<1073741824
def KI(i j:Int):Prop:=0<=j/\j<=1000000/\i.natAbs<2 ^ 64
def CMul(i j:Int):Prop:=(-(2 ^ 64)<i/\i<2 ^ 64)\/(-(2 ^ 64)<j/\j<2 ^ 64)
theorem CMul.ok{i j:Int}(h:CMul i j):IntMulOk i j:=by
 rcases h with ⟨h1,h2⟩ | ⟨h1,h2⟩
 ·exact .of_left (intBits_le_64 h1 h2)
 ·exact .of_right (intBits_le_64 h1 h2)
theorem op_add:OpR X (binaryOp .Add) (Hl λi j=>.int (i+j)):=Wy λ_ _ _ _ _ _ _ q=>add_int q
theorem op_sub:OpR X (binaryOp .Sub) (Hl λi j=>.int (i - j)):=Wy λ_ _ _ _ _ _ _ q=>sub_int q
theorem op_mul:OpR X (binaryOp .Mult) (rI CMul λi j=>.int (i*j)):=Xe λ_ _ _ _ _ _ _ hc q=>mul_int q hc.ok
theorem Lb:OpR X (binaryOp .FloorDiv) (rI UA λi j=>.int (i / j)):=Xe λi j _ _ _ _ _ hc q=>by
 have h1:(0:Int)<j:=hc.1
 have h2:j<1073741824:=hc.2
 exact floordiv_int (by omega) (by rw [Int.fdiv_eq_ediv_of_nonneg i (by omega)]; exact q) (.inl (PyProof.noPylong_small (by omega)))
theorem Dy:OpR X (binaryOp .Mod) (rI (λ_ j=>0<j) λi j=>.int (i % j)):=Xe λi j _ _ _ _ _ hc q=>by
 have h1:(0:Int)<j:=hc
 exact mod_int' (by omega) (by rw [Int.fmod_eq_emod_of_nonneg i (by omega)]; exact q)
theorem Fj:OpR X (binaryOp .Pow) (rI KI λi j=>.int (i ^ j.toNat)):=Xe λ_ _ _ _ _ _ _ hc q=>pow_int_small hc.1 hc.2.1 hc.2.2 q
theorem YX{f:Value->Sem Value}{g:Int->Int}
  (rule:∀(i:Int) (t:Tok) (s:Shared) (Q:Value->Shared->Prop) (E:Value->Shared->Prop),Q (.int (g i) s.toks) { s with toks:=s.toks+1 }->wpAny (model X.prog X.w) X.A (f (.int i t)) Q E s) :
  YF X f (rU λi=>.int (g i)):=by
 intro pins s σ H x v Q I rx h
 obtain⟨i,rfl,q⟩:=h
 obtain⟨t,rfl⟩:=rx
 exact rule i t s _ _ ⟨.int (g i),H,I.tok _,⟨_,rfl⟩,q⟩
theorem Ur:YF X (unaryOp .USub) (rU λi=>.int (-i)):=YX λ_ _ _ _ _ q=>neg_int q
end
def WY:V->V->Bool
 | .non,.non=>true | .non,.int _=>true | .int _,.non=>true | .non,.bl _=>true | .bl _,.non=>true | .non,.str _=>true | .str _,.non=>true
 | .int _,.int _=>true | .bl _,.bl _=>true | .str _,.str _=>true | .byt _,.byt _=>true
 | .int _,.str _=>true | .str _,.int _=>true | .bl _,.str _=>true | .str _,.bl _=>true
 | _,_=>false
def YO:R2:=λx y H Q=>WY x y=true/\Q (.bl (decide (x=y))) H
def YL:R2:=λx y H Q=>WY x y=true/\Q (.bl (!decide (x=y))) H
theorem ID{i j:Int}:decide (V.int i=V.int j)=(i==j):=by
 rw [Bool.eq_iff_iff]
 simp
theorem L0{i j:Bool}:decide (V.bl i=V.bl j)=(i==j):=by
 rw [Bool.eq_iff_iff]
 simp
theorem IC{i j:Str}:decide (V.str i=V.str j)=(i==j):=by
 rw [Bool.eq_iff_iff]
 simp
theorem Pk{i j:Array UInt8}:decide (V.byt i=V.byt j)=(i.toList==j.toList):=by
 rw [Bool.eq_iff_iff]
 cases i
 cases j
 simp
section
variable {X:Cx}{a b c:Expr}{ta tb tc:TE}{pos:Pos}
theorem Ay{pins:List (Addr×Obj)}{σ:St}{H:Hp}{s:Shared}{Q:VK}{k k':Bool}(I:Inv X pins σ H s)(q:Q (.bl k) H)(e:k=k'):EP X pins σ Q (.bool k') s:=by
 subst e
 exact⟨.bl k,H,I,rfl,q⟩
theorem Ep:OpR X (compareOp .Eq) YO:=by
 intro pins s σ H x y v u Q I rx ry h
 obtain⟨hs,q⟩:=h
 cases x with
 | non =>
  cases rx
  cases y with
  | non=>cases ry; exact PySem.EqNone.eq_none_none (Ay I q (by simp))
  | bl j=>cases ry; exact PySem.EqNone.eq_none_bool (Ay I q (by simp))
  | int j=>obtain⟨t',rfl⟩:=ry; exact PySem.EqNone.eq_none_int (Ay I q (by simp))
  | str j=>obtain⟨t',rfl⟩:=ry; exact PySem.EqNone.eq_none_str (Ay I q (by simp))
  | _=>exact absurd (show false=true from hs) Bool.false_ne_true
 | bl i =>
  cases rx
  cases y with
  | non=>cases ry; exact PySem.EqNone.eq_bool_none (Ay I q (by simp))
  | bl j=>cases ry; exact eq_bool (Ay I q L0)
  | str j=>obtain⟨t',rfl⟩:=ry; exact PySem.EqMixed.eq_bool_str (Ay I q (by simp))
  | _=>exact absurd (show false=true from hs) Bool.false_ne_true
 | int i =>
  obtain⟨t,rfl⟩:=rx
  cases y with
  | non=>cases ry; exact PySem.EqNone.eq_int_none (Ay I q (by simp))
  | int j=>obtain⟨t',rfl⟩:=ry; exact eq_int (Ay I q ID)
  | str j=>obtain⟨t',rfl⟩:=ry; exact PySem.EqMixed.eq_int_str (Ay I q (by simp))
  | _=>exact absurd (show false=true from hs) Bool.false_ne_true
 | str i =>
  obtain⟨t,rfl⟩:=rx
  cases y with
  | non=>cases ry; exact PySem.EqNone.eq_str_none (Ay I q (by simp))
  | bl j=>cases ry; exact PySem.EqMixed.eq_str_bool (Ay I q (by simp))
  | int j=>obtain⟨t',rfl⟩:=ry; exact PySem.EqMixed.eq_str_int (Ay I q (by simp))
  | str j=>obtain⟨t',rfl⟩:=ry; exact eq_str (Ay I q IC)
  | _=>exact absurd (show false=true from hs) Bool.false_ne_true
 | byt i =>
  obtain⟨t,rfl⟩:=rx
  cases y with
  | byt j=>obtain⟨t',rfl⟩:=ry; exact PySem.W.eq_bytes (Ay I q Pk)
  | _=>exact absurd (show false=true from hs) Bool.false_ne_true
 | _=>cases y <;> exact absurd (show false=true from hs) Bool.false_ne_true
theorem FW:OpR X (compareOp .NotEq) YL:=by
 intro pins s σ H x y v u Q I rx ry h
 obtain⟨hs,q⟩:=h
 cases x with
 | non =>
  cases rx
  cases y with
  | non=>cases ry; exact PySem.EqNone.ne_none_none (Ay I q (by simp))
  | bl j=>cases ry; exact PySem.EqNone.ne_none_bool (Ay I q (by simp))
  | int j=>obtain⟨t',rfl⟩:=ry; exact PySem.EqNone.ne_none_int (Ay I q (by simp))
  | str j=>obtain⟨t',rfl⟩:=ry; exact PySem.EqNone.ne_none_str (Ay I q (by simp))
  | _=>exact absurd (show false=true from hs) Bool.false_ne_true
 | bl i =>
  cases rx
  cases y with
  | non=>cases ry; exact PySem.EqNone.ne_bool_none (Ay I q (by simp))
  | bl j=>cases ry; exact ne_bool (Ay I q (congrArg not L0))
  | str j=>obtain⟨t',rfl⟩:=ry; exact PySem.EqMixed.ne_bool_str (Ay I q (by simp))
  | _=>exact absurd (show false=true from hs) Bool.false_ne_true
 | int i =>
  obtain⟨t,rfl⟩:=rx
  cases y with
  | non=>cases ry; exact PySem.EqNone.ne_int_none (Ay I q (by simp))
  | int j=>obtain⟨t',rfl⟩:=ry; exact ne_int (Ay I q (congrArg not ID))
  | str j=>obtain⟨t',rfl⟩:=ry; exact PySem.EqMixed.ne_int_str (Ay I q (by simp))
  | _=>exact absurd (show false=true from hs) Bool.false_ne_true
 | str i =>
  obtain⟨t,rfl⟩:=rx
  cases y with
  | non=>cases ry; exact PySem.EqNone.ne_str_none (Ay I q (by simp))
  | bl j=>cases ry; exact PySem.EqMixed.ne_str_bool (Ay I q (by simp))
  | int j=>obtain⟨t',rfl⟩:=ry; exact PySem.EqMixed.ne_str_int (Ay I q (by simp))
  | str j=>obtain⟨t',rfl⟩:=ry; exact ne_str (Ay I q (congrArg not IC))
  | _=>exact absurd (show false=true from hs) Bool.false_ne_true
 | byt i =>
  obtain⟨t,rfl⟩:=rx
  cases y with
  | byt j=>obtain⟨t',rfl⟩:=ry; exact PySem.W.ne_bytes (Ay I q (congrArg not Pk))
  | _=>exact absurd (show false=true from hs) Bool.false_ne_true
 | _=>cases y <;> exact absurd (show false=true from hs) Bool.false_ne_true
theorem op_lt:OpR X (compareOp .Lt) (Hl λi j=>.bl (decide (i<j))):=Td λ_ _ _ _ _ _ _ q=>lt_int q
theorem op_le:OpR X (compareOp .LtE) (Hl λi j=>.bl (decide (i<=j))):=Td λ_ _ _ _ _ _ _ q=>le_int q
theorem UW:OpR X (compareOp .Gt) (Hl λi j=>.bl (decide (j<i))):=Td λ_ _ _ _ _ _ _ q=>gt_int q
theorem Wx:OpR X (compareOp .GtE) (Hl λi j=>.bl (decide (j<=i))):=Td λ_ _ _ _ _ _ _ q=>ge_int q
theorem QS:OpR X (compareOp .Lt) (λx y H Q=>∃i j,x=.str i/\y=.str j/\Q (.bl (decide (i.cps.toList<j.cps.toList))) H):=by
 intro pins s σ H x y v u Q I rx ry h
 obtain⟨i,j,rfl,rfl,q⟩:=h
 obtain⟨t,rfl⟩:=rx
 obtain⟨t',rfl⟩:=ry
 exact lt_str (Ay I q rfl)
theorem QV:OpR X (compareOp .In) (λx y H Q=>∃i j,x=.str i/\y=.str j/\Q (.bl (!(Builtin.Str.occurrences j i 0 j.length 1).isEmpty)) H):=by
 intro pins s σ H x y v u Q I rx ry h
 obtain⟨i,j,rfl,rfl,q⟩:=h
 obtain⟨t,rfl⟩:=rx
 obtain⟨t',rfl⟩:=ry
 exact in_str (Ay I q rfl)
theorem Fk:OpR X (compareOp .Is) (λx y H Q=>y=.non/\Q (.bl (decide (x=.non))) H):=by
 intro pins s σ H x y v u Q I rx ry h
 obtain⟨rfl,q⟩:=h
 cases ry
 refine is_none_gen (Ay I q ?_)
 cases x <;> first
  | (cases rx; rfl)
  | (obtain⟨t,rfl⟩:=rx; rfl)
theorem Hz:OpR X (compareOp .IsNot) (λx y H Q=>y=.non/\Q (.bl (!decide (x=.non))) H):=by
 intro pins s σ H x y v u Q I rx ry h
 obtain⟨rfl,q⟩:=h
 cases ry
 refine isnot_none_gen (Ay I q ?_)
 cases x <;> first
  | (cases rx; rfl)
  | (obtain⟨t,rfl⟩:=rx; rfl)
theorem OpR.or{f:Value->Value->Sem Value}{r r':R2}(h:OpR X f r)(h':OpR X f r'):OpR X f (λx y H Q=>r x y H Q\/r' x y H Q):=by
 intro pins s σ H x y v u Q I rx ry q
 rcases q with q | q
 ·exact h pins s σ H x y v u Q I rx ry q
 ·exact h' pins s σ H x y v u Q I rx ry q
theorem Ah(b:Expr){op:CmpOp}(h:op≠.In:=by decide)(h2:op≠.NotIn:=by decide):behindInMarks op b=false:=by
 have e1:(op==CmpOp.In)=false:=by cases op <;> first | rfl | exact absurd rfl h
 have e2:(op==CmpOp.NotIn)=false:=by cases op <;> first | rfl | exact absurd rfl h2
 cases b <;> simp [behindInMarks,e1,e2]
theorem TY{op:CmpOp}{r:R2}(ho:OpR X (compareOp op) r)(ha:PE X a ta)(hb:PE X b tb)(hm:behindInMarks op b=false):PE X (.Compare a [op] [b] pos) (D9 r ta tb):=by
 intro pins s σ H Q I h
 exact wpAny_Compare1 (Vx ha hb I h λv u s2 x y H2 I2 rx ry q=>ho pins s2 σ H2 x y v u Q I2 rx ry q) hm
def Ow(t:TE):TT:=λσ H Q=>t σ H λx H'=>∃k,x=.bl k/\Q k H'
theorem Fy{op:CmpOp}{r:R2}(ho:OpR X (compareOp op) r)(ha:PE X a ta)(hb:PE X b tb)(hm:behindInMarks op b=false):PT X (.Compare a [op] [b] pos) (Ow (D9 r ta tb)):=by
 intro pins s σ H Q I h
 refine wpAny_isTrue_Compare1 (thn (ha pins s σ H _ I h) λv s1 ⟨x,H1,I1,r1,q1⟩=>thn (hb pins s1 σ H1 _ I1 q1) λu s2 ⟨y,H2,I2,r2,q2⟩ =>
  thn (ho pins s2 σ H2 x y v u _ I2 r1 r2 q2) λc s3 ⟨z,H3,I3,r3,k,e,q3⟩=>?_) hm
 subst e
 cases r3
 exact wpAny_truthy_bool ⟨H3,I3,q3⟩
def N4(r r':R2)(ta tb tc:TE):TE:=λσ H Q=>ta σ H λx H1=>tb σ H1 λy H2=>r x y H2 λz H3=>∃k,z=.bl k /\
 (if k=true then tc σ H3 λw' H4=>r' y w' H4 Q else Q (.bl false) H3)
theorem Rz{op op':CmpOp}{r r':R2}(ho:OpR X (compareOp op) r)(ho':OpR X (compareOp op') r')(ha:PE X a ta)(hb:PE X b tb)(hc:PE X c tc)
  (hm:lastMarks [op,op'] [b,c]=false:=by with_unfolding_all rfl):PE X (.Compare a [op,op'] [b,c] pos) (N4 r r' ta tb tc):=by
 intro pins s σ H Q I h
 refine Compare_chain (thn (ha pins s σ H _ I h) λv s1 ⟨x,H1,I1,r1,q1⟩=>chain_link (thn (hb pins s1 σ H1 _ I1 q1) λu s2 ⟨y,H2,I2,r2,q2⟩ =>
  thn (ho pins s2 σ H2 x y v u _ I2 r1 r2 q2) λd s3 ⟨z,H3,I3,r3,k,e,q3⟩=>?_)) hm
 subst e
 cases r3
 refine wpAny_truthy_bool ?_
 cases k with
 | false=>exact ite_ff ⟨.bl false,H3,I3,rfl,q3⟩
 | true=>exact ite_tt (chain_last (thn (hc pins s3 σ H3 _ I3 q3) λw' s4 ⟨z',H4,I4,r4,q4⟩=>ho' pins s4 σ H4 y z' u w' Q I4 r2 r4 q4))
theorem Rk{op op':CmpOp}{r r':R2}(ho:OpR X (compareOp op) r)(ho':OpR X (compareOp op') r')(ha:PE X a ta)(hb:PE X b tb)(hc:PE X c tc)
  (hm:lastMarks [op,op'] [b,c]=false:=by with_unfolding_all rfl):PT X (.Compare a [op,op'] [b,c] pos) (Ow (N4 r r' ta tb tc)):=by
 intro pins s σ H Q I h
 refine isTrue_chain (thn (ha pins s σ H _ I h) λv s1 ⟨x,H1,I1,r1,q1⟩=>test_link (thn (hb pins s1 σ H1 _ I1 q1) λu s2 ⟨y,H2,I2,r2,q2⟩ =>
  thn (ho pins s2 σ H2 x y v u _ I2 r1 r2 q2) λd s3 ⟨z,H3,I3,r3,k,e,q3⟩=>?_)) hm
 subst e
 cases r3
 refine wpAny_truthy_bool ?_
 cases k with
 | false =>
  obtain⟨k',e',q'⟩:=q3
  cases e'
  exact ite_ff ⟨H3,I3,q'⟩
 | true =>
  refine ite_tt (test_last (thn (hc pins s3 σ H3 _ I3 q3) λw' s4 ⟨z',H4,I4,r4,q4⟩=>thn (ho' pins s4 σ H4 y z' u w' _ I4 r2 r4 q4) λd' s5 ⟨z2,H5,I5,r5,k2,e2,q5⟩=>?_))
  subst e2
  cases r5
  exact wpAny_truthy_bool ⟨H5,I5,q5⟩
def V3(K:Frag)(x:V)(H:Hp)(k:Bool):Prop :=
 match x with
 | .non=>k=false
 | .bl b=>k=b
 | .int i=>k=(i != 0)
 | .str y=>y.length<=sizeLine/\k=((y.length:Int) != 0)
 | .byt y=>y.size<=sizeLine/\k=((y.size:Int) != 0)
 | .ref p=>(∃xs,SqL K H p xs/\k=!xs.isEmpty)\/(∃xs,SqT K H p xs/\k=!xs.isEmpty)\/∃kvs,H p=some (.dK kvs)/\k=!kvs.isEmpty
 | _=>False
theorem OW{κ:Type}{kvs:List (κ×V)}{vs:List (κ×Value)}(r:KV kvs vs):(!vs.isEmpty)=!kvs.isEmpty:=by
 cases r <;> rfl
theorem JF{xs:List V}{its:List Value}(r:Vals xs its):(!its.toArray.isEmpty)=!xs.isEmpty:=by
 cases r <;> simp
theorem G8:(sizeLine:Nat)<2 ^ 63:=by rw [sizeLine_eq]; decide
theorem Uv:YG X (λx H Q=>∃k,V3 X.K x H k/\Q k H):=by
 intro pins s σ H x v Q I rx h
 obtain⟨k,e,q⟩:=h
 have hl:=G8
 have hs:sizeLine=16777216:=sizeLine_eq
 cases x with
 | non =>
  cases rx
  have e':k=false:=e
  subst e'
  exact truthy_none ⟨H,I,q⟩
 | bl b =>
  cases rx
  have e':k=b:=e
  subst e'
  exact wpAny_truthy_bool ⟨H,I,q⟩
 | int i =>
  obtain⟨t,rfl⟩:=rx
  have e':k=(i != 0):=e
  subst e'
  exact PySem.P.truthy_int ⟨H,I,q⟩
 | str y =>
  obtain⟨t,rfl⟩:=rx
  obtain⟨hy,e'⟩:y.length<=sizeLine/\k=((y.length:Int) != 0):=e
  subst e'
  exact PySem.P.truthy_str (by omega) ⟨H,I.tok _,q⟩
 | byt y =>
  obtain⟨t,rfl⟩:=rx
  obtain⟨hy,e'⟩:y.size<=sizeLine/\k=((y.size:Int) != 0):=e
  subst e'
  exact PySem.W.truthy_bytes (by omega) ⟨H,I.tok _,q⟩
 | ref p =>
  cases rx
  have e':(∃xs,SqL X.K H p xs/\k=!xs.isEmpty)\/(∃xs,SqT X.K H p xs/\k=!xs.isEmpty)\/∃kvs,H p=some (.dK kvs)/\k=!kvs.isEmpty:=e
  rcases e' with ⟨xs,hx,e'⟩ | ⟨xs,hx,e'⟩ | ⟨kvs,hx,e'⟩
  ·subst e'
   obtain⟨its,r,pl,hz⟩:=I.list hx
   have hlen:=r.length
   exact wpAny_truthy_list pl.isList (by simp only [List.size_toArray]; omega) ⟨H,I.tok _,by rw [JF r]; exact q⟩
  ·subst e'
   obtain⟨its,r,pl,hz⟩:=I.tuple hx
   have hlen:=r.length
   exact truthy_tuple pl (by simp only [List.size_toArray]; omega) ⟨H,I.tok _,by rw [JF r]; exact q⟩
  ·subst e'
   obtain⟨hz,hS,vs,r,m⟩:kvs.length<=sizeLine/\(p==sysModules)=false/\∃vs,KV kvs vs/\s.heap.DictOf (A_ X.prog X.w) p vs:=I.hok p _ hx
   have hlen:kvs.length=vs.length:=Paired.length r
   exact wpAny_truthy_dict hS m (by omega) ⟨H,I.tok _,by rw [OW r]; exact q⟩
 | _=>exact(show False from e).elim
theorem Rj(ha:PE X a ta)(he:∀whole,isTrue a X.env whole=(do let v ← whole; standAt a.pos; holding [v] (truthy v))) :
  PT X a (λσ H Q=>ta σ H λx H'=>∃k,V3 X.K x H' k/\Q k H'):=by
 intro pins s σ H Q I h
 exact isTrue_plain (thn (ha pins s σ H _ I h) λv s1 ⟨x,H1,I1,r1,q1⟩=>Uv pins s1 σ H1 x v Q I1 r1 q1) (he _)
theorem OJ:OpR X (binaryOp .Add) (λx y H Q=>∃i j,x=.str i/\y=.str j/\i.length+j.length<=sizeLine/\Q (.str (i++j)) H):=by
 intro pins s σ H x y v u Q I rx ry h
 obtain⟨i,j,rfl,rfl,hz,q⟩:=h
 obtain⟨t,rfl⟩:=rx
 obtain⟨t',rfl⟩:=ry
 exact add_str (λt' tk=>⟨.str (i++j),H,I.tok _,⟨_,rfl⟩,q⟩) hz
theorem vals1{x:V}{us:List Value}(r:Vals [x] us):∃u,us=[u]/\RelV x u:=by
 cases r with
 | cons r1 r2=>cases r2; exact⟨_,rfl,r1⟩
theorem vals2{x y:V}{us:List Value}(r:Vals [x,y] us):∃u w',us=[u,w']/\RelV x u/\RelV y w':=by
 cases r with
 | cons r1 r2 =>
  cases r2 with
  | cons r3 r4=>cases r4; exact⟨_,_,rfl,r1,r3⟩
def V9(K:Frag)(x:V)(H:Hp)(n:Nat):Prop :=
 match x with
 | .str y=>y.length<=sizeLine/\n=y.length
 | .byt y=>y.size<=sizeLine/\n=y.size
 | .ref p=>(∃xs,SqL K H p xs/\n=xs.length)\/∃xs,SqT K H p xs/\n=xs.length
 | _=>False
theorem BA:EM X (.builtin "len") (λxs H Q=>∃x n,xs=[x]/\V9 X.K x H n/\Q (.int n) H):=by
 intro pins s σ H xs us Q I r h
 obtain⟨x,n,rfl,e,q⟩:=h
 obtain⟨u,rfl,rx⟩:=vals1 r
 have hl:=G8
 have hs:sizeLine=16777216:=sizeLine_eq
 cases x with
 | str y =>
  obtain⟨t,rfl⟩:=rx
  obtain⟨hy,e'⟩:y.length<=sizeLine/\n=y.length:=e
  subst e'
  exact len_str (by omega) ⟨.int _,H,I.tok _,⟨_,rfl⟩,q⟩
 | byt y =>
  obtain⟨t,rfl⟩:=rx
  obtain⟨hy,e'⟩:y.size<=sizeLine/\n=y.size:=e
  subst e'
  exact PySem.W.len_bytes (by omega) ⟨.int _,H,I.tok _,⟨_,rfl⟩,q⟩
 | ref p =>
  cases rx
  have e':(∃xs,SqL X.K H p xs/\n=xs.length)\/∃xs,SqT X.K H p xs/\n=xs.length:=e
  rcases e' with ⟨xs,hx,e'⟩ | ⟨xs,hx,e'⟩
  ·subst e'
   obtain⟨its,r',pl,hz⟩:=I.list hx
   have hlen:=r'.length
   exact Calls.call_len_list pl.isList (by simp only [List.size_toArray]; omega) ⟨.int xs.length,H,I.tok _,⟨_,by simp only [List.size_toArray]; rw [hlen]⟩,q⟩
  ·subst e'
   obtain⟨its,r',pl,hz⟩:=I.tuple hx
   have hlen:=r'.length
   exact len_tuple pl (by simp only [List.size_toArray]; omega) ⟨.int xs.length,H,I.tok _,⟨_,by simp only [List.size_toArray]; rw [hlen]⟩,q⟩
 | _=>exact(show False from e).elim
end
structure ObjM (h:Heap) (x dx C:Addr) (mA:Str->Option Value):Prop where
 obj:h.get? x=some (PySem.W.instObj C dx)
 ns:h.Ns1 dx mA
 ne:dx≠x
theorem Qk{h:Heap}{dx:Addr}{mA:Str->Option Value}(n:h.Ns1 dx mA):∃od,h.get? dx=some od/\∀name,PySem.W.lookIn name od=some (mA name):=by
 obtain⟨o,es,ep,ho,hd,hk,_,hm⟩:=n
 refine⟨o,ho,λname=>?_⟩
 have e:=hm name
 unfold nsFind findBy at e
 rw [← Array.find?_toList] at e
 unfold PySem.W.lookIn
 rw [hd]
 dsimp only
 split
 ·rename_i y q
  rw [q] at e
  exact congrArg some e
 ·rename_i q
  rw [q] at e
  have a:es.toList.any (·.refKey)=false:=by
   rw [List.any_eq_false]
   intro y hy
   obtain⟨z,t,hkey⟩:=hk y (Array.mem_toList_iff.mp hy)
   simp [DictEntry.refKey,hkey]
  have a':¬es.toList.any (·.refKey)=true:=by rw [a]; exact Bool.false_ne_true
  rw [if_neg a']
  exact congrArg some e
theorem ObjM.look{h:Heap}{x dx C:Addr}{mA:Str->Option Value}(I:ObjM h x dx C mA):∃od,PySem.W.InstAt h x (PySem.W.instObj C dx) C (some od)/\∀name,PySem.W.lookIn name od=some (mA name) :=
 let ⟨od,ho,hl⟩:=Qk I.ns
 ⟨od,⟨I.obj,rfl,rfl,ho⟩,hl⟩
section
variable {prog:Program}{w:World}{A:Around}{E:Value->Shared->Prop}{s:Shared}{K:Frag}{x dx C f:Addr}{mA:Str->Option Value}{name:Str}{v:Value}
end
theorem RelO.some_of{v:V}{o:Option Value}(r:RelO (some v) o):∃u,o=some u/\RelV v u:=by
 cases o with
 | none=>exact(show False from r).elim
 | some u=>exact⟨u,rfl,r⟩
section
variable {P:Program}{w:World}{H H':Hp}{h h':Heap}{a C dx:Addr}{fs fs':List (Str×V)}
theorem Tr(hok:HOk P w H h)(e:H a=some (.ins C dx fs)):∃mA,ObjM h a dx C mA/\(∀f,RelO (fs.lookup f) (mA f))/\PySem.Within mA (fs.map (·.1))/\fs.length<=1000/\H dx=some (.own a):=by
 obtain⟨d,z,ne,ob,mA,n,r,q⟩:=(show ObjOk P w H h a (.ins C dx fs) from hok a _ e)
 exact⟨mA,⟨ob,n,ne⟩,r,q,z,d⟩
end
structure Cls (K:Frag) (C:Addr):Prop where
 pg:PySem.W.plainGet K C Str.empty=true
 hd:PySem.W.hasDictIn K C=true
 po:PySem.W.plainOver K C=true
 sa:PySem.W.findIn K (.ref C) "__setattr__"=some (some (.builtin "object.__setattr__"))
theorem Cls.get{K:Frag}{C:Addr}(c:Cls K C)(f:Str):PySem.W.plainGet K C f=true:=c.pg
structure Yg (K:Frag) (C:Addr) (f:Str) (v:V) (u:Value):Prop where
 at_:PySem.W.findIn K (.ref C) f=some (some u)
 rel:RelV v u
 get:PySem.W.specialIn K u "__get__"=some none
 cp:PySem.W.copiedNames.contains f=false
structure Yf (K:Frag) (C:Addr) (m:Str) (f:Addr):Prop where
 at_:PySem.W.findIn K (.ref C) m=some (some (.ref f))
 fn:PySem.W.isFn K (.ref f)=true
 kp:keepIn K (.ref f)=true
section
variable {X:Cx}{pins:List (Addr×Obj)}{σ:St}{H:Hp}{s:Shared}{a C dx:Addr}{fs:List (Str×V)}{f:Str}{v:V}{A:Around}{E:Value->Shared->Prop}
end
section
variable {X:Cx}{o e value:Expr}{f:Str}{pos pos' tpos:Pos}{ta tv:TE}
end
section
variable {X:Cx}{pins:List (Addr×Obj)}{σ:St}{H:Hp}{s:Shared}{A:Around}{E:Value->Shared->Prop}{Q:Value->Shared->Prop}{c:Value}{b:Bool}
inductive Fp (K:Frag) (H:Hp):V->Value->Prop where
 | non:Fp K H .non (.type "NoneType")
 | bl (x:Bool):Fp K H (.bl x) (.type "bool")
 | int (i:Int):Fp K H (.int i) (.type "int")
 | str (x:Str):Fp K H (.str x) (.type "str")
 | flt (x:UInt64):Fp K H (.flt x) (.type "float")
 | lst {a:Addr} {xs:List V} (e:H a=some (.lst xs)):Fp K H (.ref a) (.type "list")
 | frz {a:Addr} {o:Obj} {xs:List V} (e:H a=some (.frz o (.lst xs))):Fp K H (.ref a) (.type "list")
 | tup {a:Addr} {xs:List V} (e:H a=some (.tup xs)):Fp K H (.ref a) (.type "tuple")
 | dF {a:Addr} {o:Obj} {kvs:List (Key×V)} (e:H a=some (.frz o (.dK kvs))):Fp K H (.ref a) (.type "dict")
 | dK {a:Addr} {kvs:List (Key×V)} (e:H a=some (.dK kvs)):Fp K H (.ref a) (.type "dict")
 | dT {a:Addr} {kvs:List (List Key×V)} (e:H a=some (.dT kvs)):Fp K H (.ref a) (.type "dict")
 | ins {a C dx:Addr} {fs:List (Str×V)} (e:H a=some (.ins C dx fs)) (cl:Cls K C) (ha:PySem.W.findIn K (.ref C) "__class__"=some (some (.builtin "object.__class__")))
   (hn:PySem.W.specialIn K (.builtin "object.__class__") "__get__"=some (some (.builtin "getset_descriptor.__get__"))) (htk:PySem.W.takesIn K (.builtin "object.__class__")=some true)
   (hm:PySem.W.mroIn K C (.type "object")=some true):Fp K H (.ref a) (.ref C)
theorem Qp{x:V}{u t:Value}(I:Inv X pins σ H s)(rx:RelV x u)(ty:Fp X.K H x t)(e:PySem.W.kitOne X.K t c=some b)(h:∀tk,Q (.bool b) { s with toks:=tk }) :
  wpAny (model X.prog X.w) A (call (.builtin "isinstance") [u,c]) Q E s:=by
 cases ty with
 | non=>cases (show u=Value.none from rx); exact PySem.W.kia_one PySem.W.kitx_none I.kIn True.intro e (λz=>nomatch z) h
 | bl y=>cases (show u=Value.bool y from rx); exact PySem.W.kia_one PySem.W.kitx_bool I.kIn True.intro e (λz=>nomatch z) h
 | int i=>obtain⟨t,q⟩:=(show ∃t,u=Value.int i t from rx); cases q; exact PySem.W.kia_one PySem.W.kitx_int I.kIn True.intro e (λz=>nomatch z) h
 | str y=>obtain⟨t,q⟩:=(show ∃t,u=Value.str y t from rx); cases q; exact PySem.W.kia_one PySem.W.kitx_str I.kIn True.intro e (λz=>nomatch z) h
 | flt y=>obtain⟨t,q⟩:=(show ∃t,u=Value.float y t from rx); cases q; exact PySem.W.kia_one PySem.W.kitx_float I.kIn True.intro e (λz=>nomatch z) h
 | @lst a xs ea =>
  cases (show u=Value.ref a from rx)
  obtain⟨_,_,n,_,h1⟩:=(show ObjOk X.prog X.w H s.heap a (.lst xs) from I.hok a _ ea)
  exact PySem.W.kia_one PySem.W.kitx_list I.kIn ⟨_,h1,rfl⟩ e (λz=>nomatch z) h
 | @frz a ob xs ea =>
  cases (show u=Value.ref a from rx)
  obtain⟨_,_,_,n,_,h1⟩:=(show ObjOk X.prog X.w H s.heap a (.frz ob (.lst xs)) from I.hok a _ ea)
  exact PySem.W.kia_one PySem.W.kitx_list I.kIn ⟨_,h1,rfl⟩ e (λz=>nomatch z) h
 | @tup a xs ea =>
  cases (show u=Value.ref a from rx)
  obtain⟨_,_,_,p⟩:=(show ObjOk X.prog X.w H s.heap a (.tup xs) from I.hok a _ ea)
  obtain⟨o,h1,h2,_⟩:=p
  exact PySem.W.kia_one PySem.W.kitx_tuple I.kIn ⟨o,h1,h2⟩ e (λz=>nomatch z) h
 | @dF a ob kvs ea =>
  cases (show u=Value.ref a from rx)
  obtain⟨_,_,_,vs,_,p⟩:=(show ObjOk X.prog X.w H s.heap a (.frz ob (.dK kvs)) from I.hok a _ ea)
  obtain⟨o,es,ep,h1,h2,_⟩:=p
  exact PySem.W.kia_one PySem.W.kitx_dict I.kIn ⟨o,h1,h2.1⟩ e (λz=>nomatch z) h
 | @dK a kvs ea =>
  cases (show u=Value.ref a from rx)
  obtain⟨_,_,vs,_,p⟩:=(show ObjOk X.prog X.w H s.heap a (.dK kvs) from I.hok a _ ea)
  obtain⟨o,es,ep,h1,h2,_⟩:=p
  exact PySem.W.kia_one PySem.W.kitx_dict I.kIn ⟨o,h1,h2.1⟩ e (λz=>nomatch z) h
 | @dT a kvs ea =>
  cases (show u=Value.ref a from rx)
  obtain⟨_,_,xs,_,o,es,ep,h1,h2,_⟩:=(show ObjOk X.prog X.w H s.heap a (.dT kvs) from I.hok a _ ea)
  exact PySem.W.kia_one PySem.W.kitx_dict I.kIn ⟨o,h1,h2.1⟩ e (λz=>nomatch z) h
 | @ins a C dx fs ea cl ha hn htk hm =>
  cases (show u=Value.ref a from rx)
  obtain⟨mA,O,_⟩:=Tr I.hok ea
  obtain⟨od,J,_⟩:=O.look
  exact PySem.W.kia_one (PySem.W.kitx_own (cl.get _) cl.hd ha hn htk hm) I.kIn J e (λz=>nomatch z) h
end
structure Room (k:Nat) (A:Around):Prop where
 hd:A.handled=none
 dp:A.depth+3*k+5<recursionLimit
 un:A.units+16*k+200<cLine
 gd:A.guards=some []
theorem Room.mono{j k:Nat}{A:Around}(r:Room k A)(h:j<=k):Room j A:=⟨r.hd,by have:=r.dp; omega,by have:=r.un; omega,by first | exact r.gd | (show pushGuards _ _=_; rw [r.gd]; rfl) | (simp [Around.under,pushGuards,Code.guards,Code.isGuard,r.gd])⟩
theorem Room.deeper{k:Nat}{A:Around}(r:Room (k+1) A)(env:Env):Room k (A.deeper env) :=
 ⟨r.hd,by have:=r.dp; show A.depth+1+3*k+5<_; omega,by have:=r.un; show A.units+3+16*k+200<_; omega,by first | exact r.gd | (show pushGuards _ _=_; rw [r.gd]; rfl) | (simp [Around.under,pushGuards,Code.guards,Code.isGuard,r.gd])⟩
theorem Room.in1{k:Nat}{A:Around}(r:Room (k+1) A):Room k A.in1 :=
 ⟨r.hd,by have:=r.dp; show A.depth+3*k+5<_; omega,by have:=r.un; show A.units+1+16*k+200<_; omega,by first | exact r.gd | (show pushGuards _ _=_; rw [r.gd]; rfl) | (simp [Around.under,pushGuards,Code.guards,Code.isGuard,r.gd])⟩
theorem Room.depth{k:Nat}{A:Around}(r:Room k A):A.depth<recursionLimit:=by have:=r.dp; omega
theorem Room.units{k:Nat}{A:Around}(r:Room k A):A.units+64<cLine:=by have:=r.un; omega
theorem Room.units0{k:Nat}{A:Around}(r:Room k A):A.units<cLine:=by have:=r.un; omega
def TJ:TA:=λ_ H Q=>Q [] H
def Ox(ta:TE)(tr:TA):TA:=λσ H Q=>ta σ H λx H1=>tr σ H1 λxs H2=>Q (x::xs) H2
section
variable {X:Cx}{e:Expr}{es:List Expr}{te:TE}{t:TA}{pos:Pos}
theorem DL:PA X [] TJ:=λ_ _ _ _ H Q I h=>Calls.spliced_nil ⟨[],H,I,.nil,h⟩
theorem B7(ha:PE X e te)(hr:PA X es t)(hs:starEach (e::es) X.env=(false,eval e X.env)::starEach es X.env:=by rfl):PA X (e::es) (Ox te t):=by
 intro pos pins s σ H Q I h
 rw [hs]
 show wpAny _ _ (spliced ((false,eval e X.env)::backTo pos (starEach es X.env))) _ _ s
 refine Calls.spliced_cons (thn (ha pins s σ H _ I h) λu s1 ⟨x,H1,I1,r1,q1⟩=>?_)
 exact thn (hr pos pins s1 σ H1 _ I1 q1) λus s2 ⟨xs,H2,I2,r2,q2⟩=>⟨x::xs,H2,I2,.cons r1 r2,q2⟩
def Xs(t:TA):TE:=λσ H Q=>t σ H λxs H1=>xs.length<=sizeLine/\∀p,H1 p=none->Q (.ref p) (BG H1 p (.tup xs))
def Xu(t:TA):TE:=λσ H Q=>t σ H λxs H1=>xs.length<=sizeLine/\∀p,H1 p=none->Q (.ref p) (BG H1 p (.lst xs))
theorem VF{x1}(h:PA X es t):PE X (.Tuple es x1 pos) (Xs t):=by
 intro pins s σ H Q I hq
 refine wpAny_Tuple_spliced (thn (h pos pins s σ H _ I hq) λus s1 ⟨xs,H1,I1,r,z,q⟩=>⟨by rw [← r.length]; exact z,?_⟩)
 have hf:H1 s1.heap.objs.size=none:=I1.hok.fresh (Nat.le_refl _)
 refine⟨.ref s1.heap.objs.size,BG H1 s1.heap.objs.size (.tup xs),I1.laid (t':=s1.toks) (λb u e=>Heap.get?_push_of_some _ e) (Nat.le_refl _) ?_,rfl,q _ hf⟩
 exact⟨z,us,r,IsTupN.new _ _⟩
theorem OI(h:PA X es t):PE X (.List es pos) (Xu t):=by
 intro pins s σ H Q I hq
 refine wpAny_List_spliced (thn (h pos pins s σ H _ I hq) λus s1 ⟨xs,H1,I1,r,z,q⟩=>⟨by rw [← r.length]; exact z,?_⟩)
 have hf:H1 s1.heap.objs.size=none:=I1.hok.fresh (Nat.le_refl _)
 refine⟨.ref s1.heap.objs.size,BG H1 s1.heap.objs.size (.lst xs),I1.laid (t':=s1.toks) (λb u e=>Heap.get?_push_of_some _ e) (Nat.le_refl _) ?_,rfl,q _ hf⟩
 exact⟨z,us,0,r,Heap.get?_push_size _ rfl⟩
end
abbrev Sp:=List V->Hp->VK->XK->Prop
abbrev S6:=List Env->Hp->Shared->XK->Value->Shared->Prop
structure Env0 (P:Program) (w:World) (K:Frag) (mg:Str->Option Value) (base:Heap) (A:Around) (outer:List Env) (s:Shared) (H:Hp):Prop where
 frames:A.frames=some outer
 mod:Mod K mg base
 bs:∀b o,base.get? b=some o->s.heap.get? b=some o/\H b=none
 bsz:base.objs.size<=s.heap.objs.size
 funs:s.heap.FunFrames base outer
 frf:∀b∈RA outer,H b=none
 hok:HOk P w H s.heap
 bare:AllBare s.gens
def CE(outer:List Env)(P:Program)(w:World)(H:Hp)(s:Shared)(Q:VK)(u:Value)(s':Shared):Prop :=
 ∃v H',s'.os=s.os/\AllBare s'.gens/\Un (RA outer) [] H H' s.heap s'.heap/\HOk P w H' s'.heap/\RelV v u/\Q v H'
def CR(CX:S6)(outer:List Env)(P:Program)(w:World)(H:Hp)(s:Shared)(Q:VK)(E:XK)(r:Result)(s':Shared):Prop :=
 match r with
 | .ok (.ret u)=>CE outer P w H s Q u s'
 | .ok _=>False
 | .error e=>CX outer H s E e s'
structure BK (P:Program) (w:World) (K:Frag) (mg:Str->Option Value) (base:Heap) (CX:S6) (k:Nat) (f:Addr) (fd:FuncData) (ps:List Str) (sp:Sp):Prop where
 len:∀vs H Q E,sp vs H Q E->vs.length=ps.length
 run:∀(A:Around) (outer:List Env) (s:Shared) (H:Hp) (args:Args) (us:List Value) (vs:List V) (Q:VK) (E:XK),Room k A->Env0 P w K mg base A outer s H->BindsTo s fd args (ps.zip us)->Vals vs us->sp vs H Q E ->
  codeAny (model P w) A (.call (.ref f) args) (CR CX outer P w H s Q E) s
theorem Env0.in1{P:Program}{w:World}{K:Frag}{mg:Str->Option Value}{base:Heap}{A:Around}{outer:List Env}{s:Shared}{H:Hp}(e:Env0 P w K mg base A outer s H) :
  Env0 P w K mg base A.in1 outer s H:=⟨e.frames,e.mod,e.bs,e.bsz,e.funs,e.frf,e.hok,e.bare⟩
section
variable {X:Cx}{pins:List (Addr×Obj)}{σ:St}{H:Hp}{s s':Shared}
theorem Inv.env0(I:Inv X pins σ H s):Env0 X.prog X.w X.K X.mg X.base X.A X.stack s H :=
 ⟨I.ok.frames,I.ok.mod,I.bs,Nat.le_trans I.ok.bsz I.sz,I.stack,I.stkFree,I.hok,I.bare⟩
theorem Inv.after{Q:VK}{u:Value}(I:Inv X pins σ H s)(h:CE X.stack X.prog X.w H s Q u s'):EP X pins σ Q u s':=by
 obtain⟨v,H',os,bare,un,hok,r,q⟩:=h
 obtain⟨hh,g,d,t,os'⟩:=s'
 obtain rfl:os'=s.os:=os
 exact⟨v,H',I.call (h':=hh) (g':=g) (d':=d) (t':=t) (ch:=[]) un hok bare (λb z=>absurd z (by simp)),r,q⟩
end
def RQ(sp:Sp)(dvs:List V)(E:XK)(t:TA):TE:=λσ H Q=>t σ H λvs H1=>sp (vs++dvs) H1 Q E
def Binds(K:Frag)(fd:FuncData)(ps:List Str)(ds:List Value):Prop :=
 ∀(s:Shared) (us:List Value),K.In s.heap->(us++ds).length=ps.length->BindsTo s fd ⟨us,[]⟩ (ps.zip (us++ds))
theorem Binds.all{K:Frag}{fd:FuncData}{ps:List Str}(h:∀us:List Value,us.length=ps.length->bindArgs fd ⟨us,[]⟩=pure (ps.zip us)):Binds K fd ps []:=λs us _ hl=>by
 rw [List.append_nil] at hl ⊢
 exact .of_eq (h us hl)
def Ol(CX:S6)(X:Cx)(E:XK):Prop:=∀(pins:List (Addr×Obj)) (σ:St) (H:Hp) (s:Shared) (e:Value) (s':Shared),Inv X pins σ H s->CX X.stack H s E e s'->X.xe e s'
section
variable {X:Cx}{CX:S6}{k:Nat}{f C:Addr}{fd:FuncData}{ps:List Str}{sp:Sp}{dvs:List V}{ds:List Value}{E:XK}{x m:Str}{p pos apos:Pos}{e o:Expr}{es:List Expr}{ta:TE}{t:TA}
theorem U5{pins:List (Addr×Obj)}{σ:St}{H:Hp}{s:Shared}{Q:VK}{us:List Value}{vs:List V}(F:BK X.prog X.w X.K X.mg X.base CX k f fd ps sp)(hr:Room k X.A)(hb:Binds X.K fd ps ds)(hd:Vals dvs ds)(hx:Ol CX X E)
  (I:Inv X pins σ H s) (r:Vals vs us) (h:sp (vs++dvs) H Q E):wpAny (model X.prog X.w) X.A (call (.ref f) us) (EP X pins σ Q) X.xe s:=by
 have r2:Vals (vs++dvs) (us++ds):=r.append hd
 have hl:(us++ds).length=ps.length:=by rw [← r2.length]; exact F.len _ _ _ _ h
 refine wpAny_call (codeAny_mono (F.run X.A X.stack s H ⟨us,[]⟩ (us++ds) (vs++dvs) Q E hr I.env0 (hb s us I.kIn hl) r2 h) λr s' hq=>?_)
 cases r with
 | error e=>exact hx pins σ H s e s' I hq
 | ok fl =>
  cases fl with
  | ret u=>exact I.after hq
  | next=>exact False.elim hq
  | brk=>exact False.elim hq
  | cont=>exact False.elim hq
theorem O_(F:BK X.prog X.w X.K X.mg X.base CX k f fd ps sp)(hr:Room k X.A)(hg:Gl X x)(hm:X.mg x=some (.ref f))(hk:keepIn X.K (.ref f)=true)(hb:Binds X.K fd ps ds)(hd:Vals dvs ds)(hx:Ol CX X E)
  (ha:PA X (e::es) t) (hdb:(x==("__debug__" : Str))=false:=by decide) (he:starEach (e::es) X.env=(false,eval e X.env)::starEach es X.env:=by rfl) (hpl:(backTo pos (starEach es X.env)).any (·.1)=false:=by rfl) :
  PE X (.Call (.Name x p) (e::es) [] pos) (RQ sp dvs E t):=by
 intro pins s σ H Q I h
 refine wpAny_Call_Name_kw (PM I hg hm ?_ hdb)
 refine PySem.W.callWith_K (h₀:=X.base) I.ok.mod.kin hk (thn (ha pos pins s σ H _ I h) λus s1 ⟨vs,H1,I1,r,q⟩=>⟨I1.kIn,?_⟩) he hpl
 exact U5 F hr hb hd hx I1 r q
structure Mk (K:Frag) (C f:Addr):Prop where
 makes:PySem.W.makesIn K C=true
 init:PySem.W.findIn K (.ref C) "__init__"=some (some (.ref f))
 fn:PySem.W.isFn K (.ref f)=true
 kp:keepIn K (.ref C)=true
end
section
variable {X:Cx}{CX:S6}{k:Nat}{f C:Addr}{fd:FuncData}{ps ks:List Str}{sp:Sp}{E:XK}{x m:Str}{p pos apos kpos:Pos}{e o:Expr}{es:List Expr}{kws:List Keyword}{te ta:TE}{t tk:TA}{nm:Option Str}
structure YH (K:Frag) (fd:FuncData) (ps ks:List Str) (g:List Value->List Value->List Value) (gV:List V->List V->List V):Prop where
 to:∀(s:Shared) (us ws:List Value),K.In s.heap->(g us ws).length=ps.length->BindsTo s fd ⟨us,ks.zip ws⟩ (ps.zip (g us ws))
 rel:∀{vs:List V} {us:List Value} {zs:List V} {ws:List Value},Vals vs us->Vals zs ws->Vals (gV vs zs) (g us ws)
variable {g:List Value->List Value->List Value}{gV:List V->List V->List V}
end
structure Aj (N P:List Str) (sc:Scope):Prop where
 kind:sc.kind=.function
 co:sc.isCoroutine=false
 gen:sc.isGenerator=false
 nd:N.Nodup
 pre:N.take P.length=P
 par:∀x∈P,sc.names.lookup x=some .local\/sc.names.lookup x=some .cell
 nofree:∀y∈sc.names,y.2≠.free
theorem Kl{kindOf:Str->Option NameKind}{x:Str}:∀{binds:List (Str×Value)} {m:Str->Option Value},(∀v,(x,v)∉binds)->bindL kindOf binds m x=m x
 | [],_,_=>rfl
 | (n,v)::r,m,h=>by
  unfold bindL
  rw [Kl λw hw=>h w (List.mem_cons_of_mem _ hw)]
  split
  ·have:x≠n:=by rintro rfl; exact h v List.mem_cons_self
   simp [this]
  ·rfl
theorem Ko{kindOf:Str->Option NameKind}{x:Str}:∀{binds:List (Str×Value)} {m:Str->Option Value},(∀v,(x,v)∉binds)->bindC kindOf binds m x=m x
 | [],_,_=>rfl
 | (n,v)::r,m,h=>by
  unfold bindC
  rw [Ko λw hw=>h w (List.mem_cons_of_mem _ hw)]
  split
  ·rfl
  ·have:x≠n:=by rintro rfl; exact h v List.mem_cons_self
   simp [this]
theorem Km{kindOf:Str->Option NameKind}{x:Str}{v:Value}:∀{P:List Str} {vs:List Value} {i:Nat} {m:Str->Option Value},P.Nodup->P[i]?=some x->vs[i]?=some v->kindOf x=some .local ->
  bindL kindOf (P.zip vs) m x=some v
 | [],_,_,_,_,h,_,_=>by simp at h
 | _::_,[],_,_,_,_,h,_=>by simp at h
 | p::P,w::vs,0,m,nd,h1,h2,hk=>by
  simp at h1 h2; subst h1; subst h2
  show bindL kindOf ((p,w)::P.zip vs) m p=_
  unfold bindL
  rw [Kl λv hv=>(List.nodup_cons.mp nd).1 (List.of_mem_zip hv).1,if_pos hk]
  simp
 | p::P,w::vs,i+1,m,nd,h1,h2,hk=>by
  show bindL kindOf ((p,w)::P.zip vs) m x=_
  unfold bindL
  exact Km (i:=i) (List.nodup_cons.mp nd).2 (by simpa using h1) (by simpa using h2) hk
theorem Kp{kindOf:Str->Option NameKind}{x:Str}{v:Value}:∀{P:List Str} {vs:List Value} {i:Nat} {m:Str->Option Value},P.Nodup->P[i]?=some x->vs[i]?=some v->kindOf x≠some .local ->
  bindC kindOf (P.zip vs) m x=some v
 | [],_,_,_,_,h,_,_=>by simp at h
 | _::_,[],_,_,_,_,h,_=>by simp at h
 | p::P,w::vs,0,m,nd,h1,h2,hk=>by
  simp at h1 h2; subst h1; subst h2
  show bindC kindOf ((p,w)::P.zip vs) m p=_
  unfold bindC
  rw [Ko λv hv=>(List.nodup_cons.mp nd).1 (List.of_mem_zip hv).1,if_neg hk]
  simp
 | p::P,w::vs,i+1,m,nd,h1,h2,hk=>by
  show bindC kindOf ((p,w)::P.zip vs) m x=_
  unfold bindC
  exact Kp (i:=i) (List.nodup_cons.mp nd).2 (by simpa using h1) (by simpa using h2) hk
def start(N:List Str)(vs:List V):St:=vs.map some++List.replicate (N.length - vs.length) none
def L3(CX:S6)(P:Program)(w:World)(K:Frag)(mg:Str->Option Value)(base:Heap)(N:List Str)(qual:Str)(scope:Scope)(f:Addr)(cd:Value)(A:Around)(outer:List Env)(s:Shared)(H:Hp)(E:XK):Cx where
 prog:=P
 w:=w
 K:=K
 mg:=mg
 base:=base
 A:=A.deeper (envOfC qual scope s.heap.objs.size f cd)
 N:=N
 s₀:=s
 H₀:=H
 env:=envOfC qual scope s.heap.objs.size f cd
 outer:=outer
 stack:=envOfC qual scope s.heap.objs.size f cd::outer
 ex:=[]
 calm:=true
 fn:=λ_=>true
 pn:=[]
 xe:=λe s'=>wpAny (model P w) (A.deeper (envOfC qual scope s.heap.objs.size f cd)) (leaving (envOfC qual scope s.heap.objs.size f cd) e) (λ_ s''=>CX outer H s E e s'') (λe' s''=>CX outer H s E e' s'') s'
theorem NZ{sc:Scope}{n:Nat}{x:Str}(h:sc.names.lookup x=some .cell):∃c,(cellsFrom n sc.names []).lookup x=some c:=by
 have q:=PySem.W.cellsFrom_some sc.names n [] (.inl h)
 exact Option.isSome_iff_exists.mp q
theorem Qr{CX:S6}{P:Program}{w:World}{K:Frag}{mg:Str->Option Value}{base:Heap}{N ps:List Str}{qual:Str}{scope:Scope}{f:Addr}{cd:Value}{A:Around}{outer:List Env}{s s1:Shared}{H:Hp}{E:XK}{us:List Value}{vs:List V}
  (S:Aj N ps scope) (hd:A.handled=none) (e0:Env0 P w K mg base A outer s H) (hl:vs.length=ps.length) (r:Vals vs us)
  (x:InCallC s s.heap.objs.size (bindL (envOfC qual scope s.heap.objs.size f cd).kindOf (ps.zip us) λ_=>none) (cellsFrom (s.heap.objs.size+1) scope.names []) (bindC (envOfC qual scope s.heap.objs.size f cd).kindOf (ps.zip us) λ_=>none) s1) :
  Inv (L3 CX P w K mg base N qual scope f cd A outer s H E) [] (start N vs) H s1:=by
 have hpl:ps.length<=N.length:=by have:=congrArg List.length S.pre; rw [List.length_take] at this; omega
 obtain⟨h1,tk,rfl,hk⟩:=x.done
 have noA:∀b:Addr,b∉(L3 CX P w K mg base N qual scope f cd A outer s H E).ex:=λb z=>absurd (show b∈([]:List Addr) from z) (by simp)
 refine⟨⟨e0.mod,S.kind,rfl,rfl,Nat.le_refl _,λy z c h1 h2=>?_,λy hy=>?_,λy c _ h=>?_,λ_=>hd,Around.frames_deeper e0.frames,.inr ⟨rfl,rfl⟩,λb z=>absurd z (noA b),e0.bs,e0.bsz,λb _ _=>noA b,λb z=>absurd z (noA b),e0.funs,e0.frf⟩,
  rfl,e0.bare,Un.kept hk,⟨_,x.toInCall.ns,λi y v h1 h2 h3=>?_⟩,λy c h=>⟨_,x.cell y c h⟩,e0.hok.fresh (Nat.le_refl _),λy c h=>?_,λp hp=>absurd (show p∈([]:List (Addr×Obj)) from hp) (by simp),e0.hok.kept hk,?_⟩
 ·exact name_of_addr x.apart (PySem.mem_of_lookup h1) (PySem.mem_of_lookup h2)
 ·have hy:scope.names.lookup y=some .cell\/scope.names.lookup y=some .free:=hy
  rcases hy with hy | hy
  ·exact NZ hy
  ·exact absurd rfl (S.nofree _ (PySem.mem_of_lookup hy))
 ·exact Nat.le_of_lt (x.above y c (PySem.mem_of_lookup h))
 ·have hi:i<vs.length:=by
   unfold start at h2
   by_cases hi:i<vs.length
   ·exact hi
   ·rw [List.getElem?_append_right (by simpa using hi)] at h2
    rw [List.getElem?_replicate] at h2
    split at h2 <;> cases h2
  have ha:vs[i]?=some v:=by
   unfold start at h2
   rw [List.getElem?_append_left (by simpa using hi),List.getElem?_map] at h2
   cases e:vs[i]? with
   | none=>rw [e] at h2; cases h2
   | some a=>rw [e] at h2; cases h2; rfl
  obtain⟨u,hu,rv⟩:=r.get ha
  have hp:ps[i]?=some y:=by
   rw [← S.pre,List.getElem?_take_of_lt (by omega)]; exact h1
  have ndP:ps.Nodup:=by rw [← S.pre]; exact S.nd.sublist (List.take_sublist _ _)
  refine⟨u,rv,?_⟩
  rcases S.par y (List.mem_of_getElem? hp) with k | k
  ·exact .inl ⟨k,Km ndP hp hu k⟩
  ·obtain⟨c,e⟩:=NZ (n:=s.heap.objs.size+1) k
   refine .inr ⟨.inl k,c,e,?_⟩
   have q:=x.cell y c e
   rw [Kp ndP hp hu (by show scope.names.lookup y≠_; rw [k]; decide)] at q
   exact q
 ·exact e0.hok.fresh (Nat.le_of_lt (x.above y c (PySem.mem_of_lookup h)))
 ·unfold start
  show _=N.length
  rw [List.length_append,List.length_map,List.length_replicate]
  omega
theorem W8{CX:S6}{P:Program}{w:World}{K:Frag}{mg:Str->Option Value}{base:Heap}{k:Nat}{f:Addr}{name qual:Str}{params:Arguments}{body:List Stmt}{scope:Scope}{dV kV doc pm cdv ct oc:Value}{an od:Option Addr}
  {osl:Array (Option Value)} {N ps:List Str} {sp:Sp} (lk:K.lookup f=some ⟨oc,od,.func (fnOf name qual params body scope dV kV doc pm an cdv ct),osl⟩) (hcd:codeIn K cdv qual=true) (S:Aj N ps scope)
  (len:∀vs H Q E,sp vs H Q E->vs.length=ps.length)
  (hbody:∀(A:Around) (outer:List Env) (s:Shared) (H:Hp) (vs:List V) (Q:VK) (E:XK),Room k (A.deeper (envOfC qual scope s.heap.objs.size f cdv))->sp vs H Q E ->
   ∃t,PSs (L3 CX P w K mg base N qual scope f cdv A outer s H E) body t/\t { nx:=λ_ H'=>Q .non H',rt:=Q } (start N vs) H) :
  BK P w K mg base CX (k+1) f (fnOf name qual params body scope dV kV doc pm an cdv ct) ps sp:=by
 refine⟨len,λA outer s H args us vs Q E hr e0 hb r hsp=>?_⟩
 have hl:=len _ _ _ _ hsp
 have KX:K.In s.heap:=e0.mod.kin.keeps λb o e=>(e0.bs b o e).1
 have lim:s.heap.NoLimit:=e0.mod.nolimit.keeps λb o e=>(e0.bs b o e).1
 have hkind:∀y∈ps.zip us,scope.names.lookup y.1=some .local\/(scope.names.lookup y.1=some .cell/\((cellsFrom (s.heap.objs.size+1) scope.names []).lookup y.1).isSome=true):=fun⟨n,v⟩ hy=>by
  rcases S.par n (List.of_mem_zip hy).1 with q | q
  ·exact .inl q
  ·exact .inr ⟨q,PySem.W.cellsFrom_some _ _ _ (.inl q)⟩
 refine codeAny_call_function hr.depth (KX _ _ lk) rfl S.co S.gen rfl (PySem.W.codeRec_of KX hcd) (hb _ _ _ _ ?_)
 refine wpAny_newFunctionEnv_cells S.kind hkind λenv he s1 x=>?_
 subst he
 refine⟨lim.keeps x.toInCall.keep,codeAny_func ?_⟩
 obtain⟨t,ht,hq⟩:=hbody A outer s H vs Q E (hr.deeper _) hsp
 have I:Inv (L3 CX P w K mg base N qual scope f cdv A outer s H E) [] (start N vs) H s1:=Qr S hr.hd e0 hl r x
 refine wpAny_mono (ht [] s1 (start N vs) H _ I hq) (λfl s' hs=>?_) λe s' hs=>hs
 have fin:∀{σ':St} {H':Hp} {v:V} {u:Value},Inv (L3 CX P w K mg base N qual scope f cdv A outer s H E) [] σ' H' s'->RelV v u->Q v H'->CE outer P w H s Q u s' :=
  λ{σ' H' v u} J rv q=>⟨v,H',J.os,J.bare,J.base,J.hok,rv,q⟩
 cases fl with
 | ret u =>
  obtain⟨v,σ',H',J,rv,q⟩:=hs
  exact fin J rv q
 | next =>
  obtain⟨σ',H',J,q⟩:=hs
  exact fin (v:=V.non) (u:=Value.none) J rfl q
 | brk =>
  obtain⟨_,_,_,q⟩:=hs
  exact False.elim q
 | cont =>
  obtain⟨_,_,_,q⟩:=hs
  exact False.elim q
section
variable {X:Cx}{x:Str}{p pos:Pos}{e:Expr}{es:List Expr}{t:TA}{id T:String}{r:List V->Hp->VK->Prop}
def Xc(r:List V->Hp->VK->Prop)(t:TA):TE:=λσ H Q=>t σ H λvs H1=>r vs H1 Q
theorem GA(hc:EM X (.builtin id) r)(hg:Gl X x)(hm:X.mg x=none)(hv:bootBuiltins x=some (.builtin id))(ha:PA X (e::es) t)(hn:x ≠ "__name__":=by decide)(hdb:(x==("__debug__" : Str))=false:=by decide)
  (he:starEach (e::es) X.env=(false,eval e X.env)::starEach es X.env:=by rfl) (hpl:(backTo pos (starEach es X.env)).any (·.1)=false:=by rfl):PE X (.Call (.Name x p) (e::es) [] pos) (Xc r t):=by
 intro pins s σ H Q I h
 refine wpAny_Call_Name_kw (Dz I hg hm hv ?_ hn hdb)
 exact PyProof.Rows.callWith_builtin1 (thn (ha pos pins s σ H _ I h) λus s1 ⟨vs,H1,I1,r1,q1⟩=>hc pins s1 σ H1 vs us Q I1 r1 q1) he hpl
theorem KW(hc:EM X (.type T) r)(hg:Gl X x)(hm:X.mg x=none)(hv:bootBuiltins x=some (.type T))(ha:PA X (e::es) t)(hn:x ≠ "__name__":=by decide)(hdb:(x==("__debug__" : Str))=false:=by decide)
  (he:starEach (e::es) X.env=(false,eval e X.env)::starEach es X.env:=by rfl) (hpl:(backTo pos (starEach es X.env)).any (·.1)=false:=by rfl):PE X (.Call (.Name x p) (e::es) [] pos) (Xc r t):=by
 intro pins s σ H Q I h
 refine wpAny_Call_Name_kw (Dz I hg hm hv ?_ hn hdb)
 exact PyProof.Rows.callWith_type1 (thn (ha pos pins s σ H _ I h) λus s1 ⟨vs,H1,I1,r1,q1⟩=>hc pins s1 σ H1 vs us Q I1 r1 q1) he hpl
end
end L2
namespace HT
open PySem PyProof.Rows
section
open PySem.SeqAt
open PySem.AutoSeq1 (wpAny_loadPart')
open PySem.MeetsSeq PySem.MeetsSeq2 PySem.MeetsSeq3
end
section
variable {prog:Program}{w:World}{A:Around}{E:Value->Shared->Prop}{s:Shared}
theorem cat_tup{t b:Addr}{vs ws:List Value}{Q:Value->Shared->Prop}(ht:IsTup s.heap t vs.toArray)(hb:IsTup s.heap b ws.toArray)(hv:vs≠[])
  (h1:ws=[]->Q (.ref t) s) (h2:ws≠[]->Q (.ref s.heap.objs.size) { s with heap:=s.heap.push { cls:=.type "tuple",data:=.seq (vs++ws).toArray } })
  (hsz:vs.length+ws.length<=sizeLine):wpAny (model prog w) A (binaryOp .Add (.ref t) (.ref b)) Q E s:=by
 obtain⟨⟨cls,dd,data,sl⟩,ho,hc,n,hd⟩:=id ht
 obtain⟨⟨cls2,dd2,data2,sl2⟩,ho2,hc2,n2,hd2⟩:=id hb
 simp only at hc hd hc2 hd2
 subst hc hd hc2 hd2
 have e:vs.toArray++ws.toArray=(vs++ws).toArray:=by simp
 by_cases hw:ws=[]
 ·exact concat_meets ⟨_,ho,rfl⟩ ⟨_,ho2,rfl⟩ noFill_tuple_add seq_tuple_add PySem.F.slot_tuple_add PySem.F.entry_tuple_add (PySem.F.args_tuple_add_2 _ _)
   (tuple_addW1 t b vs.toArray ws.toArray n n2 dd dd2 sl sl2 (by simpa using hv) (by simp [hw])) ⟨ho,ho2,h1 hw⟩
 ·refine concat_meets ⟨_,ho,rfl⟩ ⟨_,ho2,rfl⟩ noFill_tuple_add seq_tuple_add PySem.F.slot_tuple_add PySem.F.entry_tuple_add (PySem.F.args_tuple_add_2 _ _)
   (tuple_addW2 t b vs.toArray ws.toArray n n2 dd dd2 sl sl2 (by simpa using hv) (by simpa using hw) (by rw [List.size_toArray,List.size_toArray]; exact hsz)) ⟨ho,ho2,?_⟩
  rw [e]
  exact h2 hw
def sIx(n d:Nat):Option Int->Nat
 | none=>d
 | some v=>if v<0 then (v+(n:Int)).toNat else min v.toNat n
theorem sIx_none(n d:Nat):sIx n d none=d:=rfl
theorem sIx_nat(n d k:Nat):sIx n d (some (k:Int))=min k n:=by
 show (if (k:Int)<0 then ((k:Int)+(n:Int)).toNat else min (k:Int).toNat n)=min k n
 rw [if_neg (by omega),Int.toNat_natCast]
theorem U4(n d:Nat)(hd:d<=n)(o:Option Int):sIx n d o<=n:=by
 cases o with
 | none=>exact hd
 | some v =>
  show (if v<0 then (v+(n:Int)).toNat else min v.toNat n)<=n
  by_cases hv:v<0
  ·rw [if_pos hv]; omega
  ·rw [if_neg hv]; exact Nat.min_le_right _ _
theorem Po(v:Int)(n d:Nat):(if v<0 then max (v+(n:Int)) 0 else min v (n:Int))=((sIx n d (some v):Nat):Int):=by
 show (if v<0 then max (v+(n:Int)) 0 else min v (n:Int))=(((if v<0 then (v+(n:Int)).toNat else min v.toNat n):Nat):Int)
 by_cases hv:v<0
 ·simp only [if_pos hv]; omega
 ·simp only [if_neg hv]; omega
theorem Og(lo hi:Option Int)(n:Nat):Builtin.Slice.sliceAdjust lo hi 1 (n:Int)=(((sIx n 0 lo:Nat):Int),((sIx n n hi:Nat):Int)):=by
 have h1:¬((1:Int)<0):=by omega
 unfold Builtin.Slice.sliceAdjust
 simp only [h1,if_false]
 refine Prod.ext ?_ ?_
 ·cases lo with
  | none=>rfl
  | some v=>exact Po v n 0
 ·cases hi with
  | none=>rfl
  | some v=>exact Po v n n
theorem OF(i j:Nat):Builtin.Slice.slicePlaces (i:Int) (j:Int) 1=j - i:=by
 unfold Builtin.Slice.slicePlaces
 have h1:(1:Int) > 0:=by omega
 simp only [h1,if_true,Int.ediv_one]
 split <;> omega
theorem IV{v:Value}{o:Option Int}{Q:Option Int->Shared->Prop}(p:IsPart v o)(h:Q o s):wpAny (model prog w) A (Builtin.Slice.slicePartIndex v) Q E s:=by
 cases p with
 | none=>exact slicePart_none h
 | int i t=>exact slicePart_int h
theorem sliceApplied_gen{sl:Addr}{vl vu:Value}{lo hi:Option Int}{n:Nat}{Q:Int×Int×Nat->Shared->Prop}(hs:s.heap.IsSliceOf sl vl vu .none)(pl:IsPart vl lo)(pu:IsPart vu hi)
  (h:Q (((sIx n 0 lo:Nat):Int),1,sIx n n hi - sIx n 0 lo) s):wpAny (model prog w) A (Builtin.Slice.sliceApplied (.ref sl) (pure (n:Int))) Q E s:=by
 obtain⟨os,hos,hcs,hds⟩:=id hs
 unfold Builtin.Slice.sliceApplied Builtin.Slice.sliceFields
 refine wpAny_bind (wpAny_bind (wpAny_field hos hds (x:=vl) rfl (wpAny_bind (wpAny_field hos hds (x:=vu) rfl (wpAny_bind (wpAny_field hos hds (x:=.none) rfl (wpAny_pure ?_)))))))
 refine wpAny_bind (slicePart_none ?_)
 show wpAny _ _ (if ((1:Int)==0)=true then _ else _) _ _ s
 rw [if_neg (by decide)]
 refine wpAny_bind (IV pl (wpAny_bind (IV pu (wpAny_bind (wpAny_pure ?_)))))
 show wpAny _ _ (match Builtin.Slice.sliceAdjust lo hi 1 (n:Int) with | (lo,hi)=>pure (lo,(1:Int),Builtin.Slice.slicePlaces lo hi 1)) _ _ s
 rw [Og lo hi n]
 show wpAny _ _ (pure (((sIx n 0 lo:Nat):Int),(1:Int),Builtin.Slice.slicePlaces ((sIx n 0 lo:Nat):Int) ((sIx n n hi:Nat):Int) 1)) _ _ s
 rw [OF]
 exact wpAny_pure h
theorem Ro(xs:Array Value)(i k:Nat):((List.range k).filterMap fun(m:Nat)=>xs[((i:Int)+(m:Int)*1).toNat]?).toArray=((xs.toList.drop i).take k).toArray:=by
 have e:(fun(m:Nat)=>xs[((i:Int)+(m:Int)*1).toNat]?)=λm=>xs[i+m]?:=by
  funext m
  have:((i:Int)+(m:Int)*1).toNat=i+m:=by omega
  rw [this]
 rw [e]
 have:=pick_run xs i k
 rw [List.filterMap_map] at this
 have e2:((λx=>xs[x]?)∘λx=>i+x)=λm=>xs[i+m]?:=rfl
 rw [e2] at this
 rw [this]
theorem getItem_tuple_cut{t sl:Addr}{items:Array Value}{vl vu:Value}{lo hi:Option Int}{Q:Value->Shared->Prop}(ht:IsTup s.heap t items)(hs:s.heap.IsSliceOf sl vl vu .none)(pl:IsPart vl lo)(pu:IsPart vu hi)
  (hw:¬(sIx items.size 0 lo=0/\sIx items.size items.size hi=items.size))
  (h:Q (.ref s.heap.objs.size) { s with heap:=s.heap.push { cls:=.type "tuple",data:=.seq ((items.toList.drop (sIx items.size 0 lo)).take (sIx items.size items.size hi - sIx items.size 0 lo)).toArray } })
  (hsz:items.size<=sizeLine):wpAny (model prog w) A (getItem (.ref t) (.ref sl)) Q E s:=by
 have htake:sizeOk (.seq ((items.toList.drop (sIx items.size 0 lo)).take (sIx items.size items.size hi - sIx items.size 0 lo)).toArray):=by
  show ((items.toList.drop (sIx items.size 0 lo)).take (sIx items.size items.size hi - sIx items.size 0 lo)).toArray.size<=sizeLine
  rw [List.size_toArray,List.length_take,List.length_drop,Array.length_toList]
  omega
 have hj:sIx items.size items.size hi<=items.size:=U4 _ _ (Nat.le_refl _) hi
 obtain⟨os,hos,hcs,hds⟩:=id hs
 have hTs:s.TypeIs (.ref sl) "slice":=⟨os,hos,hcs⟩
 unfold getItem
 try with_reducible refine wpAny_holding ?_
 first | refine wpAny_bind (wpAny_pure ?_) | skip
 refine wpAny_bind (wpAny_sequenceKey ht.typeIs (by decide) ?_)
 refine wpAny_bind (wpAny_callSpecial?_slot (name:=Str.ofString "__getitem__") ht.typeIs PyProof.Rows.slot_tuple_getitem
  (wpAny_call_entry PyProof.Rows.slot_tuple_getitem ht.typeIs entry_tuple_getitem ?_ (args_tuple_getitem _ _)))
 show wpAny _ _ (Builtin.Tuple.tupleItemsOf (.ref t) >>= _) _ _ s
 refine wpAny_bind (tupleItemsOf_ ht ?_)
 refine wpAny_bind (wpAny_typeOf hTs ?_)
 rw [if_pos (by decide)]
 refine wpAny_bind (sliceApplied_gen hs pl pu ?_)
 have hno:¬((((sIx items.size 0 lo:Nat):Int)==0&&(1:Int)==1&&(sIx items.size items.size hi - sIx items.size 0 lo)==items.size)=true):=by
  intro q
  rw [Bool.and_eq_true,Bool.and_eq_true] at q
  have q1:((sIx items.size 0 lo:Nat):Int)=0:=eq_of_beq q.1.1
  have q2:sIx items.size items.size hi - sIx items.size 0 lo=items.size:=eq_of_beq q.2
  exact hw ⟨by omega,by omega⟩
 show wpAny _ _ (if (((sIx items.size 0 lo:Nat):Int)==0&&(1:Int)==1&&(sIx items.size items.size hi - sIx items.size 0 lo)==items.size)=true then _ else _) _ _ s
 rw [if_neg hno,Ro]
 first
  | exact wpAny_bind (m:=Builtin.Tuple.tupleExact _) (wpAny_newObj_type (wpAny_pure ⟨_,rfl,wpAny_pure h⟩) htake)
  | exact wpAny_bind (m:=Builtin.Tuple.tupleExact _) (wpAny_newObj_type (wpAny_bind (wpAny_pure (wpAny_pure ⟨_,rfl,wpAny_pure h⟩))) htake)
  | exact wpAny_bind (wpAny_bind (m:=Builtin.Tuple.tupleExact _) (wpAny_newObj_type (wpAny_pure (wpAny_pure ⟨_,rfl,wpAny_pure h⟩)) htake))
  | exact wpAny_bind (wpAny_bind (m:=Builtin.Tuple.tupleExact _) (wpAny_newObj_type (wpAny_pure ⟨_,rfl,wpAny_pure h⟩) htake))
end
end HT
namespace L2
open PySem PySem.Spec PyProof.Rows
abbrev TO:=St->Hp->(Option Int->Hp->Prop)->Prop
def PO(X:Cx)(e:Option Expr)(t:TO):Prop :=
 ∀(pins:List (Addr×Obj)) (s:Shared) (σ:St) (H:Hp) (Q:Option Int->Hp->Prop),Inv X pins σ H s->t σ H Q ->
  wpAny (model X.prog X.w) X.A (evalPart e X.env) (λu s'=>∃o H',Inv X pins σ H' s'/\IsPart u o/\Q o H') X.xe s
def TH:TO:=λ_ H Q=>Q none H
def WQ(t:TE):TO:=λσ H Q=>t σ H λx H1=>∃i,x=.int i/\Q (some i) H1
section
variable {X:Cx}{e:Expr}{te:TE}{lo hi:Option Expr}{tl th:TO}{pos p2:Pos}
theorem O8:PO X none TH:=by
 intro pins s σ H Q I h
 rw [evalPart_none]
 exact wpAny_pure ⟨none,H,I,.none,h⟩
theorem O7(h:PE X e te):PO X (some e) (WQ te):=by
 intro pins s σ H Q I hw
 rw [evalPart_some]
 refine thn (h pins s σ H _ I hw) λu s1 ⟨x,H1,I1,r1,q1⟩=>?_
 obtain⟨i,rfl,q⟩:=q1
 obtain⟨t,rfl⟩:=r1
 exact⟨some i,H1,I1,.int i t,q⟩
def SlR(X:Cx)(r:V->Option Int->Option Int->Hp->VK->Prop):Prop :=
 ∀(pins:List (Addr×Obj)) (s:Shared) (σ:St) (H:Hp) (x:V) (v vl vu:Value) (lo hi:Option Int) (sl:Addr) (Q:VK),Inv X pins σ H s->RelV x v->s.heap.IsSliceOf sl vl vu .none->IsPart vl lo->IsPart vu hi->r x lo hi H Q ->
  ∃T id,typeLookup (.type T) "__getitem__"=pure (some (.builtin id))/\s.TypeIs v T/\wpAny (model X.prog X.w) X.A (getItem v (.ref sl)) (EP X pins σ Q) X.xe s
theorem SlR.or{r r':V->Option Int->Option Int->Hp->VK->Prop}(h:SlR X r)(h':SlR X r'):SlR X (λx lo hi H Q=>r x lo hi H Q\/r' x lo hi H Q):=by
 intro pins s σ H x v vl vu lo hi sl Q I rx hs pl pu q
 rcases q with q | q
 ·exact h pins s σ H x v vl vu lo hi sl Q I rx hs pl pu q
 ·exact h' pins s σ H x v vl vu lo hi sl Q I rx hs pl pu q
def YZ(r:V->Option Int->Option Int->Hp->VK->Prop)(te:TE)(tl th:TO):TE:=λσ H Q=>te σ H λx H1=>tl σ H1 λl H2=>th σ H2 λu H3=>r x l u H3 Q
theorem Me{r:V->Option Int->Option Int->Hp->VK->Prop}(hr:SlR X r)(he:PE X e te)(hl:PO X lo tl)(hu:PO X hi th):PE X (.Subscript e (.Slice lo hi none p2) pos) (YZ r te tl th):=by
 intro pins s σ H Q I h
 refine Subscript_ (thn (he pins s σ H _ I h) λv s1 ⟨x,H1,I1,r1,q1⟩=>?_)
 refine wpAny_Slice (thn (hl pins s1 σ H1 _ I1 q1) λvl s2 ⟨l,H2,I2,pl,q2⟩=>thn (hu pins s2 σ H2 _ I2 q2) λvu s3 ⟨u,H3,I3,pu,q3⟩=>?_)
 rw [evalPart_none]
 refine wpAny_pure ?_
 have I4:Inv X pins σ H3 { s3 with heap:=s3.heap.push { cls:=.type "slice",data:=.fields #[vl,vu,.none] } }:=I3.kept (t':=s3.toks) λb ob q=>Heap.get?_push_of_some _ q
 obtain⟨T,id,hT,ht,hg⟩:=hr pins { s3 with heap:=s3.heap.push { cls:=.type "slice",data:=.fields #[vl,vu,.none] } } σ H3 x v vl vu l u s3.heap.objs.size Q I4 r1 (Heap.IsSliceOf.new ..) pl pu q3
 show wpAny (model X.prog X.w) X.A (subscriptTail e (.Slice lo hi none p2) v (.ref s3.heap.objs.size)) (EP X pins σ Q) X.xe { s3 with heap:=s3.heap.push { cls:=.type "slice",data:=.fields #[vl,vu,.none] } }
 exact tail_any (ops:=[.ref s3.heap.objs.size,v]) ht hT hg (by with_unfolding_all rfl)
def J_(xs:List V)(lo hi:Option Int):List V:=(xs.drop (HT.sIx xs.length 0 lo)).take (HT.sIx xs.length xs.length hi - HT.sIx xs.length 0 lo)
theorem HZ(xs:List V)(lo hi:Option Int):(J_ xs lo hi).length<=xs.length:=by
 unfold J_
 rw [List.length_take,List.length_drop]
 omega
def Wc(K:Frag):V->Option Int->Option Int->Hp->VK->Prop:=λx lo hi H Q=>∃a xs,x=.ref a/\SqT K H a xs /\
 ¬(HT.sIx xs.length 0 lo=0/\HT.sIx xs.length xs.length hi=xs.length)/\∀p,H p=none->Q (.ref p) (BG H p (.tup (J_ xs lo hi)))
theorem sl_tup:SlR X (Wc X.K):=by
 intro pins s σ H x v vl vu lo hi sl Q I rx hs pl pu h
 obtain⟨a,xs,rfl,hx,hw,q⟩:=h
 cases rx
 obtain⟨its,r,ht,hz⟩:=I.tuple hx
 have hlen:its.toArray.size=xs.length:=by rw [List.size_toArray]; exact r.length.symm
 refine⟨"tuple",_,PyProof.Rows.slot_tuple_getitem.lookup,ht.typeIs,?_⟩
 refine HT.getItem_tuple_cut ht hs pl pu (by rw [hlen]; exact hw) ?_ (by rw [hlen]; exact hz)
 rw [hlen]
 refine⟨.ref s.heap.objs.size,_,I.laid (t':=s.toks) (o:=.tup (J_ xs lo hi)) (λb ob q=>Heap.get?_push_of_some _ q) (Nat.le_refl _) ?_,rfl,q _ (I.hok.fresh (Nat.le_refl _))⟩
 exact⟨Nat.le_trans (HZ xs lo hi) hz,_,(r.drop (HT.sIx xs.length 0 lo)).take (HT.sIx xs.length xs.length hi - HT.sIx xs.length 0 lo),IsTupN.new _ _⟩
def Rf(K:Frag):R2:=λx y H Q=>∃a b xs ys,x=.ref a/\y=.ref b/\SqT K H a xs/\SqT K H b ys/\xs≠[]/\xs.length+ys.length<=sizeLine /\
 (ys=[]->Q (.ref a) H)/\(ys≠[]->∀p,H p=none->Q (.ref p) (BG H p (.tup (xs++ys))))
theorem Vals.nil_iff{xs:List V}{us:List Value}(r:Vals xs us):us=[]↔xs=[]:=by
 cases r with
 | nil=>simp
 | cons _ _=>simp
theorem op_catT:OpR X (binaryOp .Add) (Rf X.K):=by
 intro pins s σ H x y v u Q I rx ry h
 obtain⟨a,b,xs,ys,rfl,rfl,ha,hb,hx,hz,q1,q2⟩:=h
 cases rx
 cases ry
 obtain⟨its,r1,p1,_⟩:=I.tuple ha
 obtain⟨its2,r2,p2,_⟩:=I.tuple hb
 refine HT.cat_tup p1 p2 (λz=>hx (r1.nil_iff.mp z)) (λz=>⟨.ref a,H,I,rfl,q1 (r2.nil_iff.mp z)⟩) (λz=>?_) (by rw [← r1.length,← r2.length]; exact hz)
 refine⟨.ref s.heap.objs.size,_,I.laid (t':=s.toks) (o:=.tup (xs++ys)) (λb ob q=>Heap.get?_push_of_some _ q) (Nat.le_refl _) ?_,rfl,q2 (λw=>z (r2.nil_iff.mpr w)) _ (I.hok.fresh (Nat.le_refl _))⟩
 exact⟨by rw [List.length_append]; exact hz,_,r1.append r2,IsTupN.new _ _⟩
end
def SO(n:Nat)(i:Int):Option Nat:=if 0<=i then (if i<n then some i.toNat else none) else if -(n:Int)<=i then some (i+n).toNat else none
def atI{α:Type}(xs:List α)(i:Int):Option α:=(SO xs.length i).bind λj=>xs[j]?
theorem Lq{n:Nat}{i:Int}{j:Nat}(h:SO n i=some j):seqIndex? i n=some j/\j<n/\-(n:Int)<=i/\i<n:=by
 unfold SO at h
 by_cases h0:0<=i
 ·rw [if_pos h0] at h
  by_cases h1:i<n
  ·rw [if_pos h1] at h
   have e:i.toNat=j:=Option.some.inj h
   exact⟨by rw [seqIndex_of h0 h1,e],by omega,by omega,h1⟩
  ·rw [if_neg h1] at h; cases h
 ·rw [if_neg h0] at h
  by_cases h1:-(n:Int)<=i
  ·rw [if_pos h1] at h
   have e:(i+n).toNat=j:=Option.some.inj h
   exact⟨by rw [seqIndex_neg (by omega) h1,e],by omega,h1,by omega⟩
  ·rw [if_neg h1] at h; cases h
theorem L9{α:Type}{xs:List α}{i:Int}{v:α}(h:atI xs i=some v):∃j,seqIndex? i xs.length=some j/\xs[j]?=some v/\j<xs.length/\-(xs.length:Int)<=i/\i<xs.length:=by
 unfold atI at h
 cases e:SO xs.length i with
 | none=>rw [e] at h; cases h
 | some j =>
  rw [e] at h
  obtain⟨h1,h2,h3,h4⟩:=Lq e
  exact⟨j,h1,h,h2,h3,h4⟩
theorem AL{α:Type}{xs:List α}{j:Nat}{v:α}(h:xs[j]?=some v):atI xs (j:Int)=some v:=by
 have hj:j<xs.length:=(List.getElem?_eq_some_iff.mp h).1
 have e:SO xs.length (j:Int)=some j:=by
  unfold SO
  rw [if_pos (by omega),if_pos (by omega)]; simp
 unfold atI; rw [e]; exact h
theorem Sw{α:Type}(xs:List α)(v:α):atI (xs++[v]) (-1)=some v:=by
 have hl:(xs++[v]).length=xs.length+1:=by simp
 have e:SO (xs++[v]).length (-1)=some xs.length:=by
  unfold SO
  rw [hl,if_neg (by decide),if_pos (by omega)]
  congr 1
  omega
 unfold atI
 rw [e]
 show (xs++[v])[xs.length]?=some v
 simp
def P0(b:Expr):Prop:=∀o i,subscripted b false o i=operate [o,i] (getItem o i)
def IxR(X:Cx)(r:R2):Prop :=
 ∀(value slice:Expr) (pins:List (Addr×Obj)) (s:Shared) (σ:St) (H:Hp) (x y:V) (v u:Value) (Q:VK),Inv X pins σ H s->RelV x v->RelV y u->r x y H Q ->
  subscripted slice false v u=operate [v,u] (getItem v u)->wpAny (model X.prog X.w) X.A (subscriptTail value slice v u) (EP X pins σ Q) X.xe s
def XX(X:Cx)(id:String)(r:V->List V->Hp->VK->Prop):Prop :=
 ∀(pins:List (Addr×Obj)) (s:Shared) (σ:St) (H:Hp) (x:V) (xs:List V) (v:Value) (us:List Value) (Q:VK),Inv X pins σ H s->RelV x v->Vals xs us->r x xs H Q ->
  wpAny (model X.prog X.w) X.A (call (.builtin id) (v::us)) (EP X pins σ Q) X.xe s
section
variable {X:Cx}{a b:Expr}{ta tb:TE}{pos:Pos}
theorem IxR.or{r r':R2}(h:IxR X r)(h':IxR X r'):IxR X (λx y H Q=>r x y H Q\/r' x y H Q):=by
 intro value slice pins s σ H x y v u Q I rx ry q hs
 rcases q with q | q
 ·exact h value slice pins s σ H x y v u Q I rx ry q hs
 ·exact h' value slice pins s σ H x y v u Q I rx ry q hs
theorem EY{r:R2}(hr:IxR X r)(ha:PE X a ta)(hb:PE X b tb)(hs:P0 b):PE X (.Subscript a b pos) (D9 r ta tb):=by
 intro pins s σ H Q I h
 exact Subscript_ (Vx ha hb I h λv u s2 x y H2 I2 rx ry q=>hr a b pins s2 σ H2 x y v u Q I2 rx ry q (hs _ _))
def U_(K:Frag):R2:=λx y H Q=>∃p xs i v,x=.ref p/\y=.int i/\SqL K H p xs/\atI xs i=some v/\Q v H
def Wj(K:Frag):R2:=λx y H Q=>∃p xs i v,x=.ref p/\y=.int i/\SqT K H p xs/\atI xs i=some v/\Q v H
def Wl:R2:=λx y H Q=>∃z i c,x=.str z/\y=.int i/\z.length<=sizeLine/\atI z.cps.toList i=some c/\Q (.str ⟨#[c]⟩) H
theorem ix_list:IxR X (U_ X.K):=by
 intro value slice pins s σ H x y v u Q I rx ry h hs
 obtain⟨p,xs,i,z,rfl,rfl,hq,he,q⟩:=h
 cases rx
 obtain⟨t,rfl⟩:=ry
 obtain⟨its,r,pl,hz⟩:=I.list hq
 obtain⟨j,h1,h2,h3,h4,h5⟩:=L9 he
 obtain⟨w,ew,rw'⟩:=r.get h2
 have hl:=r.length
 have hn:=G8
 have fin:EP X pins σ Q w s:=⟨z,H,I,rw',q⟩
 by_cases h0:0<=i
 ·have hj:i.toNat=j:=by
   rw [seqIndex_of h0 h5] at h1
   exact Option.some.inj h1
  exact item_listR pl.isList h0 (by omega) (by rw [hj]; simpa using ew) fin hs
 ·have hj:(i+(its.toArray.size:Int)).toNat=j:=by
   rw [seqIndex_neg (by omega) h4] at h1
   rw [List.size_toArray,← hl]
   exact Option.some.inj h1
  exact subscriptTail_builtinR (x:=w) pl.isList.typeIs slot_list_getitem.lookup
   (wpAny_getItem_list_neg (Q:=λr s'=>r=w/\EP X pins σ Q r s') pl.isList (by omega) (by rw [List.size_toArray] <;> omega) (by omega) (by rw [hj]; simpa using ew) ⟨rfl,fin⟩) hs
theorem ix_tup:IxR X (Wj X.K):=by
 intro value slice pins s σ H x y v u Q I rx ry h hs
 obtain⟨p,xs,i,z,rfl,rfl,hq,he,q⟩:=h
 cases rx
 obtain⟨t,rfl⟩:=ry
 obtain⟨its,r,pl,hz⟩:=I.tuple hq
 obtain⟨j,h1,h2,h3,h4,h5⟩:=L9 he
 obtain⟨w,ew,rw'⟩:=r.get h2
 have hl:=r.length
 have hn:=G8
 have fin:EP X pins σ Q w s:=⟨z,H,I,rw',q⟩
 exact subscriptTail_builtinR (x:=w) pl.typeIs slot_tuple_getitem.lookup
  (getItem_tuple (j:=j) (Q:=λr s'=>r=w/\EP X pins σ Q r s') pl (by omega) (by omega) (by rw [List.size_toArray,← hl]; exact h1) (by simpa using ew) ⟨rfl,fin⟩) hs
theorem Vc:IxR X Wl:=by
 intro value slice pins s σ H x y v u Q I rx ry h hs
 obtain⟨z,i,c,rfl,rfl,hz,he,q⟩:=h
 obtain⟨t,rfl⟩:=rx
 obtain⟨t',rfl⟩:=ry
 obtain⟨j,h1,h2,h3,h4,h5⟩:=L9 he
 have hl:z.cps.toList.length=z.length:=by simp [Str.length]
 rw [hl] at h1 h4 h5
 have hn:=G8
 exact tail_any (typeIs_str s z t) slot_str_getitem.lookup (getItem_str (c:=c) (by
  have e1:decide (i < -(2 ^ 63:Int))=false:=decide_eq_false (by omega)
  have e2:decide (i≥2 ^ 63)=false:=decide_eq_false (by omega)
  rw [e1,e2,Bool.or_false]) (by rw [h1]; simpa using h2) ⟨.str ⟨#[c]⟩,H,I.tok _,⟨_,rfl⟩,q⟩) hs
def YM(K:Frag):R2:=λx y H Q=>U_ K x y H Q\/Wj K x y H Q\/Wl x y H Q
theorem AM:IxR X (YM X.K):=ix_list.or (ix_tup.or Vc)
theorem OQ(its:List Value)(n j:Nat)(u:Value):Obj.mapSeq (·.setIfInBounds j u) { cls:=.type "list",data:=.seq its.toArray n }={ cls:=.type "list",data:=.seq (its.set j u).toArray n }:=by
 simp [Obj.mapSeq]
theorem Inv.lst{pins:List (Addr×Obj)}{σ:St}{H:Hp}{s:Shared}{p:Addr}{xs:List V}(I:Inv X pins σ H s)(h:H p=some (.lst xs)) :
  ∃(its:List Value) (n:Nat),Vals xs its/\s.heap.get? p=some { cls:=.type "list",data:=.seq its.toArray n }/\xs.length<=sizeLine:=by
 obtain⟨z,its,n,r,e⟩:=I.hok p _ h
 exact⟨its,n,r,e,z⟩
theorem Inv.lstUpd{pins:List (Addr×Obj)}{σ:St}{H:Hp}{s:Shared}{p:Addr}{xs ys:List V}{its its':List Value}{n n':Nat}{f:Obj->Obj}(I:Inv X pins σ H s)(h:H p=some (.lst xs))
  (ho:s.heap.get? p=some { cls:=.type "list",data:=.seq its.toArray n }) (hf:f { cls:=.type "list",data:=.seq its.toArray n }={ cls:=.type "list",data:=.seq its'.toArray n' }) (r:Vals ys its') (hz:ys.length<=sizeLine) (t:Nat) :
  Inv X pins σ (BG H p (.lst ys)) { s with heap:=s.heap.update p f,toks:=t }:=by
 have e:(s.heap.update p f).get? p=some { cls:=.type "list",data:=.seq its'.toArray n' }:=by
  rw [Heap.get?_update_self f ho (by rw [hf] <;> rfl),hf]
 refine I.write (x:=p) (e:=p) (by rw [h]; trivial) (.inl rfl) (λb u hb q=>(Heap.get?_update_other _ _ (Ne.symm hb)).trans q) ⟨_,e⟩ ?_
 exact⟨hz,its',n',r,e⟩
def UK:V->V->V->Hp->(Hp->Prop)->Prop:=λo i v H Q=>∃p xs k j,o=.ref p/\i=.int k/\H p=some (.lst xs)/\SO xs.length k=some j/\Q (BG H p (.lst (xs.set j v)))
theorem set_list:XR X UK:=by
 intro pins s σ H o i v ov iv u Q I ro ri rv h
 obtain⟨p,xs,k,j,rfl,rfl,hp,hj,q⟩:=h
 cases ro
 obtain⟨t,rfl⟩:=ri
 obtain⟨its,n,r,ho,hz⟩:=I.lst hp
 obtain⟨h1,h2,h3,h4⟩:=Lq hj
 have hl:=r.length
 have hn:=G8
 have I':Inv X pins σ (BG H p (.lst (xs.set j v))) { s with heap:=s.heap.update p (Obj.mapSeq (·.setIfInBounds j u)) } :=
  I.lstUpd hp ho (OQ its n j u) (r.set rv j) (by rw [List.length_set]; exact hz) s.toks
 by_cases h0:0<=k
 ·have hk:k.toNat=j:=by
   rw [seqIndex_of h0 h4] at h1
   exact Option.some.inj h1
  exact PySem.W.ki_setAt ho h0 (by omega) (by rw [List.size_toArray,← hl]; exact h4) (by rw [hk]; exact⟨_,I',q⟩)
 ·have hk:(k+(its.toArray.size:Int)).toNat=j:=by
   rw [seqIndex_neg (by omega) h3] at h1
   rw [List.size_toArray,← hl]
   exact Option.some.inj h1
  exact PySem.W.ki_setBack ho (by omega) (by rw [List.size_toArray,← hl]; exact h3) (by omega) (by rw [hk]; exact⟨_,I',q⟩)
theorem K9(lo hi:Option Int)(n:Nat):(sliceBounds lo hi none n).1=((HT.sIx n 0 lo:Nat):Int)/\(sliceBounds lo hi none n).2.1=((HT.sIx n n hi:Nat):Int)/\(sliceBounds lo hi none n).2.2=1:=by
 refine⟨?_,?_,rfl⟩
 ·cases lo with
  | none=>simp [sliceBounds,HT.sIx]
  | some i =>
   simp only [sliceBounds,HT.sIx,Option.getD_none,show (1:Int) > 0 by decide,if_true]
   by_cases h:i<0
   ·simp only [h,if_true] <;> omega
   ·simp only [h,if_false] <;> omega
 ·cases hi with
  | none=>simp [sliceBounds,HT.sIx]
  | some i =>
   simp only [sliceBounds,HT.sIx,Option.getD_none,show (1:Int) > 0 by decide,if_true]
   by_cases h:i<0
   ·simp only [h,if_true] <;> omega
   ·simp only [h,if_false] <;> omega
theorem Jq(its:List Value)(lo hi:Option Int):slicePick its.toArray lo hi none=((its.drop (HT.sIx its.length 0 lo)).take (HT.sIx its.length its.length hi - HT.sIx its.length 0 lo)).toArray:=by
 obtain⟨h1,h2,h3⟩:=K9 lo hi its.toArray.size
 unfold slicePick
 rw [h1,h2,h3]
 simp only [sliceRange_one,pick_run,List.size_toArray] <;> rfl
def Wd(K:Frag):V->Option Int->Option Int->Hp->VK->Prop:=λx lo hi H Q=>∃a xs,x=.ref a/\SqL K H a xs/\∀p,H p=none->Q (.ref p) (BG H p (.lst (J_ xs lo hi)))
theorem sl_list:SlR X (Wd X.K):=by
 intro pins s σ H x v vl vu lo hi sl Q I rx hs pl pu h
 obtain⟨a,xs,rfl,hx,q⟩:=h
 cases rx
 obtain⟨its,r,ht,hz⟩:=I.list hx
 have hlen:=r.length
 refine⟨"list",_,slot_list_getitem.lookup,ht.isList.typeIs,?_⟩
 refine wpAny_getItem_list_slice ht.isList hs pl pu .none (by simp) ?_ (by rw [List.size_toArray] <;> omega)
 rw [Jq,← hlen]
 refine⟨.ref s.heap.objs.size,_,I.laid (t':=s.toks) (o:=.lst (J_ xs lo hi)) (λb ob q=>Heap.get?_push_of_some _ q) (Nat.le_refl _) ?_,rfl,q _ (I.hok.fresh (Nat.le_refl _))⟩
 exact⟨Nat.le_trans (HZ xs lo hi) hz,_,0,(r.drop (HT.sIx xs.length 0 lo)).take (HT.sIx xs.length xs.length hi - HT.sIx xs.length 0 lo),Heap.get?_push_size _ rfl⟩
def UX:V->Bool
 | .non=>true
 | .bl _=>true
 | .int _=>true
 | .str _=>true
 | _=>false
def XC:V->V->Bool
 | .non,.non=>true
 | .bl a,.bl b=>a==b
 | .bl a,.int b=>(if a then 1 else 0)==b
 | .int a,.bl b=>a==(if b then 1 else 0)
 | .int a,.int b=>a==b
 | .str a,.str b=>a==b
 | _,_=>false
theorem Lx{A:Around}{s:Shared}{y x:V}{u v:Value}(ry:RelV y u)(rx:RelV x v)(fy:UX y=true)(fx:UX x=true):SeqAt.EqAt A s u v (XC y x):=by
 cases y with
 | non =>
  cases ry
  cases x with
  | non=>cases rx; exact SeqAt.EqAt.same _
  | bl b=>cases rx; exact SeqAt.EqAt.none_bool b
  | int b=>obtain⟨t,rfl⟩:=rx; exact SeqAt.EqAt.none_int b t
  | str b=>obtain⟨t,rfl⟩:=rx; exact SeqAt.EqAt.none_str b t
  | _=>exact absurd (show false=true from fx) Bool.false_ne_true
 | bl a =>
  cases ry
  cases x with
  | non=>cases rx; exact SeqAt.EqAt.bool_none a
  | bl b=>cases rx; exact SeqAt.EqAt.bool_bool a b
  | int b=>obtain⟨t,rfl⟩:=rx; exact SeqAt.EqAt.bool_int a b t
  | str b=>obtain⟨t,rfl⟩:=rx; exact SeqAt.EqAt.bool_str a b t
  | _=>exact absurd (show false=true from fx) Bool.false_ne_true
 | int a =>
  obtain⟨t',rfl⟩:=ry
  cases x with
  | non=>cases rx; exact SeqAt.EqAt.int_none a t'
  | bl b=>cases rx; exact SeqAt.EqAt.int_bool a t' b
  | int b=>obtain⟨t,rfl⟩:=rx; exact SeqAt.EqAt.int_int a t' b t
  | str b=>obtain⟨t,rfl⟩:=rx; exact SeqAt.EqAt.int_str a t' b t
  | _=>exact absurd (show false=true from fx) Bool.false_ne_true
 | str a =>
  obtain⟨t',rfl⟩:=ry
  cases x with
  | non=>cases rx; exact SeqAt.EqAt.str_none a t'
  | bl b=>cases rx; exact SeqAt.EqAt.str_bool a t' b
  | int b=>obtain⟨t,rfl⟩:=rx; exact SeqAt.EqAt.str_int a t' b t
  | str b=>obtain⟨t,rfl⟩:=rx; exact SeqAt.EqAt.str_str a t' b t
  | _=>exact absurd (show false=true from fx) Bool.false_ne_true
 | _=>exact absurd (show false=true from fy) Bool.false_ne_true
theorem L7:EM X (.type "list") (λxs H Q=>∃p ys,xs=[.ref p]/\(SqL X.K H p ys\/SqT X.K H p ys)/\∀l,H l=none->Q (.ref l) (BG H l (.lst ys))):=by
 intro pins s σ H xs us Q I r h
 obtain⟨p,ys,rfl,hq,q⟩:=h
 obtain⟨u,rfl,rx⟩:=vals1 r
 cases rx
 have fin:∀(its:List Value),Vals ys its->ys.length<=sizeLine->∀(h':Heap) (c':Nat),(∀b o',s.heap.get? b=some o'->h'.get? b=some o') ->
   h'.get? s.heap.objs.size=some { cls:=.type "list",dict:=none,data:=.seq its.toArray c',slots:=#[] }->EP X pins σ Q (.ref s.heap.objs.size) { s with heap:=h' }:=λits r' hz h' c' kp e =>
  ⟨.ref s.heap.objs.size,_,I.laid (t':=s.toks) kp (Nat.le_refl _) (show ObjOk X.prog X.w _ h' _ (.lst ys) from⟨hz,its,c',r',e⟩),rfl,q _ (I.hok.fresh (Nat.le_refl _))⟩
 rcases hq with hq | hq
 ·obtain⟨its,r',pl,hz⟩:=I.list hq
  have hlen:=r'.length
  obtain⟨o,ho,hc,n,hd⟩:=pl.isList
  exact call_list_seq p (.inl rfl) ho hc hd (λh' c' kp e=>fin its r' hz h' c' kp e) (by simp only [List.size_toArray] <;> omega)
 ·obtain⟨its,r',pl,hz⟩:=I.tuple hq
  have hlen:=r'.length
  obtain⟨o,ho,hc,n,hd⟩:=pl
  exact call_list_seq p (.inr rfl) ho hc hd (λh' c' kp e=>fin its r' hz h' c' kp e) (by simp only [List.size_toArray] <;> omega)
theorem B5:EM X (.type "tuple") (λxs H Q=>∃p ys,xs=[.ref p]/\((SqL X.K H p ys/\∀l,H l=none->Q (.ref l) (BG H l (.tup ys)))\/(SqT X.K H p ys/\Q (.ref p) H))):=by
 intro pins s σ H xs us Q I r h
 obtain⟨p,ys,rfl,h⟩:=h
 obtain⟨u,rfl,rx⟩:=vals1 r
 cases rx
 rcases h with ⟨hq,q⟩ | ⟨hq,q⟩
 ·obtain⟨its,r',pl,hz⟩:=I.list hq
  have hlen:=r'.length
  refine call_tuple_list pl.isList (λh' kp=>?_) (by simp only [List.size_toArray] <;> omega)
  have I1:Inv X pins σ H { s with heap:=h' }:=I.kept (t':=s.toks) kp
  have I2:Inv X pins σ (BG H h'.objs.size (.tup ys)) { s with heap:=h'.push { cls:=.type "tuple",data:=.seq its.toArray } } :=
   I1.laid (t':=s.toks) (λb o e=>Heap.get?_push_of_some _ e) (Nat.le_refl _) (show ObjOk X.prog X.w _ _ _ (.tup ys) from⟨hz,its,r',IsTupN.new _ _⟩)
  exact⟨.ref h'.objs.size,_,I2,rfl,q _ (I1.hok.fresh (Nat.le_refl _))⟩
 ·obtain⟨its,r',pl,hz⟩:=I.tuple hq
  exact call_tuple_same pl ⟨.ref p,H,I,rfl,q⟩
def Xp(K:Frag)(T:String)(x:V)(H:Hp):Prop:=match x with
 | .str _=>T = "str"
 | .int _=>T = "int"
 | .ref p=>(T = "list"/\∃xs,SqL K H p xs)\/(T = "tuple"/\∃o,K.lookup p=some o/\o.cls=.type "tuple"/\o.dict=none) \/
   (T = "dict"/\((∃kvs,H p=some (.dK kvs))\/∃kvs,H p=some (.dT kvs)))\/(T = "set"/\∃S n,H p=some (.set S n))
 | _=>False
theorem Us{pins:List (Addr×Obj)}{σ:St}{H:Hp}{s:Shared}{T:String}{x:V}{v:Value}(I:Inv X pins σ H s)(r:RelV x v)(ty:Xp X.K T x H) :
  s.TypeIs v T/\∀a,v=.ref a->∃ob,s.heap.get? a=some ob/\ob.dict=none:=by
 cases x with
 | str z =>
  obtain⟨t,rfl⟩:=r
  cases (show T = "str" from ty)
  exact⟨typeIs_str s z t,λ_ e=>nomatch e⟩
 | int i =>
  obtain⟨t,rfl⟩:=r
  cases (show T = "int" from ty)
  exact⟨typeIs_int s i t,λ_ e=>nomatch e⟩
 | ref p =>
  cases r
  rcases ty with ⟨rfl,xs,hq⟩ | ⟨rfl,o,hk,hc,hd⟩ | ⟨rfl,hk⟩ | ⟨rfl,S,n,hk⟩
  ·obtain⟨its,_,pl,_⟩:=I.list hq
   refine⟨pl.isList.typeIs,λa e=>?_⟩
   cases e
   obtain⟨o,n,e,c,hd,_⟩:=pl
   exact⟨o,e,hd⟩
  ·refine⟨⟨o,I.kIn p o hk,hc⟩,λa e=>?_⟩
   cases e
   exact⟨o,I.kIn _ o hk,hd⟩
  ·have z:∃o,s.heap.get? p=some o/\o.ExactDict:=by
    rcases hk with ⟨kvs,hk⟩ | ⟨kvs,hk⟩
    ·obtain⟨_,_,_,_,o,_,_,e,ex,_⟩:=I.hok p _ hk
     exact⟨o,e,ex⟩
    ·obtain⟨_,_,_,_,o,_,_,e,ex,_⟩:=I.hok p _ hk
     exact⟨o,e,ex⟩
   obtain⟨o,e,ex⟩:=z
   refine⟨⟨o,e,ex.1⟩,λa e2=>?_⟩
   cases e2
   exact⟨o,e,ex.2.1⟩
  ·obtain⟨o,_,_,_,e,ex,_⟩:=I.hok p _ hk
   refine⟨⟨o,e,ex.1⟩,λa e2=>?_⟩
   cases e2
   exact⟨o,e,ex.2.1⟩
 | _=>exact False.elim ty
def Yc(K:Frag)(T:String)(r:V->List V->Hp->VK->Prop)(to:TE)(t:TA):TE:=λσ H Q=>to σ H λx H1=>Xp K T x H1/\t σ H1 λxs H2=>r x xs H2 Q
variable {o e:Expr}{es:List Expr}{to:TE}{t:TA}{name:Str}{apos cpos:Pos}{T id:String}{r:V->List V->Hp->VK->Prop}
theorem R0(pa:PlainAttrs T)(slot:Slot T name id)(hty:typeOf (.builtin id)=pure (.type "method_descriptor"))(hm:XX X id r)(ho:PE X o to)(ha:PA X (e::es) t)
  (hbase:attributeBase o name X.env (eval o X.env)=eval o X.env:=by rfl)
  (hfew:((backTo cpos (starEach (e::es) X.env)).all (λx=>!x.1)&&(backToKw cpos (keywordEach [] X.env)).all (λx=>x.1.isSome)
   && decide ((e::es).length+([]:List Keyword).length+(if ([]:List Keyword).isEmpty then 0 else 1)<30))=true:=by rfl)
  (hline:(apos.endLine==cpos.line)=true:=by rfl) (hs:starEach (e::es) X.env=(false,eval e X.env)::starEach es X.env:=by rfl) (hplain:(backTo cpos (starEach es X.env)).any (·.1)=false:=by rfl) :
  PE X (.Call (.Attribute o name apos) (e::es) [] cpos) (Yc X.K T r to t):=by
 intro pins s σ H Q I h
 refine wpAny_Call_method_late hbase hfew hline rfl (thn (ho pins s σ H _ I h) λv s1 ⟨x,H1,I1,r1,ty,q1⟩=>?_)
 obtain⟨h1,h2⟩:=Us I1 r1 ty
 refine⟨T,id,pa,slot,hty,h1,h2,?_⟩
 have hA:=ha cpos pins s1 σ H1 _ I1 q1
 rw [hs] at hA ⊢
 refine Calls.callWith_builtin (by show (false||(backTo cpos (starEach es X.env)).any (·.1))=false; rw [hplain] <;> rfl) (Calls.evalArgs_plain ?_)
 exact thn hA λus s2 ⟨vs,H2,I2,r2,q2⟩=>hm pins s2 σ H2 x vs v us Q I2 r1 r2 q2
end
def YU(X:Cx)(id:String)(r:V->List V->Hp->VK->Prop):Prop :=
 ∀(pins:List (Addr×Obj)) (s:Shared) (σ:St) (H:Hp) (x:V) (xs:List V) (v:Value) (us:List Value) (Q:VK),Inv X pins σ H s->RelV x v->Vals xs us->r x xs H Q ->
  wpAny (model X.prog X.w) X.A (call (.builtin id) (v::us)) (EP X pins σ Q) X.xe s
theorem Vals.one:∀{x:V} {us:List Value},Vals [x] us->∃u,us=[u]/\RelV x u
 | _,_,.cons r .nil=>⟨_,rfl,r⟩
theorem Vals.eraseIdx:∀{xs:List V} {us:List Value} (i:Nat),Vals xs us->Vals (xs.eraseIdx i) (us.eraseIdx i)
 | _,_,_,.nil=>.nil
 | _,_,0,.cons _ t=>t
 | _,_,i+1,.cons r t=>.cons r (Vals.eraseIdx i t)
theorem Vals.reverse{xs:List V}{us:List Value}(h:Vals xs us):Vals xs.reverse us.reverse:=by
 induction h with
 | nil=>exact .nil
 | cons r t ih=>rw [List.reverse_cons,List.reverse_cons]; exact Vals.append ih (.cons r .nil)
theorem G9{α:Type}:∀(l:List α) (i:Nat),(l.eraseIdx i).length<=l.length
 | [],_=>Nat.le_refl _
 | _::_,0=>Nat.le_succ _
 | _::r,i+1=>Nat.succ_le_succ (G9 r i)
section
variable {X:Cx}{pins:List (Addr×Obj)}{σ:St}{H:Hp}{s:Shared}{l b:Addr}{xs ys zs:List V}
theorem Inv.lset{its its':List Value}{n:Nat}{f:Array Value->Array Value}{t':Nat}(I:Inv X pins σ H s)(hH:H l=some (.lst xs))
  (e:s.heap.get? l=some { cls:=.type "list",data:=.seq its.toArray n }) (hf:f its.toArray=its'.toArray) (hv:Vals ys its') (hz:ys.length<=sizeLine) :
  Inv X pins σ (BG H l (.lst ys)) { s with heap:=s.heap.update l (Obj.mapSeq f),toks:=t' }:=by
 have q:=PySem.IsL.update e f
 rw [hf] at q
 refine I.write (x:=l) (e:=l) (by rw [hH]; exact trivial) (.inl rfl) (λb' u hb hu=>(Heap.get?_update_other s.heap (Obj.mapSeq f) (Ne.symm hb)).trans hu) ⟨_,q⟩ ?_
 exact⟨hz,its',_,hv,q⟩
theorem Inv.lnew{its:List Value}{t':Nat}(I:Inv X pins σ H s)(hv:Vals ys its)(hz:ys.length<=sizeLine) :
  Inv X pins σ (BG H s.heap.objs.size (.lst ys)) { s with heap:=s.heap.push { cls:=.type "list",data:=.seq its.toArray },toks:=t' } :=
 I.laid (λ_ _ q=>Heap.get?_push_of_some _ q) (Nat.le_refl _) ⟨hz,its,0,hv,Heap.get?_push_size _ rfl⟩
theorem Inv.fresh(I:Inv X pins σ H s):H s.heap.objs.size=none:=I.hok.fresh (Nat.le_refl _)
theorem Inv.lstM(I:Inv X pins σ H s)(hH:H l=some (.lst xs)):xs.length<=sizeLine/\∃(its:List Value) (n:Nat),Vals xs its/\xs.length=its.length/\s.heap.get? l=some { cls:=.type "list",data:=.seq its.toArray n }:=by
 obtain⟨z,its,n,r,e⟩:=I.hok l _ hH
 exact⟨z,its,n,r,r.length,e⟩
end
section
variable {X:Cx}
def O1:V->List V->Hp->VK->Prop:=λx vs H Q=>∃l xs y,x=.ref l/\vs=[y]/\H l=some (.lst xs)/\xs.length<sizeLine/\Q .non (BG H l (.lst (xs++[y])))
theorem DY:YU X "list.append" O1:=by
 intro pins s σ H x vs v us Q I rx rv h
 obtain⟨l,xs,y,rfl,rfl,hH,hz,q⟩:=h
 cases rx
 obtain⟨u,rfl,ru⟩:=rv.one
 obtain⟨z,its,n,r,hl,e⟩:=I.lstM hH
 refine call_meets F.slot_list_append ⟨_,e,rfl⟩ F.entry_list_append (F.args_list_append_2 _ _) (PySem.list_append l its.toArray n u (by rw [List.size_toArray]; omega)) ⟨e,?_⟩
 refine⟨.non,_,I.lset (its':=its++[u]) hH e (by simp) (r.append (.cons ru .nil)) ?_,rfl,q⟩
 rw [List.length_append,List.length_singleton]
 omega
def U8:V->List V->Hp->VK->Prop:=λx vs H Q=>∃l xs i k y,x=.ref l/\vs=[.int i]/\H l=some (.lst xs)/\-(2 ^ 63)<=i/\i<2 ^ 63/\seqIndex? i xs.length=some k/\xs[k]?=some y/\Q y (BG H l (.lst (xs.eraseIdx k)))
theorem SH:YU X "list.pop" U8:=by
 intro pins s σ H x vs v us Q I rx rv h
 obtain⟨l,xs,i,k,y,rfl,rfl,hH,h1,h2,hk,hy,q⟩:=h
 cases rx
 obtain⟨u,rfl,ru⟩:=rv.one
 obtain⟨t,rfl⟩:=ru
 obtain⟨z,its,n,r,hl,e⟩:=I.lstM hH
 obtain⟨w,hw,rw'⟩:=r.get hy
 refine call_meets F.slot_list_pop ⟨_,e,rfl⟩ F.entry_list_pop (F.args_list_pop_2 _ _)
  (MeetsSeq.list_pop_at l its.toArray n i t k w (fitsIndex_both h1 h2) (by rw [List.size_toArray,← hl]; exact hk) (by rw [← Array.getElem?_toList]; exact hw) (by rw [List.size_toArray]; omega)) ⟨e,?_⟩
 refine⟨y,_,I.lset (its':=its.eraseIdx k) hH e ?_ (r.eraseIdx k) ?_,rw',q⟩
 ·show its.toArray.eraseIdxIfInBounds k=(its.eraseIdx k).toArray
  rw [List.eraseIdxIfInBounds_toArray]
 ·have:=G9 xs k
  omega
end
section
variable {prog:Program}{w:World}{A:Around}{E:Value->Shared->Prop}{s:Shared}
end
section
variable {X:Cx}
end
end L2
namespace Att
open PySem PySem.W PySem.Calls PyProof.Rows
theorem Hq{P:Params}{h:Heap}:∀(ns:List Int) (vs:List Value),WellAll P h vs (ns.map WData.int)->IntsAre vs ns:=by
 intro ns
 induction ns with
 | nil =>
  intro vs w
  rw [List.map_nil] at w
  cases w
  exact .nil
 | cons n ns ih =>
  intro vs w
  rw [List.map_cons] at w
  cases w with
  | cons a b =>
   cases a
   exact .cons _ _ (ih _ b)
theorem QF{l:OpenLaw}{n:Nat}(hn:l.most=some n){P:Params}{h:Heap}{args:List WData}{vals:List Value}
  (hpre:l.row.toRowW.claim.pre args=true) (hwl:WellAll P h vals args) :
  ∃a vs ns,vals=[Value.ref a]/\args=[WData.list (ns.map WData.int)]/\h.get? a=some { cls:=.type "list",data:=.seq vs.toArray }/\IntsAre vs ns/\ns.length<=n:=by
 have hsh:WShape.hasAll [] args [.list .int]=true:=(pre_splitW hpre).1
 have hc:l.pre.holds [] { args:=args }=true:=(pre_splitW hpre).2
 obtain⟨d,r,rfl,h1,h2⟩:=hasAllW_cons hsh
 obtain rfl:=hasAllW_nil h2
 obtain⟨xs,rfl,h3⟩:=hasW_list h1
 obtain⟨ns,rfl⟩:=items_int h3
 have hlen:ns.length<=n:=by
  unfold OpenLaw.pre at hc
  have h4:(WTm.not (.lt (.lit (.int (n:Int))) (.len (.arg 0)))).holds [] { args:=[.list (ns.map .int)] }=true:=by
   have h4:=(holds_andW hc).1
   rw [hn] at h4
   exact h4
  have h5:=condW_of h4 (w_not (w_lt w_lit (w_len_list (w_arg rfl))))
  rw [List.length_map] at h5
  refine Nat.le_of_not_lt λq=>?_
  have q':(n:Int)<((ns.length:Nat):Int):=by omega
  first
   | (rw [decide_eq_true q'] at h5; exact absurd h5 (by decide))
   | (simp at h5; omega)
 cases hwl with
 | cons w1 w2 =>
  cases w2
  cases w1 with
  | list ho hall=>exact⟨_,_,ns,rfl,rfl,ho,Hq ns _ hall,hlen⟩
theorem QL(l:OpenLaw)(args:List WData):l.row.toRowW.claim.post args (.bool true) args=true :=
 postW_of (r:=l.row.toRowW) (X:=(true==true))
  (show WShape.has [] (.bool true) .bool=true by first | rfl | decide | simp [WShape.has,WShape.arms,WShape.armsAll])
  (show (WTm.eq .res (.lit (.bool true))).value [] { args:=args,res:=some (.bool true),after:=args }=some (.bool (true==true)) from w_eq_bool (w_res rfl) w_lit) rfl
theorem attach_call{l:OpenLaw}{n:Nat}{q:Program}{loose:List Str}{XP:(Str->Option Value)->Heap->Prop}{YP:World->Heap->Prop}{d:DefRec}
  (hn:l.most=some n) (hdf:d.params.defaults=[])
  (call:∀(w:World) (s₀ s₁:Shared) (mg mb:Str->Option Value) (fa:Addr) (o:Obj) (pm cd doc:Value) (a:Addr) (vs:List Value) (ns:List Int),
   Ground q loose [] XP w s₀ mg mb s₁.heap->YP w s₁.heap ->
   s₁.heap.get? fa=some o->o.data=.func (docDef d.name d.params d.body d.scope pm cd doc)->s₁.heap.CodeRec cd d.name->mg d.name=some (.ref fa) ->
   s₁.heap.get? a=some { cls:=.type "list",data:=.seq vs.toArray }->IntsAre vs ns->ns.length<=n->s₁.gens=#[] ->
   codeAny (model l.prog w) callerA (.call (.ref fa) ⟨[.ref a],[]⟩) (λr s'=>r=.ok (.ret (.bool true))/\OldK s₁.heap s'.heap/\s'.os=s₁.os/\AllBare s'.gens) s₁) :
  WalkO q loose XP YP l.row.toRowW d [] (λf vs=>PySem.call f vs):=by
 intro w s₀ s₁ mg mb G Y fa o pm cd doc dV kV ho hd hcd hD hmg hg args vals as hpre hlay hrd hwl hlo
 obtain rfl:dV=.none:=Dflts.none hD hdf
 obtain rfl:kV=.none:=Dflts.noKw hD
 obtain⟨a,vs,ns,rfl,rfl,hobj,hints,hlen⟩:=QF hn hpre hwl
 refine enter_call (codeAny_mono (call w s₀ s₁ mg mb fa o pm cd doc a vs ns G Y ho (fd_plain hd) hcd hmg hobj hints hlen hg) λr s' hq=>?_)
 obtain⟨rfl,h2,h3,h4⟩:=hq
 exact⟨.inl ⟨.bool true,.bool true,[],rfl,λ_=>rfl,.bool true,QL l _,λ_=>⟨List.Pairwise.nil,λ_ hm=>(nomatch hm)⟩⟩,h2,h3,h4⟩
section
variable {prog:Program}{w:World}{A:Around}{E:Value->Shared->Prop}{s:Shared}{K:Frag}
end
end Att
namespace L2
open PySem PySem.Spec PyProof.Rows
theorem KL:∀{vs:List Value} {ns:List Int},IntsAre vs ns->Vals (ns.map V.int) vs
 | _,_,.nil=>.nil
 | _,_,.cons n t h=>.cons ⟨t,rfl⟩ (KL h)
def V6(H:Hp):Prop:=∀b,H b=none\/∃o xs,H b=some (.frz o (.lst xs))
theorem SN{P:Program}{w:World}{K:Frag}{mg mb:Str->Option Value}{CX:S6}{k:Nat}{fa a:Addr}{fd:FuncData}{x:Str}{sp:Sp}{s₁:Shared}{vs:List Value}{ns:List Int}
  (KX:K.In s₁.heap) (hns:s₁.heap.Ns mainGlobals mg) (hb:s₁.heap.Ns builtinsNs mb) (hbb:∀x:Str,x ≠ "__name__"->mb x=bootBuiltins x) (hlim:s₁.heap.NoLimit) (hg:s₁.gens=#[])
  (ha:s₁.heap.get? a=some { cls:=.type "list",data:=.seq vs.toArray }) (hi:IntsAre vs ns) (hl:ns.length<=sizeLine) (hr:Room k callerA)
  (F:∀base:Heap,K.In base->base.Ns mainGlobals mg->BK P w K mg base CX k fa fd [x] sp) (hbind:∀(s:Shared) (u:Value),BindsTo s fd ⟨[u],[]⟩ [(x,u)])
  (hsp:∀H:Hp,V6 H->SqL K H a (ns.map V.int)->sp [.ref a] H (λv _=>v=.bl true) λ_ _ _=>False)
  (hCX:∀H e s',CX [] H s₁ (λ_ _ _=>False) e s'->False) :
  codeAny (model P w) callerA (.call (.ref fa) ⟨[.ref a],[]⟩) (λr s'=>r=.ok (.ret (.bool true))/\OldK s₁.heap s'.heap/\s'.os=s₁.os/\AllBare s'.gens) s₁:=by
 have rv:=KL hi
 have lenV:=hi.length
 have core:∀H:Hp,V6 H->SqL K H a (ns.map V.int)->HOk P w H s₁.heap->(∀b,H b≠none->b=a)->(H a≠none->K.lookup a=none) ->
   codeAny (model P w) callerA (.call (.ref fa) ⟨[.ref a],[]⟩) (λr s'=>r=.ok (.ret (.bool true))/\OldK s₁.heap s'.heap/\s'.os=s₁.os/\AllBare s'.gens) s₁:=by
  intro H hO hS hok hA hK
  have base_of:∀{b:Addr} {o:Obj},s₁.heap.get? b=some o->H b=none->(Ls s₁.heap H).get? b=some o:=λe n=>SX e n
  have noA:∀{b:Addr} {o:Obj} {es:Array DictEntry} {ep:Nat},s₁.heap.get? b=some o->o.data=.dict es ep->H b=none:=λ{b o es ep} e d=>by
   cases q:H b with
   | none=>rfl
   | some u =>
    have e':b=a:=hA b (by rw [q]; simp)
    subst e'
    rw [ha] at e; cases e
    have d':Data.seq vs.toArray _=Data.dict es ep:=d
    cases d'
  have nsK:∀{b:Addr} {m:Str->Option Value},s₁.heap.Ns b m->(Ls s₁.heap H).Ns b m:=λ{b m} ⟨o,es,ep,e,d,r⟩=>⟨o,es,ep,base_of e (noA e d),d,r⟩
  have hKb:K.In (Ls s₁.heap H):=λb o e=>base_of (KX b o e) (by
   cases q:H b with
   | none=>rfl
   | some u =>
    have e':b=a:=hA b (by rw [q]; simp)
    subst e'
    rw [hK (by rw [q]; simp)] at e; cases e)
  have hM:Mod K mg (Ls s₁.heap H):=⟨hKb,nsK hns,⟨mb,nsK hb,hbb⟩,let ⟨mc,h1,h2⟩:=hlim; ⟨mc,nsK h1,h2⟩⟩
  have e0:Env0 P w K mg (Ls s₁.heap H) callerA [] s₁ H:=⟨rfl,hM,λb o e=>Tf e,Nat.le_of_eq (Qu _ _),trivial,λb hb=>absurd (show b∈([]:List Addr) from hb) (by simp),hok,.of_eq hg⟩
  refine codeAny_mono ((F _ hKb (nsK hns)).run callerA [] s₁ H ⟨[.ref a],[]⟩ [.ref a] [.ref a] _ _ hr e0 (hbind s₁ (.ref a)) (.cons rfl .nil) (hsp H hO hS)) λr s' h=>?_
  cases r with
  | error e=>exact(hCX H e s' h).elim
  | ok fl =>
   cases fl with
   | next=>exact False.elim h
   | brk=>exact False.elim h
   | cont=>exact False.elim h
   | ret u =>
    obtain⟨v,H',os,bare,un,hok',r',q⟩:=h
    have q':v=.bl true:=q
    subst q'
    obtain rfl:u=Value.bool true:=r'
    refine⟨rfl,OldK.of_keep λb o e=>?_,os,bare⟩
    cases q:H b with
    | none=>exact un.keep b o e q (by intro z; exact absurd (show b∈([]:List Addr) from z) (by simp)) (by simp)
    | some u =>
     rcases hO b with z | ⟨ob,xs,z⟩
     ·rw [q] at z; cases z
     ·have z2:=un.frzs b ob _ z
      obtain⟨e1,_⟩:=hok b _ z
      obtain⟨e2,_⟩:=hok' b _ z2
      rw [e] at e1; cases e1
      exact e2
 cases hk:K.lookup a with
 | some o =>
  have e:=KX a o hk
  rw [ha] at e
  cases e
  refine core (λ_=>none) (λ_=>.inl rfl) (.inr ⟨_,vs.toArray,_,hk,rfl,rfl,rfl,by rw [List.size_toArray,lenV]; exact hl,by simpa using rv⟩) (λb u z=>by have z':(none:Option HO)=some u:=z; cases z') (λb z=>absurd rfl z) λz=>absurd rfl z
 | none =>
  refine core (λb=>if b=a then some (.frz { cls:=.type "list",data:=.seq vs.toArray } (.lst (ns.map V.int))) else none) (λb=>?_) (.inl (.inr ⟨{ cls:=.type "list",data:=.seq vs.toArray },if_pos rfl⟩)) (λb u z=>?_) (λb z=>?_) λ_=>hk
  ·by_cases hb:b=a
   ·exact .inr ⟨_,_,if_pos hb⟩
   ·exact .inl (if_neg hb)
  ·by_cases hb:b=a
   ·have z':=(if_pos hb).symm.trans z
    cases z'
    subst hb
    exact⟨ha,by rw [List.length_map]; exact hl,vs,_,rv,ha⟩
   ·have z':=(if_neg hb).symm.trans z
    cases z'
  ·by_cases hb:b=a
   ·exact hb
   ·exact absurd (if_neg hb) z
theorem Om{l:PySem.W.OpenLaw}{n k:Nat}{q:Program}{loose:List Str}{XP:(Str->Option Value)->Heap->Prop}{YP:World->Heap->Prop}{d:DefRec}{K:Params->Frag}{CX:World->S6}{sp:World->Sp}{x:Str}
  (hn:l.most=some n) (hn2:n<=sizeLine) (hdf:d.params.defaults=[]) (hr:Room k callerA)
  (hY:∀(w:World) (h:Heap),YP w h->(K w.params).In h)
  (F:∀(w:World) (mg:Str->Option Value) (fa:Addr) (h:Heap),(K w.params).In h->h.Ns mainGlobals mg->mg d.name=some (.ref fa) ->
   ∃fd:FuncData,(∀(s:Shared) (u:Value),BindsTo s fd ⟨[u],[]⟩ [(x,u)]) /\
    ∀base:Heap,(K w.params).In base->base.Ns mainGlobals mg->BK l.prog w (K w.params) mg base (CX w) k fa fd [x] (sp w))
  (hsp:∀(w:World) (H:Hp) (a:Addr) (ns:List Int),ns.length<=n->V6 H->SqL (K w.params) H a (ns.map V.int)->sp w [.ref a] H (λv _=>v=.bl true) λ_ _ _=>False)
  (hCX:∀(w:World) (H:Hp) (s:Shared) (e:Value) (s':Shared),CX w [] H s (λ_ _ _=>False) e s'->False) :
  PySem.W.WalkO q loose XP YP l.row.toRowW d [] (λf vs=>PySem.call f vs):=by
 refine Att.attach_call hn hdf λw s₀ s₁ mg mb fa o pm cd doc a vs ns G Y ho hd hcd hmg hobj hints hlen hg=>?_
 have KX:=hY w _ Y
 obtain⟨fd,hb,hF⟩:=F w mg fa _ KX G.T.g hmg
 exact SN KX G.T.g G.T.b G.T.builtins G.T.nolimit hg hobj hints (Nat.le_trans hlen hn2) hr hF hb (λH hO hS=>hsp w H a ns hlen hO hS) λH e s'=>hCX w H s₁ e s'
end L2
/- THE LAST THEOREM (shape; LID, My.* are yours):
   My.Adr: a structure of the addresses that your layer names (classes, functions); My.Txt K t: a structure (Prop) of the equations over K;
   My.txt_mk : {K} {implicit addresses ..} (e1 : nsIn K mainGlobals "law" = some (some (.ref f))) (e2 : K.lookup f = some ⟨oc, od, .func (fnOf "law" "law" params body scope dV kV doc pm an cdv ct), sl⟩) (e3 : codeIn K cdv "law" = true) .. : ∃ t, My.Txt K t
set_option maxRecDepth 100000 in
set_option maxHeartbeats 0 in
theorem PySem.Challenge.cw_LID_holds : PySem.Challenge.rw_LID.Holds := by
 w_on; o_law; k_head; (case hw=>w_witness2)
 k_fill
 refine L2.Om (l:=PySem.Challenge.rw_LID) (n:=63) (k:=40) (x := "script") (CX:=λw=>..) (sp:=λ_=>My.sp_law) rfl (by decide) rfl ⟨rfl,by decide,by decide⟩ (λw h Y=>PySem.W.kIn_of Y) ?F ?S ?C
 case F =>
  intro w mg fa h KX G hmg
  have T:∃t,My.Txt (L2.KOf KX) t:=by
   dsimp only [L2.KOf]                          -- K must stand as «<heap const> w.params» for k_is
   refine' My.txt_mk ?e1 ?e2 ?e3 ..
   (case e1=>PySem.W.k_is)                    -- in the order: a name -> its address -> its object -> its parts
   (case e2=>PySem.W.k_is)
   ..
  obtain⟨t,T⟩:=T
  have e0:=hmg.symm.trans (mg_of KX G T.law)
  cases e0                                       -- fa is the law's own address
  exact⟨_,λs u=>.of_eq rfl,λbase kb nb=>My.law_fn T kb nb⟩     -- if «.of_eq rfl» comes too early: refine' ⟨_,?b,λbase kb nb=>My.law_fn T kb nb⟩; exact λs u=>.of_eq rfl
 case S=>exact λw H a ns hl hO hS=>..
 case C=>exact ..
(the tactic k_is has no namespace: write k_is) -/
namespace L2
open PySem PySem.Spec PyProof.Rows
def Ai(s:Stmt):Arguments:=match s with
 | .FunctionDef _ a _ _ _ _ _ _ _ _=>a
 | _=>{ posonlyargs:=[],args:=[],vararg:=none,kwonlyargs:=[],kw_defaults:=[],kwarg:=none,defaults:=[] }
def Ag(s:Stmt):List Stmt:=match s with
 | .FunctionDef _ _ b _ _ _ _ _ _ _=>b
 | _=>[]
def AG(s:Stmt):Scope:=match s with
 | .FunctionDef _ _ _ _ _ _ sc _ _ _=>sc
 | _=>{ kind:=.function,names:=[],isGenerator:=false,isCoroutine:=false }
abbrev DB:S6:=λ_ _ _ _ _ _=>False
abbrev E0:XK:=λ_ _ _=>False
theorem UV{X:Cx}:Ol DB X E0:=λ_ _ _ _ _ _ _ h=>h.elim
structure Fun (K:Frag) (x qual:Str) (st:Stmt) (f:Addr) (fd:FuncData):Prop where
 ex:∃(oc:Value) (od:Option Addr) (kV doc pm:Value) (an:Option Addr) (cdv ct:Value) (osl:Array (Option Value)),
  fd=fnOf x qual (Ai st) (Ag st) (AG st) .none kV doc pm an cdv ct/\K.lookup f=some ⟨oc,od,.func fd,osl⟩/\codeIn K cdv qual=true
 kp:keepIn K (.ref f)=true
section
variable {P:Program}{w:World}{K:Frag}{mg:Str->Option Value}{base:Heap}
theorem Fun.ok{x qual:Str}{st:Stmt}{f:Addr}{fd:FuncData}{N ps:List Str}{k:Nat}{sp:Sp}(F:Fun K x qual st f fd)(S:Aj N ps (AG st))(len:∀vs H Q E,sp vs H Q E->vs.length=ps.length)
  (hbody:∀(cdv:Value) (A:Around) (outer:List Env) (s:Shared) (H:Hp) (vs:List V) (Q:VK) (E:XK),Room k (A.deeper (envOfC qual (AG st) s.heap.objs.size f cdv))->sp vs H Q E ->
   ∃t,PSs (L3 DB P w K mg base N qual (AG st) f cdv A outer s H E).nox (Ag st) t/\t { nx:=λ_ H'=>Q .non H',rt:=Q } (start N vs) H):BK P w K mg base DB (k+1) f fd ps sp:=by
 obtain⟨oc,od,kV,doc,pm,an,cdv,ct,osl,rfl,lk,hcd⟩:=F.ex
 refine W8 lk hcd S len λA outer s H vs Q E hr hsp=>?_
 obtain⟨t,h,q⟩:=hbody cdv A outer s H vs Q E hr hsp
 exact⟨t,h.nox,q⟩
theorem Fun.binds{x qual:Str}{st:Stmt}{f:Addr}{fd:FuncData}{ps:List Str}(F:Fun K x qual st f fd)
  (h:∀(kV doc pm:Value) (an:Option Addr) (cdv ct:Value) (us:List Value),us.length=ps.length->bindArgs (fnOf x qual (Ai st) (Ag st) (AG st) .none kV doc pm an cdv ct) ⟨us,[]⟩=pure (ps.zip us)):Binds K fd ps []:=by
 obtain⟨oc,od,kV,doc,pm,an,cdv,ct,osl,rfl,lk,hcd⟩:=F.ex
 exact .all (h kV doc pm an cdv ct)
theorem Av{x qual:Str}{st:Stmt}{f:Addr}{oc:Value}{od an:Option Addr}{osl:Array (Option Value)}{kV doc pm cdv ct:Value}(l:K.lookup f=some ⟨oc,od,.func (fnOf x qual (Ai st) (Ag st) (AG st) .none kV doc pm an cdv ct),osl⟩)
  (c:codeIn K cdv qual=true) (k:keepIn K (.ref f)=true):Fun K x qual st f (fnOf x qual (Ai st) (Ag st) (AG st) .none kV doc pm an cdv ct):=⟨⟨oc,od,kV,doc,pm,an,cdv,ct,osl,rfl,l,c⟩,k⟩
end
theorem JH{A:Around}{k:Nat}(hr:Room k A):A.units+1<cLine:=Nat.lt_of_le_of_lt (Nat.add_le_add_left (by decide:1<=64) _) hr.units
section
variable {X:Cx}
theorem pv(i:Nat){x:Str}{pos:Pos}(hN:X.N[i]?=some x:=by rfl)(hv:V2 X.env.scope x:=by first | exact Or.inl rfl | exact Or.inr (Or.inl rfl) | exact Or.inr (Or.inr rfl))(hd:(x==("__debug__" : Str))=false:=by decide)
  (hcd:(x==("__classdict__" : Str))=false:=by decide):PE X (.Name x pos) (CN i):=LW hN hv hd hcd
end
theorem Bk{A B:Prop}(h:B):if false=true then A else B:=by
 rw [if_neg Bool.false_ne_true]
 exact h
theorem B6{A B:Prop}(h:A):if true=true then A else B:=by
 rw [if_pos rfl]
 exact h
theorem CW{c A B:Prop}[Decidable c](h1:c->A)(h2:¬c->B):if c then A else B:=by
 by_cases h:c
 ·rw [if_pos h]
  exact h1 h
 ·rw [if_neg h]
  exact h2 h
section
variable {κ:Type}[DecidableEq κ]
def DR(kvs:List (κ×V))(k:κ):Option V:=(kvs.find? λkv=>decide (kv.1=k)).map (·.2)
def putK(kvs:List (κ×V))(k:κ)(v:V):List (κ×V) :=
 if (kvs.any λkv=>decide (kv.1=k))=true then kvs.map (λkv=>if kv.1=k then (kv.1,v) else kv) else kvs++[(k,v)]
theorem El{p:κ×V}{r:List (κ×V)}{k:κ}(e:p.1=k):DR (p::r) k=some p.2:=by simp [DR,List.find?_cons,e]
theorem Em{p:κ×V}{r:List (κ×V)}{k:κ}(e:¬p.1=k):DR (p::r) k=DR r k:=by simp [DR,List.find?_cons,e]
theorem MI(k:κ):∀kvs:List (κ×V),(kvs.any λkv=>decide (kv.1=k))=(DR kvs k).isSome
 | []=>rfl
 | p::r=>by
  rw [List.any_cons]
  by_cases e:p.1=k
  ·simp only [El e,decide_eq_true e,Bool.true_or,Option.isSome_some]
  ·rw [Em e,decide_eq_false e,Bool.false_or]; exact MI k r
theorem Eu(kvs:List (κ×V))(k:κ)(v:V):(putK kvs k v).length<=kvs.length+1:=by
 unfold putK
 split
 ·rw [List.length_map]; omega
 ·rw [List.length_append,List.length_cons,List.length_nil]; omega
theorem RelO.isSome_eq{o:Option V}{u:Option Value}(r:RelO o u):o.isSome=u.isSome:=by
 cases o with
 | none=>cases u with
  | none=>rfl
  | some _=>exact(show False from r).elim
 | some _=>cases u with
  | none=>exact(show False from r).elim
  | some _=>rfl
theorem RelO.getD{o:Option V}{u:Option Value}{d:V}{d':Value}(r:RelO o u)(rd:RelV d d'):RelV (o.getD d) (u.getD d'):=by
 cases o with
 | none=>cases u with
  | none=>exact rd
  | some _=>exact(show False from r).elim
 | some _=>cases u with
  | none=>exact(show False from r).elim
  | some _=>exact r
theorem KV.val{kvs:List (κ×V)}{vs:List (κ×Value)}(r:KV kvs vs)(k:κ):RelO (DR kvs k) (valueAt vs k):=by
 unfold KV at r
 induction r with
 | nil=>exact True.intro
 | @cons p q ps qs h t ih =>
  obtain⟨h1,h2⟩:=h
  by_cases e:p.1=k
  ·have e':q.1=k:=h1.symm.trans e
   have b:valueAt (q::qs) k=some q.2:=by simp [valueAt,List.find?_cons,e']
   rw [El e,b]; exact h2
  ·have e':¬q.1=k:=λz=>e (h1.trans z)
   have b:valueAt (q::qs) k=valueAt qs k:=by simp [valueAt,List.find?_cons,e']
   rw [Em e,b]; exact ih
theorem KV.any{kvs:List (κ×V)}{vs:List (κ×Value)}(r:KV kvs vs)(k:κ):(kvs.any λkv=>decide (kv.1=k))=vs.any λkv=>decide (kv.1=k):=by
 unfold KV at r
 induction r with
 | nil=>rfl
 | cons h t ih=>rw [List.any_cons,List.any_cons,ih,h.1]
theorem KV.repl{kvs:List (κ×V)}{vs:List (κ×Value)}(r:KV kvs vs)(k:κ){y:V}{u:Value}(ry:RelV y u) :
  KV (kvs.map λkv=>if kv.1=k then (kv.1,y) else kv) (vs.map λkv=>if kv.1=k then (kv.1,u) else kv):=by
 unfold KV at r ⊢
 induction r with
 | nil=>exact .nil
 | @cons p q ps qs h t ih =>
  rw [List.map_cons,List.map_cons]
  refine .cons ?_ ih
  obtain⟨h1,h2⟩:=h
  by_cases e:p.1=k
  ·rw [if_pos e,if_pos (h1.symm.trans e)]; exact⟨h1,ry⟩
  ·rw [if_neg e,if_neg (λz=>e (h1.trans z))]; exact⟨h1,h2⟩
theorem KV.put{kvs:List (κ×V)}{vs:List (κ×Value)}(r:KV kvs vs)(k:κ){y:V}{u:Value}(ry:RelV y u):KV (putK kvs k y) (stored vs k u):=by
 unfold putK stored
 rw [r.any k]
 by_cases e:(vs.any λkv=>decide (kv.1=k))=true
 ·rw [if_pos e,if_pos e]; exact r.repl k ry
 ·rw [if_neg e,if_neg e]; exact Paired.snoc r ⟨rfl,ry⟩
theorem KV.length{kvs:List (κ×V)}{vs:List (κ×Value)}(r:KV kvs vs):kvs.length=vs.length:=Paired.length r
end
theorem HS{P:Program}{w:World}{k:Key}{u:Value}(r:RelV (kV k) u):(A_ P w).is k u=true:=by
 cases k with
 | inl i=>obtain⟨t,e⟩:=(show ∃t,u=Value.int i t from r); subst e; exact Mx P w i t
 | inr x=>obtain⟨t,e⟩:=(show ∃t,u=Value.str x t from r); subst e; exact Mw P w x t
theorem Kc{P:Program}{w:World}:∀{ks:List Key} {us:List Value},Vals (ks.map kV) us->ItemsAre (A_ P w) ks us
 | [],_,r=>by rw [List.map_nil] at r; cases r; exact .nil
 | k::ks,_,r=>by
  rw [List.map_cons] at r
  cases r with
  | cons h t=>exact .cons (HS h) (Kc t)
abbrev KT(H:Hp):List (List Key×V)->List (List Key×Addr×Value)->Prop:=Paired λp q=>p.1=q.1/\H q.2.1=some (.tup (p.1.map kV))/\RelV p.2 q.2.2
theorem KT.val{H:Hp}{kvs:List (List Key×V)}{xs:List (List Key×Addr×Value)}(r:KT H kvs xs)(k:List Key):RelO (DR kvs k) ((atKey xs k).map (·.2)):=by
 induction r with
 | nil=>exact True.intro
 | @cons p q ps qs h t ih =>
  obtain⟨h1,_,h2⟩:=h
  by_cases e:p.1=k
  ·have e':q.1=k:=h1.symm.trans e
   have b:atKey (q::qs) k=some q.2:=by simp [atKey,List.find?_cons,e']
   rw [El e,b]; exact h2
  ·have e':¬q.1=k:=λz=>e (h1.trans z)
   have b:atKey (q::qs) k=atKey qs k:=by simp [atKey,List.find?_cons,e']
   rw [Em e,b]; exact ih
theorem KT.repl{H:Hp}{kvs:List (List Key×V)}{xs:List (List Key×Addr×Value)}(r:KT H kvs xs)(k:List Key){y:V}{u:Value}(ry:RelV y u) :
  KT H (kvs.map λkv=>if kv.1=k then (kv.1,y) else kv) (xs.map (putAt k u)):=by
 induction r with
 | nil=>exact .nil
 | @cons p q ps qs h t ih =>
  rw [List.map_cons,List.map_cons]
  refine .cons ?_ ih
  obtain⟨h1,h2,h3⟩:=h
  unfold putAt
  by_cases e:p.1=k
  ·rw [if_pos e,if_pos (h1.symm.trans e)]; exact⟨h1,h2,ry⟩
  ·rw [if_neg e,if_neg (λz=>e (h1.trans z))]; exact⟨h1,h2,h3⟩
theorem KT.put{H:Hp}{kvs:List (List Key×V)}{xs:List (List Key×Addr×Value)}(r:KT H kvs xs)(k:List Key){b:Addr}{y:V}{u:Value}(hb:H b=some (.tup (k.map kV)))(ry:RelV y u) :
  KT H (putK kvs k y) (storedH xs k b u):=by
 have e:(kvs.any λkv=>decide (kv.1=k))=(atKey xs k).isSome:=by
  rw [MI,(r.val k).isSome_eq,Option.isSome_map]
 unfold putK storedH
 rw [e]
 by_cases q:(atKey xs k).isSome=true
 ·rw [if_pos q,if_pos q]; exact r.repl k ry
 ·rw [if_neg q,if_neg q]; exact Paired.snoc r ⟨rfl,hb,ry⟩
theorem KT.keeps{H H':Hp}{kvs:List (List Key×V)}{xs:List (List Key×Addr×Value)}(r:KT H kvs xs)(ht:∀b ys,H b=some (.tup ys)->H' b=some (.tup ys)):KT H' kvs xs :=
 Paired.mapP r λ_ _ z=>⟨z.1,ht _ _ z.2.1,z.2.2⟩
section
variable {P:Program}{w:World}{H:Hp}{h:Heap}{a:Addr}
theorem UH{u:HO}(ok:HOk P w H h)(e:Rd H a u):ObjOk P w H h a u:=e.ok ok
theorem GQ{kvs:List (Key×V)}(ok:HOk P w H h)(e:Rd H a (.dK kvs)):kvs.length<=sizeLine/\(a==sysModules)=false/\∃vs,KV kvs vs/\h.DictOf (A_ P w) a vs :=
 show ObjOk P w H h a (.dK kvs) from UH ok e
theorem Ub{kvs:List (Key×V)}(ok:HOk P w H h)(e:H a=some (.dK kvs)):kvs.length<=sizeLine/\(a==sysModules)=false/\∃vs,KV kvs vs/\h.DictOf (A_ P w) a vs:=GQ ok (.inl e)
theorem Fn{ks:List Key}(ok:HOk P w H h)(e:H a=some (.tup (ks.map kV))):(tupleKind (A_ P w)).is h ks a:=by
 obtain⟨_,its,r,o,h1,h2,n,h3,_⟩:=(show ObjOk P w H h a (.tup (ks.map kV)) from ok a _ e)
 exact⟨o,its.toArray,n,h1,h2,h3,by simpa using Kc r⟩
theorem HX{kvs:List (List Key×V)}(ok:HOk P w H h)(e:Rd H a (.dT kvs)):kvs.length<=sizeLine/\(a==sysModules)=false /\
  ∃xs,KT H kvs xs/\h.DictOfH (tupleKind (A_ P w)) a xs:=by
 obtain⟨z,y,xs,r,o,es,ep,h1,h2,h3,h4,h5⟩:=(show ObjOk P w H h a (.dT kvs) from UH ok e)
 refine⟨z,y,xs,r,o,es,ep,h1,h2,h3,h4,λx hx=>?_,h5⟩
 have all:∀{l:List (List Key×V)} {m:List (List Key×Addr×Value)},KT H l m->∀x∈m,(tupleKind (A_ P w)).is h x.1 x.2.1:=by
  intro l m q
  induction q with
  | nil=>intro x hx; exact nomatch hx
  | @cons p q ps qs hq t ih =>
   intro x hx
   rcases List.mem_cons.mp hx with e | hx
   ·subst e
    exact Fn ok (by rw [← hq.1]; exact hq.2.1)
   ·exact ih x hx
 exact all r x hx
theorem XE{kvs:List (List Key×V)}(ok:HOk P w H h)(e:H a=some (.dT kvs)):kvs.length<=sizeLine/\(a==sysModules)=false /\
  ∃xs,KT H kvs xs/\h.DictOfH (tupleKind (A_ P w)) a xs:=HX ok (.inl e)
end
def DGet(H:Hp)(a:Addr)(y:V)(r:Option V):Prop :=
 (∃kvs k,Rd H a (.dK kvs)/\y=kV k/\r=DR kvs k)\/∃kvs k b,Rd H a (.dT kvs)/\y=.ref b/\H b=some (.tup (k.map kV))/\r=DR kvs k
def DPut(H:Hp)(a:Addr)(y v:V)(H':Hp):Prop :=
 (∃kvs k,H a=some (.dK kvs)/\y=kV k/\kvs.length<sizeLine/\H'=BG H a (.dK (putK kvs k v))) \/
 ∃kvs k b,H a=some (.dT kvs)/\y=.ref b/\H b=some (.tup (k.map kV))/\kvs.length<sizeLine/\H'=BG H a (.dT (putK kvs k v))
theorem DGet.k{H:Hp}{a:Addr}{kvs:List (Key×V)}{k:Key}(e:H a=some (.dK kvs)):DGet H a (kV k) (DR kvs k):=.inl ⟨kvs,k,.inl e,rfl,rfl⟩
theorem DPut.k{H:Hp}{a:Addr}{kvs:List (Key×V)}{k:Key}{v:V}(e:H a=some (.dK kvs))(hl:kvs.length<sizeLine):DPut H a (kV k) v (BG H a (.dK (putK kvs k v))):=.inl ⟨kvs,k,e,rfl,hl,rfl⟩
section
variable {X:Cx}{pins:List (Addr×Obj)}{σ:St}{H:Hp}{s:Shared}{a:Addr}{y v:V}{u r:Value}{o:Option V}{A:Around}{E:Value->Shared->Prop}
theorem Inv.big(I:Inv X pins σ H s):sysModules<s.heap.objs.size:=by
 have h:mainGlobals<s.heap.objs.size:=(I.mod.glob.keeps I.bk).lt
 exact Nat.lt_trans (by decide) h
theorem Q1{Q:Value->Shared->Prop}(hu:A.units+1<cLine)(I:Inv X pins σ H s)(g:DGet H a y (some v))(ry:RelV y u)(h:∀w' s',Inv X pins σ H s'->RelV v w'->Q w' s') :
  wpAny (model X.prog X.w) A (getItem (.ref a) u) Q E s:=by
 rcases g with ⟨kvs,k,e,ey,l⟩ | ⟨kvs,k,b,e,ey,eb,l⟩
 ·subst ey
  obtain⟨z,hd,vs,rel,dd⟩:=GQ I.hok e
  obtain⟨w',hw,rw'⟩:=RelO.some_of (v:=v) (o:=valueAt vs k) (by rw [l]; exact rel.val k)
  exact wpAny_getItem_of (HS ry) dd.mapOf hw (h w' _ (I.tok _) rw')
 ·subst ey
  cases (show u=Value.ref b from ry)
  obtain⟨z,hd,xs,rel,dd⟩:=HX I.hok e
  obtain⟨w',hw,rw'⟩:=RelO.some_of (v:=v) (o:=(atKey xs k).map (·.2)) (by rw [l]; exact rel.val k)
  obtain⟨p,hp,hp2⟩:=Option.map_eq_some_iff.mp hw
  refine wpAny_getItem_heap (tupleKind_room_in1 hu) (Fn I.hok eb) dd hp ?_
  rw [hp2]
  exact h w' _ (I.tok _) rw'
theorem YB{Q:Value->Shared->Prop}(hu:A.units+1<cLine)(I:Inv X pins σ H s)(g:DGet H a y o)(ry:RelV y u)(h:∀s',Inv X pins σ H s'->Q (.bool o.isSome) s') :
  wpAny (model X.prog X.w) A (compareOp .In u (.ref a)) Q E s:=by
 rcases g with ⟨kvs,k,e,ey,l⟩ | ⟨kvs,k,b,e,ey,eb,l⟩
 ·subst ey
  obtain⟨z,hd,vs,rel,dd⟩:=GQ I.hok e
  refine wpAny_in_of (HS ry) hd dd.mapOf ?_
  rw [← (rel.val k).isSome_eq,← l]
  exact h _ (I.tok _)
 ·subst ey
  cases (show u=Value.ref b from ry)
  obtain⟨z,hd,xs,rel,dd⟩:=HX I.hok e
  refine wpAny_in_heap (tupleKind_room_in1 hu) (Fn I.hok eb) hd dd ?_
  have q:=(rel.val k).isSome_eq
  rw [Option.isSome_map] at q
  rw [← q,← l]
  exact h _ (I.tok _)
theorem T6{Q:Value->Shared->Prop}(hu:A.units+1<cLine)(I:Inv X pins σ H s)(g:DGet H a y o)(ry:RelV y u)(h:∀s',Inv X pins σ H s'->Q (.bool (!o.isSome)) s') :
  wpAny (model X.prog X.w) A (compareOp .NotIn u (.ref a)) Q E s:=by
 rcases g with ⟨kvs,k,e,ey,l⟩ | ⟨kvs,k,b,e,ey,eb,l⟩
 ·subst ey
  obtain⟨z,hd,vs,rel,dd⟩:=GQ I.hok e
  refine wpAny_notIn_of (HS ry) hd dd.mapOf ?_
  rw [← (rel.val k).isSome_eq,← l]
  exact h _ (I.tok _)
 ·subst ey
  cases (show u=Value.ref b from ry)
  obtain⟨z,hd,xs,rel,dd⟩:=HX I.hok e
  refine wpAny_notIn_heap (tupleKind_room_in1 hu) (Fn I.hok eb) hd dd ?_
  have q:=(rel.val k).isSome_eq
  rw [Option.isSome_map] at q
  rw [← q,← l]
  exact h _ (I.tok _)
theorem L1{h':Heap}{t':Nat}{ob:HO}(I:Inv X pins σ H s)(mu:XW (H a))(hs:Heap.SameBut a s.heap h')(he:∃q,h'.get? a=some q)(new:ObjOk X.prog X.w (BG H a ob) h' a ob) :
  Inv X pins σ (BG H a ob) { s with heap:=h',toks:=t' } :=
 I.write (x:=a) (e:=a) mu (.inl rfl) (λb q hb z=>(hs.2 b hb).trans z) he new
theorem Sg{P:Program}{w:World}{H':Hp}{h':Heap}{kvs:List (Key×V)}{vs:List (Key×Value)}(z:kvs.length<=sizeLine)(hd:(a==sysModules)=false)(rel:KV kvs vs)(dd:h'.DictOf (A_ P w) a vs) :
  ObjOk P w H' h' a (.dK kvs):=⟨z,hd,vs,rel,dd⟩
theorem Q0{H':Hp}{Q:Unit->Shared->Prop}(hu:A.units+1<cLine)(I:Inv X pins σ H s)(g:DPut H a y v H')(ry:RelV y u)(rv:RelV v r)(h:∀s',Inv X pins σ H' s'->Q () s') :
  wpAny (model X.prog X.w) A (setItem (.ref a) u r) Q E s:=by
 rcases g with ⟨kvs,k,e,ey,l,eH⟩ | ⟨kvs,k,b,e,ey,eb,l,eH⟩
 ·subst ey eH
  obtain⟨z,hd,vs,rel,dd⟩:=Ub I.hok e
  have hz:vs.length<=sizeLine:=by rw [← rel.length]; exact z
  have hl:(putK kvs k v).length<=sizeLine:=by have:=Eu kvs k v; omega
  refine wpAny_setItem_pairs (hsz:=hz) (HS ry) dd λh' dd' hs=>h _ ?_
  have he:∃q,h'.get? a=some q:=let ⟨q,_,_,hq,_⟩:=dd'; ⟨q,hq⟩
  exact L1 I (by rw [e]; exact True.intro) hs he (Sg hl hd (rel.put k rv) dd')
 ·subst ey eH
  cases (show u=Value.ref b from ry)
  obtain⟨z,hd,xs,rel,dd⟩:=XE I.hok e
  have hz:xs.length<=sizeLine:=by rw [← Paired.length rel]; exact z
  have hl:(putK kvs k v).length<=sizeLine:=by have:=Eu kvs k v; omega
  refine wpAny_setItem_heap (hsz:=hz) (tupleKind_room_in1 hu) (Fn I.hok eb) dd λh' dd' hs=>h _ ?_
  obtain⟨q,es,ep,hq,h2,h3,h4,_,h5⟩:=dd'
  refine L1 I (by rw [e]; exact True.intro) hs ⟨q,hq⟩ ⟨hl,hd,_,(rel.put k eb rv).keeps λc ys ec=>?_,q,es,ep,hq,h2,h3,h4,h5⟩
  rw [AT (W0 ec e (λz=>nomatch z))]
  exact ec
end
section
variable {X:Cx}{pins:List (Addr×Obj)}{σ:St}{H:Hp}{s:Shared}{a:Addr}{kvs:List (Key×V)}{k:Key}{u:Value}{A:Around}{E:Value->Shared->Prop}
end
def V7(i:Expr):Prop:=∀ov iv,subscripted i false ov iv=operate [ov,iv] (getItem ov iv)
theorem TK{prog:Program}{w:World}{A:Around}{E:Value->Shared->Prop}{s:Shared}{env:Env}{value slice:Expr}{pos:Pos}{T id:String}{Q:Value->Shared->Prop}
  (hl:typeLookup (.type T) "__getitem__"=pure (some (.builtin id))) (hs:V7 slice)
  (h:wpAny (model prog w) A (eval value env) (λo s₁=>wpAny (model prog w) A (eval slice env) (λi s₂=>s₂.TypeIs o T/\wpAny (model prog w) A (getItem o i) Q E s₂) E s₁) E s) :
  wpAny (model prog w) A (eval (.Subscript value slice pos) env) Q E s:=by
 refine Subscript_ (wpAny_mono h (λo s₁ h₁=>wpAny_mono h₁ (λi s₂ h₂=>?_) λ_ _ x=>x) λ_ _ x=>x)
 obtain⟨hT,h₂⟩:=h₂
 unfold subscriptTail
 refine wpAny_bind ?_
 rw [getitemInPython_of_ne hT.not_modules]
 refine wpAny_bind (wpAny_specialOf hT hl ?_)
 have fin:wpAny (model prog w) A (subscripted slice false o i) (λr s₃=>wpAny (model prog w) A (letTemporaryGo value o r >>= λ_=>pure r) Q E s₃) E s₂:=by
  rw [hs o i]
  exact wpAny_operating (wpAny_mono h₂ (λr s₃ h₃=>wpAny_bind (wpAny_letTemporaryGo (wpAny_pure h₃))) λ_ _ x=>x)
 first
  | exact wpAny_pure (wpAny_bind fin)
  | exact wpAny_bind (wpAny_pure (wpAny_bind fin))
  | exact wpAny_bind fin
theorem NR{X:Cx}{pins:List (Addr×Obj)}{σ:St}{H:Hp}{s:Shared}{a:Addr}{y:V}{o:Option V}(I:Inv X pins σ H s)(g:DGet H a y o):s.TypeIs (.ref a) "dict":=by
 rcases g with ⟨kvs,k,e,_,_⟩ | ⟨kvs,k,b,e,_,_,_⟩
 ·obtain⟨_,_,vs,_,dd⟩:=GQ I.hok e
  exact dd.typeIs
 ·obtain⟨_,_,xs,_,dd⟩:=HX I.hok e
  exact dd.typeIs
def WV(td ty:TE):TE:=λσ H Q=>td σ H λx H1=>ty σ H1 λy H2=>∃a v,x=.ref a/\DGet H2 a y (some v)/\Q v H2
def WZ(td ty tv:TE):TS:=λD σ H=>tv σ H λv H1=>td σ H1 λx H2=>ty σ H2 λy H3=>∃a H4,x=.ref a/\DPut H3 a y v H4/\D.nx σ H4
section
variable {X:Cx}{o i e value:Expr}{pos pos' tpos:Pos}{td ty tv:TE}
theorem LX(hu:X.A.units+1<cLine)(ho:PE X o td)(hi:PE X i ty)(hs:V7 i):PE X (.Subscript o i pos) (WV td ty):=by
 intro pins s σ H Q I h
 refine TK PySem.F.slot_dict_getitem.lookup hs (thn (ho pins s σ H _ I h) λu s1 ⟨x,H1,I1,rx,q1⟩=>thn (hi pins s1 σ H1 _ I1 q1) λiv s2 ⟨y,H2,I2,ry,a,v,ex,g,q2⟩=>?_)
 subst ex
 obtain rfl:u=Value.ref a:=rx
 exact⟨NR I2 g,Q1 hu I2 g ry λw' s3 I3 rw'=>⟨v,H2,I3,rw',q2⟩⟩
theorem Hx(hu:X.A.units+1<cLine)(ho:PE X o td)(hi:PE X i ty)(hv:PE X value tv)(hs:swapsWith value (some (.Subscript o i pos')) pos.line X.env=pure false) :
  PS X (.Assign [.Subscript o i pos'] value pos) (WZ td ty tv):=by
 intro pins s σ H D I h
 refine wpAny_Assign_Subscript (thn (hv pins s σ H _ I h) λr s1 ⟨v,H1,I1,rv,q1⟩=>thn (ho pins s1 σ H1 _ I1 q1) λu s2 ⟨x,H2,I2,rx,q2⟩=>thn (hi pins s2 σ H2 _ I2 q2) λiv s3 ⟨y,H3,I3,ry,a,H4,ex,g,q3⟩=>?_) hs
 subst ex
 obtain rfl:u=Value.ref a:=rx
 exact Q0 hu I3 g ry rv λs4 I4=>⟨σ,H4,I4,q3⟩
end
theorem NQ{P:Program}{w:World}{H:Hp}(h:Heap)(hb:sysModules<h.objs.size):ObjOk P w H (h.push { cls:=.type "dict",data:=.dict #[] }) h.objs.size (.dK []) :=
 ⟨Nat.zero_le _,beq_eq_false_iff_ne.mpr (Ne.symm (Nat.ne_of_lt hb)),[],.nil,Heap.DictOf.new h⟩
def Uz:TE:=λ_ H Q=>∀p,H p=none->Q (.ref p) (BG H p (.dK []))
section
variable {X:Cx}{pos:Pos}
theorem Mg:PE X (.Dict [] [] pos) Uz:=λpins s σ H Q I h =>
 wpAny_Dict_empty ⟨.ref s.heap.objs.size,_,I.laid (a:=s.heap.objs.size) (o:=.dK []) (t':=s.toks) (λ_ _ q=>Heap.get?_push_of_some _ q) (Nat.le_refl _) (NQ s.heap I.big),rfl,h _ (I.hok.fresh (Nat.le_refl _))⟩
end
def N3:List (TE×TE)->St->Hp->(List (V×V)->Hp->Prop)->Prop
 | [],_,H,Q=>Q [] H
 | (tk,tv)::r,σ,H,Q=>tk σ H λx H1=>tv σ H1 λy H2=>N3 r σ H2 λps H3=>Q ((x,y)::ps) H3
abbrev VV:List (V×V)->List (Value×Value)->Prop:=Paired λp q=>RelV p.1 q.1/\RelV p.2 q.2
def Xk(X:Cx)(pos:Pos)(keys:List (Option Expr))(values:List Expr)(trs:List (TE×TE)):Prop :=
 ∀(pins:List (Addr×Obj)) (s:Shared) (σ:St) (H:Hp) (Q:List (V×V)->Hp->Prop),Inv X pins σ H s->N3 trs σ H Q ->
  wpAny (model X.prog X.w) X.A (evalPairs (pairTrees keys values X.env pos)) (λvs s'=>∃ps H',Inv X pins σ H' s'/\VV ps vs/\Q ps H') X.xe s
theorem TN{X:Cx}{pos:Pos}:Xk X pos [] [] []:=λpins s σ H Q I h=>pairTrees_nil_walk ⟨[],H,I,.nil,h⟩
theorem Rn{X:Cx}{pos:Pos}{k v:Expr}{ks:List (Option Expr)}{vs:List Expr}{tk tv:TE}{trs:List (TE×TE)}(hk:PE X k tk)(hv:PE X v tv)(hr:Xk X pos ks vs trs) :
  Xk X pos (some k::ks) (v::vs) ((tk,tv)::trs):=λpins s σ H Q I h =>
 pairTrees_cons_walk (thn (hk pins s σ H _ I h) λu s1 ⟨x,H1,I1,rx,q1⟩=>thn (hv pins s1 σ H1 _ I1 q1) λw2 s2 ⟨y,H2,I2,ry,q2⟩ =>
  thn (hr pins s2 σ H2 _ I2 q2) λws s3 ⟨ps,H3,I3,rel,q3⟩=>⟨(x,y)::ps,H3,I3,.cons ⟨rx,ry⟩ rel,q3⟩)
def I_(kvs more:List (Key×V)):List (Key×V):=more.foldl (λacc kv=>putK acc kv.1 kv.2) kvs
theorem KV.merge:∀{more:List (Key×V)} {rs:List (Key×Value)} {kvs:List (Key×V)} {vs:List (Key×Value)},KV more rs->KV kvs vs->KV (I_ kvs more) (merged vs rs):=by
 intro more rs kvs vs r
 unfold KV at r
 induction r generalizing kvs vs with
 | nil=>intro q; exact q
 | @cons p q ps qs h t ih =>
  intro r0
  have e:KV (putK kvs p.1 p.2) (stored vs q.1 q.2):=by
   have:=r0.put p.1 h.2
   rw [← h.1]; exact this
  exact ih e
theorem FX:∀(more kvs:List (Key×V)),(I_ kvs more).length<=kvs.length+more.length
 | [],kvs=>by show kvs.length<=kvs.length+0; omega
 | p::r,kvs=>by
  have h1:=FX r (putK kvs p.1 p.2)
  have h2:=Eu kvs p.1 p.2
  show (I_ (putK kvs p.1 p.2) r).length<=_
  rw [List.length_cons]; omega
theorem JW{P:Program}{w:World}:∀{kvs:List (Key×V)} {ws:List (Value×Value)},VV (kvs.map λkv=>(kV kv.1,kv.2)) ws->∃rs,Carries (A_ P w) ws rs/\KV kvs rs
 | [],_,r=>by rw [List.map_nil] at r; cases r; exact⟨[],True.intro,.nil⟩
 | p::kvs,_,r=>by
  rw [List.map_cons] at r
  cases r with
  | @cons a b as bs h t =>
   obtain⟨rs,c,q⟩:=JW (P:=P) (w:=w) t
   obtain⟨b1,b2⟩:=b
   exact⟨(p.1,b2)::rs,⟨HS h.1,rfl,c⟩,.cons ⟨rfl,h.2⟩ q⟩
def WU(trs:List (TE×TE)):TE:=λσ H Q=>∀p,H p=none->N3 trs σ (BG H p (.dK [])) λps H2=>H2 p=some (.dK [])/\∃kvs:List (Key×V),ps=kvs.map (λkv=>(kV kv.1,kv.2))/\kvs.length<=15/\Q (.ref p) (BG H2 p (.dK (I_ [] kvs)))
theorem TV{X:Cx}{pos:Pos}{keys:List (Option Expr)}{values:List Expr}{trs:List (TE×TE)}(h:Xk X pos keys values trs)(hall:keys.all (·.isSome)=true)(hl:keys.length=values.length)(h0:keys≠[])
  (h15:keys.length<=15):PE X (.Dict keys values pos) (WU trs):=by
 intro pins s σ H Q I q
 have hn:=I.hok.fresh (Nat.le_refl s.heap.objs.size)
 have I1:=I.laid (a:=s.heap.objs.size) (o:=.dK []) (h':=s.heap.push { cls:=.type "dict",data:=.dict #[] }) (t':=s.toks) (λ_ _ q=>Heap.get?_push_of_some _ q) (Nat.le_refl _) (NQ s.heap I.big)
 refine wpAny_Dict_walk (knd:=A_ X.prog X.w) hall hl h0 h15 (thn (h pins _ σ _ _ I1 (q _ hn)) λws s2 ⟨ps,H2,I2,rel,e,kvs,ep,lk,q2⟩=>?_)
 subst ep
 obtain⟨rs,c,rk⟩:=JW (P:=X.prog) (w:=X.w) rel
 obtain⟨z,hd,vs0,r0,dd⟩:=Ub I2.hok e
 cases r0
 refine⟨rs,c,dd,λh' dd' hs=>⟨.ref s.heap.objs.size,_,?_,rfl,q2⟩⟩
 have hz:(I_ [] kvs).length<=sizeLine:=by
  have h1:=FX kvs []
  rw [List.length_nil] at h1
  rw [sizeLine_eq]; omega
 have he:∃q,h'.get? s.heap.objs.size=some q:=let ⟨q,_,_,hq,_⟩:=dd'; ⟨q,hq⟩
 exact L1 I2 (by rw [e]; exact True.intro) hs he (Sg hz hd (rk.merge .nil) dd')
structure M1 (X:Cx) (o:Expr) (m:Str) (apos:Pos) (e:Expr) (cpos:Pos):Prop where
 base:attributeBase o m X.env (eval o X.env)=eval o X.env
 few:((backTo cpos (starEach [e] X.env)).all (λx=>!x.1)&&(backToKw cpos (keywordEach [] X.env)).all (λx=>x.1.isSome)
  && decide (([e]:List Expr).length+([]:List Keyword).length+(if ([]:List Keyword).isEmpty then 0 else 1)<30))=true
 line:(apos.endLine==cpos.line)=true
 trees:backTo cpos (starEach [e] X.env)=[(false,eval e X.env)]
structure M2 (X:Cx) (o:Expr) (m:Str) (apos:Pos) (e f:Expr) (cpos:Pos):Prop where
 base:attributeBase o m X.env (eval o X.env)=eval o X.env
 few:((backTo cpos (starEach [e,f] X.env)).all (λx=>!x.1)&&(backToKw cpos (keywordEach [] X.env)).all (λx=>x.1.isSome)
  && decide (([e,f]:List Expr).length+([]:List Keyword).length+(if ([]:List Keyword).isEmpty then 0 else 1)<30))=true
 line:(apos.endLine==cpos.line)=true
 trees:backTo cpos (starEach [e,f] X.env)=[(false,eval e X.env),(false,eval f X.env)]
def Xl(H:Hp)(a:Addr):Prop:=(∃kvs,Rd H a (.dK kvs))\/∃kvs,Rd H a (.dT kvs)
theorem OX{X:Cx}{pins:List (Addr×Obj)}{σ:St}{H:Hp}{s:Shared}{a:Addr}(I:Inv X pins σ H s)(d:Xl H a) :
  s.TypeIs (.ref a) "dict"/\(∀b,Value.ref a=.ref b->∃ob,s.heap.get? b=some ob/\ob.dict=none)/\(a==sysModules)=false:=by
 rcases d with ⟨kvs,e⟩ | ⟨kvs,e⟩
 ·obtain⟨_,hd,vs,_,dd⟩:=GQ I.hok e
  refine⟨dd.typeIs,λb q=>?_,hd⟩
  cases q
  obtain⟨ob,_,_,h1,h2,_⟩:=dd
  exact⟨ob,h1,h2.2.1⟩
 ·obtain⟨_,hd,xs,_,dd⟩:=HX I.hok e
  refine⟨dd.typeIs,λb q=>?_,hd⟩
  cases q
  obtain⟨ob,_,_,h1,h2,_⟩:=dd
  exact⟨ob,h1,h2.2.1⟩
section
variable {X:Cx}{pins:List (Addr×Obj)}{σ:St}{H:Hp}{s:Shared}{a:Addr}{y d:V}{u r:Value}{o:Option V}{A:Around}{E:Value->Shared->Prop}
theorem Vs{Q:Value->Shared->Prop}(hu:A.units+1<cLine)(I:Inv X pins σ H s)(g:DGet H a y o)(ry:RelV y u)(h:∀w' s',Inv X pins σ H s'->RelV (o.getD .non) w'->Q w' s') :
  wpAny (model X.prog X.w) A (call (.builtin "dict.get") [.ref a,u]) Q E s:=by
 rcases g with ⟨kvs,k,e,ey,l⟩ | ⟨kvs,k,b,e,ey,eb,l⟩
 ·subst ey
  obtain⟨z,hd,vs,rel,dd⟩:=GQ I.hok e
  refine call_meetsIn PySem.F.slot_dict_get dd.typeIs PySem.F.entry_dict_get (PySem.F.args_dict_get_2 _ _) (meets_dict_get (A_ X.prog X.w) a (HS ry) hd) ⟨_,dd.mapOf,h _ _ (I.tok _) ?_⟩
  rw [l]
  exact(rel.val k).getD rfl
 ·subst ey
  cases (show u=Value.ref b from ry)
  obtain⟨z,hd,xs,rel,dd⟩:=HX I.hok e
  refine call_meetsIn PySem.F.slot_dict_get dd.typeIs PySem.F.entry_dict_get (PySem.F.args_dict_get_2 _ _) (meetsH_dict_get (tupleKind (A_ X.prog X.w)) a b hd) ⟨tupleKind_room_in1 hu,k,xs,Fn I.hok eb,dd,h _ _ (I.tok _) ?_⟩
  rw [l]
  exact(rel.val k).getD rfl
theorem Vr{Q:Value->Shared->Prop}(hu:A.units+1<cLine)(I:Inv X pins σ H s)(g:DGet H a y o)(ry:RelV y u)(rd:RelV d r)(h:∀w' s',Inv X pins σ H s'->RelV (o.getD d) w'->Q w' s') :
  wpAny (model X.prog X.w) A (call (.builtin "dict.get") [.ref a,u,r]) Q E s:=by
 rcases g with ⟨kvs,k,e,ey,l⟩ | ⟨kvs,k,b,e,ey,eb,l⟩
 ·subst ey
  obtain⟨z,hd,vs,rel,dd⟩:=GQ I.hok e
  refine call_meetsIn PySem.F.slot_dict_get dd.typeIs PySem.F.entry_dict_get (PySem.F.args_dict_get_3 _ _ _) (meets_dict_get_default (A_ X.prog X.w) a (HS ry) hd r) ⟨_,dd.mapOf,h _ _ (I.tok _) ?_⟩
  rw [l]
  exact(rel.val k).getD rd
 ·subst ey
  cases (show u=Value.ref b from ry)
  obtain⟨z,hd,xs,rel,dd⟩:=HX I.hok e
  refine call_meetsIn PySem.F.slot_dict_get dd.typeIs PySem.F.entry_dict_get (PySem.F.args_dict_get_3 _ _ _) (meetsH_dict_get_default (tupleKind (A_ X.prog X.w)) a b hd r) ⟨tupleKind_room_in1 hu,k,xs,Fn I.hok eb,dd,h _ _ (I.tok _) ?_⟩
  rw [l]
  exact(rel.val k).getD rd
end
def U1(td ty:TE):TE:=λσ H Q=>td σ H λx H1=>∃a,x=.ref a/\Xl H1 a/\ty σ H1 λy H2=>∃o,DGet H2 a y o/\Q (o.getD .non) H2
def U0(td ty tx:TE):TE:=λσ H Q=>td σ H λx H1=>∃a,x=.ref a/\Xl H1 a/\ty σ H1 λy H2=>tx σ H2 λz H3=>∃o,DGet H3 a y o/\Q (o.getD z) H3
section
variable {X:Cx}{o e f:Expr}{apos cpos:Pos}{td ty tx:TE}
theorem Ry(hu:X.A.units+1<cLine)(ho:PE X o td)(he:PE X e ty)(m:M1 X o "get" apos e cpos):PE X (.Call (.Attribute o "get" apos) [e] [] cpos) (U1 td ty):=by
 intro pins s σ H Q I h
 refine wpAny_Call_method m.base m.few m.line PySem.F.plainAttrs_dict PySem.F.slot_dict_get PySem.F.type_dict_get (thn (ho pins s σ H _ I h) λu s1 ⟨x,H1,I1,rx,a,ex,d,q1⟩=>?_)
 subst ex
 obtain rfl:u=Value.ref a:=rx
 obtain⟨t1,t2,_⟩:=OX I1 d
 refine⟨t1,t2,?_⟩
 rw [m.trees]
 refine Calls.callWith_builtin rfl (Calls.evalArgs_plain (Calls.spliced_cons (thn (he pins s1 σ H1 _ I1 q1) λiv s2 ⟨y,H2,I2,ry,ov,g,q2⟩=>Calls.spliced_nil ?_)))
 exact Vs hu I2 g ry λw' s3 I3 rw'=>⟨_,H2,I3,rw',q2⟩
theorem Rx(hu:X.A.units+1<cLine)(ho:PE X o td)(he:PE X e ty)(hf:PE X f tx)(m:M2 X o "get" apos e f cpos):PE X (.Call (.Attribute o "get" apos) [e,f] [] cpos) (U0 td ty tx):=by
 intro pins s σ H Q I h
 refine wpAny_Call_method m.base m.few m.line PySem.F.plainAttrs_dict PySem.F.slot_dict_get PySem.F.type_dict_get (thn (ho pins s σ H _ I h) λu s1 ⟨x,H1,I1,rx,a,ex,d,q1⟩=>?_)
 subst ex
 obtain rfl:u=Value.ref a:=rx
 obtain⟨t1,t2,_⟩:=OX I1 d
 refine⟨t1,t2,?_⟩
 rw [m.trees]
 refine Calls.callWith_builtin rfl (Calls.evalArgs_plain (Calls.spliced_cons (thn (he pins s1 σ H1 _ I1 q1) λiv s2 ⟨y,H2,I2,ry,q2⟩ =>
  Calls.spliced_cons (thn (hf pins s2 σ H2 _ I2 q2) λfv s3 ⟨z,H3,I3,rz,ov,g,q3⟩=>Calls.spliced_nil ?_))))
 exact Vr hu I3 g ry rz λw' s4 I4 rw'=>⟨_,H3,I4,rw',q3⟩
end
section
variable {X:Cx}{pins:List (Addr×Obj)}{σ:St}{H:Hp}{s:Shared}{a:Addr}{kvs:List (Key×V)}{A:Around}{E:Value->Shared->Prop}
end
section
variable {X:Cx}{pins:List (Addr×Obj)}{σ:St}{H:Hp}{s:Shared}{a:Addr}{y:V}{u:Value}{A:Around}{E:Value->Shared->Prop}
end
end L2
set_option maxHeartbeats 4000000
namespace L2
open PySem PySem.Spec PyProof.Rows
section
theorem Ob{env:Env}:∀(names:List (Str×NameKind)) (cs:List (Str×Addr)),(∀x,(x,NameKind.free)∈names->∃c,env.cells.lookup x=some c)->(∀x c,cs.lookup x=some c->env.cells.lookup x=some c) ->
  ∃cl,(forIn names cs fun(x:Str×NameKind) (r:List (Str×Addr))=>(if (x.2==NameKind.free)=true then do let a ← cellOf env x.1; pure (ForInStep.yield ((x.1,a)::r)) else pure (ForInStep.yield r):Sem (ForInStep (List (Str×Addr)))))=(pure cl:Sem _) /\
   (∀x c,cl.lookup x=some c->env.cells.lookup x=some c)/\(∀x,((x,NameKind.free)∈names\/∃c,cs.lookup x=some c)->∃c,cl.lookup x=some c):=by
 intro names
 induction names with
 | nil =>
  intro cs _ h2
  exact⟨cs,rfl,h2,λx hx=>hx.elim (λz=>absurd z (by simp)) λz=>z⟩
 | cons p r ih =>
  intro cs h1 h2
  obtain⟨n,k⟩:=p
  by_cases hk:k=NameKind.free
  ·subst hk
   obtain⟨c,hc⟩:=h1 n List.mem_cons_self
   have hcell:cellOf env n=pure c:=by simp only [cellOf,hc]
   obtain⟨cl,e,a,b⟩:=ih ((n,c)::cs) (λx hx=>h1 x (List.mem_cons_of_mem _ hx)) (λx c' hx=>by
    rw [List.lookup_cons] at hx
    cases hb:x==n with
    | true =>
     rw [hb] at hx
     have hx':some c=some c':=hx
     cases hx'
     have:x=n:=by simpa using hb
     rw [this]; exact hc
    | false=>rw [hb] at hx; exact h2 x c' hx)
   refine⟨cl,?_,a,λx hx=>b x ?_⟩
   ·rw [List.forIn_cons]
    simp only [beq_self_eq_true,if_true,hcell,pure_bind]
    exact e
   ·by_cases hxn:x=n
    ·subst hxn
     exact .inr ⟨c,by simp [List.lookup_cons]⟩
    ·rcases hx with hx | ⟨c',hx⟩
     ·rcases List.mem_cons.mp hx with hx | hx
      ·cases hx; exact absurd rfl hxn
      ·exact .inl hx
     ·refine .inr ⟨c',?_⟩
      have:(x==n)=false:=by simpa using hxn
      rw [List.lookup_cons,this]
      exact hx
  ·have hk':(k==NameKind.free)=false:=by simpa using hk
   obtain⟨cl,e,a,b⟩:=ih cs (λx hx=>h1 x (List.mem_cons_of_mem _ hx)) h2
   refine⟨cl,?_,a,λx hx=>b x ?_⟩
   ·rw [List.forIn_cons]
    simp only [hk',Bool.false_eq_true,if_false,pure_bind]
    exact e
   ·rcases hx with hx | hx
    ·rcases List.mem_cons.mp hx with hx | hx
     ·cases hx; exact absurd rfl hk
     ·exact .inl hx
    ·exact .inr hx
theorem JV{scope:Scope}{env:Env}(h:∀x,(x,NameKind.free)∈scope.names->∃c,env.cells.lookup x=some c) :
  ∃cl,closureFor scope env=pure cl/\(∀x c,cl.lookup x=some c->env.cells.lookup x=some c)/\(∀x,(x,NameKind.free)∈scope.names->∃c,cl.lookup x=some c):=by
 obtain⟨cl,e,a,b⟩:=Ob scope.names [] h (λx c hx=>by simp at hx)
 refine⟨cl,?_,a,λx hx=>b x (.inl hx)⟩
 simp only [closureFor]
 rw [e,pure_bind]
variable {prog:Program}{w:World}{A:Around}{E:Value->Shared->Prop}{R:Result->Shared->Prop}{s:Shared}
theorem L4{elt target iter:Expr}{ifs:List Expr}{scope:Scope}{pos:Pos}{it acc:Value}{env:Env}(I:Nat->Shared->Prop)
  (turn:∀n s,I n s->wpAny (model prog w) A (pyNext it) (λr s₁=>match r with
   | none=>R (.ok .next) s₁
   | some v=>wpAny (model prog w) A (letOwnedTupleGo target it v) (λ_ s₁'=>wpAny (model prog w) A (assign target env v) (λ_ s₂ =>
     wpAny (model prog w) A (forIn ifs true λc r=>if r=true then do let ok ← isTrue c env (eval c env); pure (ForInStep.yield ok) else pure (ForInStep.yield r)) (λok s₃ =>
      if ok=true then wpAny (model prog w) A (eval elt env) (λx s₄ =>
       wpAny (model prog w) A (call (.builtin "list.append") [acc,x]) (λ_ s₅=>∃m,m<n/\I m s₅) (λ_ _=>False) s₄) (λ_ _=>False) s₃
      else ∃m,m<n/\I m s₃) (λ_ _=>False) s₂) (λ_ _=>False) s₁') (λ_ _=>False) s₁) (λ_ _=>False) s)
  (n:Nat) (h:I n s) :
  codeAny (model prog w) A (.compLoop (.ListComp elt [⟨target,iter,ifs,0⟩] scope pos) 0 it acc env) R s:=by
 refine codeAny_loop rfl I (λn s hI=>?_) n h
 show wpAny _ A ((compTurn (.ListComp elt [⟨target,iter,ifs,0⟩] scope pos) 0 it acc env).onRaise (λx=>do noteFrame x env; theTreesLotGoes x)) _ _ s
 refine wpAny_noted ?_
 rw [compTurn_list]
 refine wpAny_bind (wpAny_standAt (wpAny_bind (wpAny_mono (turn n s hI) (λr s₁ h₁=>?_) λ_ _ h'=>h'.elim)))
 cases r with
 | none=>exact wpAny_pure h₁
 | some v =>
  refine wpAny_bind (wpAny_mono h₁ (λ_ s₁' h₁'=>?_) λ_ _ h'=>h'.elim)
  refine wpAny_bind (wpAny_mono h₁' (λ_ s₂ h₂=>wpAny_bind (wpAny_mono h₂ (λok s₃ h₃=>?_) λ_ _ h'=>h'.elim)) λ_ _ h'=>h'.elim)
  cases ok with
  | false=>exact wpAny_pure ⟨rfl,h₃⟩
  | true =>
   exact wpAny_bind (wpAny_bind (wpAny_mono h₃ (λx s₄ h₄=>wpAny_bind (wpAny_mono h₄ (λ_ s₅ h₅=>wpAny_pure (wpAny_pure ⟨rfl,h₅⟩)) λ_ _ h'=>h'.elim)) λ_ _ h'=>h'.elim))
end
def A4(X:Cx)(sc:Scope)(N':List Str)(cl:List (Str×Addr))(C:Addr)(s:Shared)(H:Hp)(ex:List Addr):Cx where
 prog:=X.prog
 w:=X.w
 K:=X.K
 mg:=X.mg
 base:=X.base
 A:=X.A
 N:=N'
 s₀:=s
 H₀:=H
 env:=compEnvC sc cl C X.env
 outer:=X.stack
 stack:=X.stack
 ex:=ex
 fn:=λ_=>false
 calm:=true
 pn:=[]
 xe:=λ_ _=>False
def C4(js:List (Option Nat))(σ:St):St:=js.map λo=>match o with
 | some i=>(σ[i]?).getD none
 | none=>none
def Tq(o:Option NameKind):Bool:=match o with
 | some .cell=>true
 | some .free=>true
 | _=>false
theorem PR{o:Option NameKind}(h:Tq o=true):o=some .cell\/o=some .free:=by
 unfold Tq at h
 split at h
 ·exact .inl rfl
 ·exact .inr rfl
 ·cases h
def isFree(o:Option NameKind):Bool:=match o with
 | some .free=>true
 | _=>false
theorem Qq{o:Option NameKind}(h:isFree o=true):o=some .free:=by
 unfold isFree at h
 split at h
 ·rfl
 ·cases h
def SR(o:Option NameKind):Bool:=match o with
 | some .local=>true
 | _=>false
theorem SQ{o:Option NameKind}(h:SR o=true):o=some .local:=by
 unfold SR at h
 split at h
 ·rfl
 ·cases h
def SU(k:ScopeKind):Bool:=match k with
 | .function=>true
 | _=>false
theorem SS{k:ScopeKind}(h:SU k=true):k=.function:=by
 unfold SU at h
 split at h
 ·rfl
 ·cases h
def X0(sc esc:Scope)(p:Str×NameKind):Bool:=match p.2 with
 | .cell=>false
 | .free=>Tq (esc.names.lookup p.1)
 | .local=>SR (sc.names.lookup p.1)
 | _=>true
def YA(x:Option Str)(y:Str):Bool:=match x with
 | some z=>z==y
 | none=>false
theorem Vm{x:Option Str}{y:Str}(h:YA x y=true):x=some y:=by
 unfold YA at h
 split at h
 ·exact congrArg some (by simpa using h)
 ·cases h
def GW(sc esc:Scope)(N:List Str):List Str->List (Option Nat)->Bool
 | [],[]=>true
 | x::xs,some j::js=>isFree (sc.names.lookup x)&&YA (N[j]?) x&&Tq (esc.names.lookup x)&&GW sc esc N xs js
 | _::xs,none::js=>GW sc esc N xs js
 | _,_=>false
def Hb(sc esc:Scope)(N N':List Str)(js:List (Option Nat)):Bool:=SU sc.kind&&sc.names.all (X0 sc esc)&&GW sc esc N N' js
theorem E5{sc esc:Scope}{N:List Str}:∀{N':List Str} {js:List (Option Nat)},GW sc esc N N' js=true->js.length=N'.length
 | [],[],_=>rfl
 | x::xs,some j::js,h=>by
  unfold GW at h
  rw [Bool.and_eq_true] at h
  rw [List.length_cons,List.length_cons,E5 h.2]
 | x::xs,none::js,h=>by
  unfold GW at h
  rw [List.length_cons,List.length_cons,E5 h]
 | [],some _::_,h=>by unfold GW at h; cases h
 | [],none::_,h=>by unfold GW at h; cases h
 | _::_,[],h=>by unfold GW at h; cases h
theorem L5{sc esc:Scope}{N:List Str}:∀{N':List Str} {js:List (Option Nat)},GW sc esc N N' js=true->∀{k:Nat} {x:Str} {j:Nat},N'[k]?=some x->js[k]?=some (some j) ->
  sc.names.lookup x=some .free/\N[j]?=some x/\(esc.names.lookup x=some .cell\/esc.names.lookup x=some .free)
 | [],_,_,k,x,j,h1,_=>by simp at h1
 | _::_,[],h,_,_,_,_,_=>by unfold GW at h; cases h
 | y::ys,some i::js,h,k,x,j,h1,h2=>by
  unfold GW at h
  rw [Bool.and_eq_true,Bool.and_eq_true,Bool.and_eq_true] at h
  cases k with
  | zero =>
   simp at h1 h2
   subst h1 h2
   exact⟨Qq h.1.1.1,Vm h.1.1.2,PR h.1.2⟩
  | succ k=>exact L5 h.2 (k:=k) (by simpa using h1) (by simpa using h2)
 | y::ys,none::js,h,k,x,j,h1,h2=>by
  unfold GW at h
  cases k with
  | zero=>simp at h2
  | succ k=>exact L5 h (k:=k) (by simpa using h1) (by simpa using h2)
theorem Ql{js:List (Option Nat)}{σ:St}{k:Nat}{v:V}(h:(C4 js σ)[k]?=some (some v)):∃j,js[k]?=some (some j)/\σ[j]?=some (some v):=by
 unfold C4 at h
 rw [List.getElem?_map] at h
 cases e:js[k]? with
 | none=>rw [e] at h; cases h
 | some o =>
  rw [e] at h
  cases o with
  | none=>cases h
  | some j =>
   refine⟨j,rfl,?_⟩
   have h':some ((σ[j]?).getD none)=some (some v):=h
   have h2:=Option.some.inj h'
   cases q:σ[j]? with
   | none=>rw [q] at h2; cases h2
   | some w=>rw [q] at h2; exact congrArg some h2
theorem DP{env:Env}:∀{names:List (Str×NameKind)} {x:Str},names.lookup x=some .free ->
  (names.map fun(n,k)=>if (k==NameKind.free&&env.scope.kind==.function&&env.kindOf n==some .cell) then (n,NameKind.cell) else (n,k)).lookup x=some .cell \/
  (names.map fun(n,k)=>if (k==NameKind.free&&env.scope.kind==.function&&env.kindOf n==some .cell) then (n,NameKind.cell) else (n,k)).lookup x=some .free
 | [],_,h=>by simp at h
 | (n,k)::r,x,h=>by
  have ih:=@DP env r x
  show List.lookup x ((if (k==NameKind.free&&env.scope.kind==.function&&env.kindOf n==some .cell)=true then (n,NameKind.cell) else (n,k))::_)=_\/List.lookup x ((if (k==NameKind.free&&env.scope.kind==.function&&env.kindOf n==some .cell)=true then (n,NameKind.cell) else (n,k))::_)=_
  by_cases hc:(k==NameKind.free&&env.scope.kind==.function&&env.kindOf n==some .cell)=true
  ·rw [if_pos hc]
   cases hx:x==n with
   | true=>exact .inl (by simp only [List.lookup_cons,hx])
   | false =>
    simp only [List.lookup_cons,hx] at h ⊢
    exact ih h
  ·rw [if_neg hc]
   cases hx:x==n with
   | true =>
    simp only [List.lookup_cons,hx] at h ⊢
    exact .inr h
   | false =>
    simp only [List.lookup_cons,hx] at h ⊢
    exact ih h
theorem N_{env:Env}{sc:Scope}(hcell:∀y∈sc.names,y.2≠.cell){x:Str}(h:(relabel sc env).names.lookup x=some .cell\/(relabel sc env).names.lookup x=some .free):(x,NameKind.free)∈sc.names:=by
 have hm:(x,NameKind.cell)∈(relabel sc env).names\/(x,NameKind.free)∈(relabel sc env).names:=h.elim (λz=>.inl (PySem.mem_of_lookup z)) λz=>.inr (PySem.mem_of_lookup z)
 have go:∀k:NameKind,(k=.cell\/k=.free)->(x,k)∈(relabel sc env).names->(x,NameKind.free)∈sc.names:=by
  intro k hk hmem
  unfold relabel at hmem
  obtain⟨⟨n,k0⟩,hn,e⟩:=List.mem_map.mp hmem
  by_cases hc:(k0==NameKind.free&&env.scope.kind==.function&&env.kindOf n==some .cell)=true
  ·have e':(n,NameKind.cell)=(x,k):=by
    have:=e
    simp only [hc,if_true] at this
    exact this
   have hk0:k0=.free:=by
    rw [Bool.and_eq_true,Bool.and_eq_true] at hc
    simpa using hc.1.1
   cases e'
   subst hk0
   exact hn
  ·have e':(n,k0)=(x,k):=by
    have:=e
    simp only [hc,if_false] at this
    exact this
   cases e'
   rcases hk with rfl | rfl
   ·exact absurd rfl (hcell _ hn)
   ·exact hn
 exact hm.elim (go _ (.inl rfl)) (go _ (.inr rfl))
section
variable {X:Cx}{pins:List (Addr×Obj)}{σ:St}{H:Hp}{s:Shared}
structure CompOk (X:Cx) (sc:Scope) (N':List Str) (js:List (Option Nat)):Prop where
 kind:sc.kind=.function
 cell:∀y∈sc.names,y.2≠.cell
 free:∀x,(x,NameKind.free)∈sc.names->X.env.scope.names.lookup x=some .cell\/X.env.scope.names.lookup x=some .free
 names:∀y∈sc.names,y.2=.local->sc.names.lookup y.1=some .local
 cap:GW sc X.env.scope X.N N' js=true
theorem CompOk.of{sc:Scope}{N':List Str}{js:List (Option Nat)}(h:Hb sc X.env.scope X.N N' js=true):CompOk X sc N' js:=by
 unfold Hb at h
 rw [Bool.and_eq_true,Bool.and_eq_true,List.all_eq_true] at h
 obtain⟨⟨h1,h2⟩,h3⟩:=h
 refine⟨SS h1,λy hy e=>?_,λx hx=>?_,λy hy e=>?_,h3⟩
 ·have q:=h2 y hy
  unfold X0 at q
  rw [e] at q
  cases q
 ·have q:=h2 _ hx
  exact PR q
 ·have q:=h2 y hy
  unfold X0 at q
  rw [e] at q
  exact SQ q
theorem NI{sc:Scope}{N':List Str}{js:List (Option Nat)}{cl:List (Str×Addr)}{fp:List Addr}{h₁:Heap}{tk:Nat}(I:Inv X pins σ H s)(hc:X.calm=true)(O:CompOk X sc N' js)
  (hcl:∀x c,cl.lookup x=some c->X.env.cells.lookup x=some c) (hcl2:∀x,(x,NameKind.free)∈sc.names->∃c,cl.lookup x=some c)
  (hf:∀b∈fp,Gm X pins H b) (ho:∀b∈fp,∃o,s.heap.get? b=some o)
  (hns:h₁.Ns (s.heap.objs.size+1) (λ_=>none)) (hk:∀b o,s.heap.get? b=some o->h₁.get? b=some o) (hD:∃n,h₁.get? s.heap.objs.size=some { cls:=.type "list",data:=.seq #[] n }) :
  Inv (A4 X sc N' cl (s.heap.objs.size+1) s H fp) [] (C4 js σ) (BG H s.heap.objs.size (.lst [])) { s with heap:=h₁,toks:=tk }:=by
 have fr:∀a,s.heap.objs.size<=a->H a=none:=λa ha=>I.hok.fresh ha
 have cellLt:∀x c,cl.lookup x=some c->c<s.heap.objs.size:=λx c e=>by
  obtain⟨v,q⟩:=I.cell x c (hcl x c e)
  exact q.lt
 have ok:(A4 X sc N' cl (s.heap.objs.size+1) s H fp).Ok:=by
  refine⟨I.ok.mod,O.kind,I.ok.glob,I.ok.blt,Nat.le_succ _,λx y c h1 h2=>I.ok.inj x y c (hcl x c h1) (hcl y c h2),λx hx=>?_,λx c hx=>?_,λ_=>I.ok.hd hc,I.ok.frames,.inl rfl,λb hb=>⟨?_,λx c e=>?_⟩,I.bs,Nat.le_trans I.ok.bsz I.sz,λb o e hb=>?_,λb hb hb2=>?_,I.stack,I.stkFree⟩
  ·exact hcl2 x (N_ (env:=X.env) O.cell hx)
  ·exact absurd (show false=true from hx) Bool.false_ne_true
  ·obtain⟨o,e⟩:=ho b hb
   exact Nat.ne_of_lt (Nat.lt_succ_of_lt (Heap.lt_size e))
  ·exact(hf b hb).2.2.2.2.1 x c (hcl x c e)
  ·rcases (hf b hb).2.2.2.1 with z | z
   ·exact I.ok.noex b o e z
   ·have h1:b<X.base.objs.size:=Heap.lt_size e
    exact absurd (Nat.lt_of_lt_of_le h1 (Nat.le_trans I.ok.bsz z)) (Nat.lt_irrefl _)
  ·rcases List.mem_cons.mp (I.stkSub b hb2) with z | z
   ·exact(hf b hb).2.1 z
   ·exact(hf b hb).2.2.1 z
 refine⟨ok,rfl,I.bare,?_,⟨_,hns,λi x v h1 h2 h3=>?_⟩,λx c e=>?_,?_,λx c e=>?_,λp hp=>absurd (show p∈([]:List (Addr×Obj)) from hp) (by simp),?_,?_⟩
 ·exact Un.laid hk (Nat.le_refl _) (fr _ (Nat.le_refl _))
 ·obtain⟨j,e1,e2⟩:=Ql h2
  obtain⟨c1,c2,c3⟩:=L5 O.cap h1 e1
  obtain⟨m,_,hl⟩:=I.loc
  obtain⟨u,r,l⟩:=hl j x v c2 e2 (.inr c3)
  refine⟨u,r,.inr ⟨DP c1,?_⟩⟩
  rcases l with ⟨l1,_⟩ | ⟨_,c,l2,l3⟩
  ·have l1':X.env.scope.names.lookup x=some .local:=l1
   rcases c3 with c3 | c3 <;> (rw [l1'] at c3; cases c3)
  ·obtain⟨c',e'⟩:=hcl2 x (PySem.mem_of_lookup c1)
   have:c'=c:=Option.some.inj ((hcl x c' e').symm.trans l2)
   subst this
   obtain⟨oc,hoc,hocd⟩:=id l3
   exact⟨c',e',oc,hk _ _ hoc,hocd⟩
 ·obtain⟨v,oc,hoc,hocd⟩:=I.cell x c (hcl x c e)
  exact⟨v,oc,hk _ _ hoc,hocd⟩
 ·show BG H s.heap.objs.size (.lst []) (s.heap.objs.size+1)=none
  rw [AT (Nat.succ_ne_self _)]
  exact fr _ (Nat.le_succ _)
 ·show BG H s.heap.objs.size (.lst []) c=none
  rw [AT (Nat.ne_of_lt (cellLt x c e))]
  exact I.freeC x c (hcl x c e)
 ·refine I.hok.laid hk (Nat.le_refl _) ?_
  obtain⟨n,e⟩:=hD
  exact⟨Nat.zero_le _,[],n,.nil,e⟩
 ·unfold C4
  show (js.map _).length=N'.length
  rw [List.length_map]
  exact E5 O.cap
theorem Un.but{fs ex:List Addr}{H H1:Hp}{h h1 h':Heap}{C:Addr}(u:Un fs ex H H1 h h1)(hC:h.get? C=none)(hs:∀b,b≠C->h'.get? b=h1.get? b):Un fs ex H H1 h h':=by
 have ne:∀{b:Addr} {o:Obj},h.get? b=some o->b≠C:=λ{b o} e z=>by rw [z,hC] at e; cases e
 refine⟨λb o e n h1 h2=>(hs b (ne e)).trans (u.keep b o e n h1 h2),λb o e n h1 h2=>?_,u.free,λb o e h1=>?_,u.tups,u.frzs,u.tbls⟩
 ·obtain⟨sl,q⟩:=u.slot b o e n h1 h2
  exact⟨sl,(hs b (ne e)).trans q⟩
 ·obtain⟨o',q⟩:=u.there b o e h1
  exact⟨o',(hs b (ne e)).trans q⟩
theorem JG{sc:Scope}{N':List Str}{cl:List (Str×Addr)}{C:Addr}{fp:List Addr}{pins':List (Addr×Obj)}{σ':St}{H':Hp}{s':Shared}{h':Heap}(I:Inv X pins σ H s)(hf:∀b∈fp,Gm X pins H b)(hC:s.heap.objs.size<=C)
  (J:Inv (A4 X sc N' cl C s H fp) pins' σ' H' s') (hs:∀b,b≠C->h'.get? b=s'.heap.get? b):Inv X pins σ H' { s' with heap:=h' }:=by
 have nC:s.heap.get? C=none:=by
  cases e:s.heap.get? C with
  | none=>rfl
  | some o=>exact absurd (Heap.lt_size e) (Nat.not_lt.mpr hC)
 have hC':H' C=none:=J.free
 refine I.call' (s':={ s' with heap:=h' }) (ch:=fp) J.os (Un.but J.base nC hs) (λa o e=>?_) J.bare λb hb=>?_
 ·exact(J.hok a o e).stay (λb u hb q=>(hs b (λz=>by
   rw [z] at hb
   rcases hb with z2 | z2
   ·rw [← z2,hC'] at e; cases e
   ·rw [hC'] at z2; cases z2)).trans q) (λ_ q=>q) λ_ _ q=>q
 ·obtain⟨f0,f1,f2,f3,f4,f5⟩:=hf b hb
  exact⟨f3,f1,f4,f5⟩
end
def XS(X:Cx)(ifs:List Expr)(t:TT):Prop :=
 ∀(pins:List (Addr×Obj)) (s:Shared) (σ:St) (H:Hp) (Q:Bool->Hp->Prop),Inv X pins σ H s->t σ H Q ->
  wpAny (model X.prog X.w) X.A (forIn ifs true λc r=>if r=true then do let ok ← isTrue c X.env (eval c X.env); pure (ForInStep.yield ok) else pure (ForInStep.yield r)) (TP X pins σ Q) X.xe s
def Xr:TT:=λ_ H Q=>Q true H
theorem TR{X:Cx}:XS X [] Xr:=λpins s σ H Q I h=>wpAny_tests_nil ⟨H,I,h⟩
theorem TQ{X:Cx}{c:Expr}{t:TT}(h:PT X c t):XS X [c] t:=λpins s σ H Q I q=>wpAny_tests_one (h pins s σ H Q I q)
def RP(X:Cx)(sc:Scope)(N':List Str)(js:List (Option Nat))(tg elt:Expr)(ifs:List Expr)(wi:TI):TE:=λσ H Q=>wi σ H λJ H1=>∀l,H1 l=none->X.K.lookup l=none->∀cl C s H0 fp,∃(g:TG) (tt:TT) (te:TE) (W:Nat->Nat->St->Hp->Prop),
 PG (A4 X sc N' cl C s H0 fp) tg g/\XS (A4 X sc N' cl C s H0 fp) ifs tt/\PE (A4 X sc N' cl C s H0 fp) elt te/\(∃m,W 0 m (C4 js σ) (BG H1 l (.lst [])))/\∀i m σ' H',W i m σ' H' ->
 (J.stop i H'/\Q (.ref l) H')\/(J.go i H'/\∀x H2,J.yld i H' x H2->g x σ' H2 λσ3 H3=>tt σ3 H3 λb H4=>if b=true then te σ3 H4 λy H5=>∃ys,H5 l=some (.lst ys)/\ys.length<sizeLine/\∃m',m'<m/\W (i+1) m' σ3 (BG H5 l (.lst (ys++[y]))) else ∃m',m'<m/\W (i+1) m' σ3 H4)
section
variable {X:Cx}{tg elt iter:Expr}{ifs:List Expr}{sc:Scope}{pos:Pos}{N':List Str}{js:List (Option Nat)}{wi:TI}{g:TG}{tt:TT}{te:TE}
theorem Kk{pins:List (Addr×Obj)}{σ:St}{H:Hp}{s:Shared}{cl:List (Str×Addr)}{C l it:Addr}{fp:List Addr}{tn:Nat->Heap->Prop}{J:It}{s3:Shared}{Q:VK}{R:Result->Shared->Prop}{W:Nat->Nat->St->Hp->Prop}{m0:Nat}{σ0:St}{H0:Hp}
  (I:Inv X pins σ H s) (hf:∀b∈fp,Gm X pins H b) (hlt:∀b∈fp,b<s.heap.objs.size) (hC:s.heap.objs.size<=C)
  (T:Turn X.prog X.w X.K tg J fp it tn)
  (hg:PG (A4 X sc N' cl C s H fp) tg g) (ht:XS (A4 X sc N' cl C s H fp) ifs tt) (he:PE (A4 X sc N' cl C s H fp) elt te)
  (hW:∀i m σ' H',W i m σ' H' ->
   (J.stop i H'/\Q (.ref l) H')\/(J.go i H'/\∀x H2,J.yld i H' x H2->g x σ' H2 λσ3 H3=>tt σ3 H3 λb H4=>if b=true then te σ3 H4 λy H5=>∃ys,H5 l=some (.lst ys)/\ys.length<sizeLine/\∃m',m'<m/\W (i+1) m' σ3 (BG H5 l (.lst (ys++[y]))) else ∃m',m'<m/\W (i+1) m' σ3 H4))
  (hR:∀σ' H' s',Inv (A4 X sc N' cl C s H fp) [] σ' H' s'->Q (.ref l) H'->R (.ok .next) s')
  (I3:Inv (A4 X sc N' cl C s H fp) [] σ0 H0 s3) (t3:tn 0 s3.heap) (f3:∀b∈fp,H0 b=none) (w0:W 0 m0 σ0 H0) :
  codeAny (model X.prog X.w) X.A (.compLoop (.ListComp elt [⟨tg,iter,ifs,0⟩] sc pos) 0 (.ref it) (.ref l) (compEnvC sc cl C X.env)) R s3:=by
 have stat:∀{H':Hp},(∀b∈fp,H' b=none)->∀b∈fp,Gm (A4 X sc N' cl C s H fp) [] H' b:=λhn b hb=>by
  have q:=I3.ok.exf b hb
  refine⟨hn b hb,q.1,I3.ok.exfs b hb,.inl hb,q.2,λp hp=>absurd (show p∈([]:List (Addr×Obj)) from hp) (by simp)⟩
 refine L4 (λn s'=>∃i σ' H',Inv (A4 X sc N' cl C s H fp) [] σ' H' s'/\tn i s'.heap/\(∀b∈fp,H' b=none)/\W i n σ' H') ?_ m0 ⟨0,σ0,H0,I3,t3,f3,w0⟩
 rintro n s4 ⟨i,σ4,H4,I4,st4,fr4,w4⟩
 rcases hW i n σ4 H4 w4 with ⟨stop,qn⟩ | ⟨go,step⟩
 ·refine thn (T.done (A4 X sc N' cl C s H fp) rfl rfl rfl rfl i [] s4 σ4 H4 (λ_ _=>False) I4 (stat fr4) st4 stop) λr s5 ⟨hr,I5⟩=>?_
  subst hr
  exact hR σ4 H4 s5 I5 qn
 ·refine thn (T.item (A4 X sc N' cl C s H fp) rfl rfl rfl rfl i [] s4 σ4 H4 (λ_ _=>False) I4 (stat fr4) st4 go) λr s5 ⟨u,hr,h5⟩=>?_
  subst hr
  refine thn h5 λ_ s6 ⟨x,H6,I6,r6,y6,st6,fr6⟩=>?_
  have I6':=I6.pinned (stat fr6) (T.obj _ _ st6)
  refine thn (hg _ s6 σ4 H6 x u _ I6' r6 (step x H6 y6)) λ_ s7 ⟨σ7,H7,I7,q7⟩=>?_
  have again:∀{σ9:St} {H9:Hp} {s9:Shared} {m':Nat},Inv (A4 X sc N' cl C s H fp) ([]++Iq fp s6.heap) σ9 H9 s9->m'<n->W (i+1) m' σ9 H9->∃m,m<n/\∃i σ' H',Inv (A4 X sc N' cl C s H fp) [] σ' H' s9/\tn i s9.heap/\(∀b∈fp,H' b=none)/\W i m σ' H':=λ{σ9 H9 s9 m'} I9 hm w9=>by
   refine⟨m',hm,i+1,σ9,H9,I9.unpinned,T.keep _ _ _ st6 λb hb o e=>(I9.pin (b,o) (List.mem_append_right _ (List.mem_append_right _ (EO hb e)))).1,λb hb=>?_,w9⟩
   obtain⟨o,e,d⟩:=T.obj _ _ st6 b hb
   exact(I9.pin (b,o) (List.mem_append_right _ (List.mem_append_right _ (EO hb e)))).2.1
  refine thn (ht _ s7 σ7 H7 _ I7 q7) λok s8 ⟨H8,I8,q8⟩=>?_
  cases ok with
  | false =>
   have q8':∃m',m'<n/\W (i+1) m' σ7 H8:=q8
   obtain⟨m',hm,w8⟩:=q8'
   show ∃m,m<n/\_
   exact again I8 hm w8
  | true =>
   refine thn (he _ s8 σ7 H8 _ I8 q8) λy s9 ⟨yv,H9,I9,ry,q9⟩=>?_
   obtain⟨ys,hl,hz,m',hm,w9⟩:=q9
   refine thn (DY (X:=A4 X sc N' cl C s H fp) _ s9 σ7 H9 (.ref l) [yv] (.ref l) [y] (λv H'=>v=.non/\H'=BG H9 l (.lst (ys++[yv]))) I9 rfl (.cons ry .nil) ⟨l,ys,yv,rfl,rfl,hl,hz,rfl,rfl⟩) λ_ sa ⟨v,Ha,Ia,_,_,eH⟩=>?_
   subst eH
   exact again Ia hm w9
theorem TX(hc:X.calm=true)(N':List Str)(js:List (Option Nat))(hi:PI X tg iter wi)
  (hB:Hb sc X.env.scope X.N N' js=true)
  (hs:∀x,foldedSetIterable iter X.env x=pure x:=by intro _; rfl) :
  PE X (.ListComp elt [⟨tg,iter,ifs,0⟩] sc pos) (RP X sc N' js tg elt ifs wi):=by
 intro pins s σ H Q I h
 have O:CompOk X sc N' js:=CompOk.of hB
 obtain⟨cl,hclos,hcl,hcl2⟩:=JV (scope:=sc) (env:=X.env) λx hx=>I.ok.has x (O.free x hx)
 rw [eval_ListComp]
 refine wpAny_comprehension_free (use:=none) rfl hs hclos O.kind O.names (thn (hi pins s σ H _ I h) λv s1 h1=>thn h1 λitv s2 h2=>?_)
 obtain⟨it,fp,tn,J,H2,e,I2,T,st2,f2,hq⟩:=h2
 subst e
 have kfree:X.K.lookup s2.heap.objs.size=none:=by
  cases q:X.K.lookup s2.heap.objs.size with
  | none=>rfl
  | some o=>exact absurd (Heap.lt_size (I2.kIn _ _ q)) (Nat.lt_irrefl _)
 obtain⟨g,tt,te,W,hg,ht,he,⟨m0,w0⟩,hW⟩:=hq s2.heap.objs.size (I2.hok.fresh (Nat.le_refl _)) kfree cl (s2.heap.objs.size+1) s2 H2 fp
 refine wpAny_newObj_type (wpAny_newFunctionEnv O.cell (by intro y hy; simp at hy) (λh₁ hns₁ hsb₁=>?_) O.kind)
 dsimp only at hns₁ hsb₁ ⊢
 generalize hH2:s2.heap.push { cls:=.type "list",dict:=none,data:=.seq ([]:List Value).toArray }=Hh at hns₁ hsb₁ ⊢
 have hCe:Hh.objs.size=s2.heap.objs.size+1:=by rw [← hH2,Heap.size_push]
 have hlt:∀b∈fp,b<s2.heap.objs.size:=λb hb=>by
  obtain⟨o,e,_⟩:=T.obj _ _ st2 b hb
  exact Heap.lt_size e
 have old:∀b o,s2.heap.get? b=some o->h₁.get? b=some o:=λb o e=>hsb₁.extBut b o (by rw [hCe]; exact Nat.ne_of_lt (Nat.lt_succ_of_lt (Heap.lt_size e))) (Heap.get?_push_of_some _ (hH2▸Heap.get?_push_of_some _ e))
 have hD:∃n,h₁.get? s2.heap.objs.size=some { cls:=.type "list",data:=.seq #[] n }:=⟨_,hsb₁.extBut _ _ (by rw [hCe]; exact Nat.ne_of_lt (Nat.lt_succ_self _)) (Heap.get?_push_of_some _ (hH2▸Heap.get?_push_size _ rfl))⟩
 have I3:∀tk,Inv (A4 X sc N' cl (s2.heap.objs.size+1) s2 H2 fp) [] (C4 js σ) (BG H2 s2.heap.objs.size (.lst [])) { s2 with heap:=h₁,toks:=tk }:=λtk =>
  NI I2 hc O hcl hcl2 f2 (λb hb=>let ⟨o,e,_⟩:=T.obj _ _ st2 b hb; ⟨o,e⟩) (by rw [← hCe]; exact hns₁) old hD
 have st3:tn 0 h₁:=T.keep _ _ _ st2 λb hb o e=>old b o e
 have fr3:∀b∈fp,BG H2 s2.heap.objs.size (.lst []) b=none:=λb hb=>by
  rw [AT (Nat.ne_of_lt (hlt b hb))]
  exact(f2 b hb).1
 have loop:∀tk,codeAny (model X.prog X.w) X.A (.compLoop (.ListComp elt [⟨tg,iter,ifs,0⟩] sc pos) 0 (.ref it) (.ref s2.heap.objs.size) (compEnvC sc cl (s2.heap.objs.size+1) X.env))
   (compPost (model X.prog X.w) X.A X.xe none (EP X pins σ Q) (.ref s2.heap.objs.size) (s2.heap.objs.size+1)) { s2 with heap:=h₁,toks:=tk }:=λtk=>by
  refine Kk (W:=W) (m0:=m0) (Q:=Q) I2 f2 hlt (Nat.le_succ _) T hg ht he hW (λσ' H' s' J' q'=>?_) (I3 tk) st3 fr3 w0
  obtain⟨m,hn,_⟩:=J'.loc
  exact⟨m,hn,λh' hs'=>⟨.ref _,H',JG I2 f2 (Nat.le_succ _) J' λb hb=>hs'.2 b hb,rfl,q'⟩⟩
 rw [show (newEnv sc Hh.objs.size X.env.globals cl X.env.qual none .none (some X.env) builtinsNs).locals=s2.heap.objs.size+1 from hCe]
 show codeAny (model X.prog X.w) X.A (.compStart (.ListComp elt [⟨tg,iter,ifs,0⟩] sc pos) 0 (.ref it) (.ref s2.heap.objs.size) (compEnvC sc cl (s2.heap.objs.size+1) X.env)) _ _
 exact codeAny_compStart_list (loop _) (T.self _ 0 _ _ _ st3 (loop _))
end
end L2
namespace Dp
open PySem PySem.Spec PyProof.Rows L2
inductive D where
 | non | bl (b:Bool) | int (i:Int) | str (x:Str) | tup (xs:List D) | lst (xs:List D) | dic (ks:List Key) (xs:List D) | fdi (ks:List Key) (xs:List D) | dit (ks:List (List Key)) (xs:List D)
 deriving Inhabited
def NdT(M:Addr->Prop)(H:Hp)(a:Addr)(vs:List V):Prop:=H a=some (.tup vs)
def NdL(M:Addr->Prop)(H:Hp)(a:Addr)(vs:List V):Prop:=¬M a/\H a=some (.lst vs)
def NdD(M:Addr->Prop)(H:Hp)(a:Addr)(ks:List Key)(vs:List V):Prop:=¬M a/\H a=some (.dK (ks.zip vs))
def NdF(M:Addr->Prop)(H:Hp)(a:Addr)(ks:List Key)(vs:List V):Prop:=∃o,¬M a/\H a=some (.frz o (.dK (ks.zip vs)))
def NdU(M:Addr->Prop)(H:Hp)(a:Addr)(ks:List (List Key))(vs:List V):Prop:=¬M a/\H a=some (.dT (ks.zip vs))
mutual
def At(K:Frag)(M:Addr->Prop)(H:Hp):D->V->Prop
 | .non,v=>v=.non
 | .bl b,v=>v=.bl b
 | .int i,v=>v=.int i
 | .str x,v=>v=.str x/\x.length<=sizeLine
 | .tup ds,v=>∃a vs,v=.ref a/\NdT M H a vs/\Ats K M H ds vs
 | .lst ds,v=>∃a vs,v=.ref a/\NdL M H a vs/\Ats K M H ds vs
 | .dic ks ds,v=>∃a vs,v=.ref a/\NdD M H a ks vs/\ks.length=ds.length/\Ats K M H ds vs
 | .fdi ks ds,v=>∃a vs,v=.ref a/\NdF M H a ks vs/\ks.length=ds.length/\Ats K M H ds vs
 | .dit ks ds,v=>∃a vs,v=.ref a/\NdU M H a ks vs/\ks.length=ds.length/\Ats K M H ds vs
def Ats(K:Frag)(M:Addr->Prop)(H:Hp):List D->List V->Prop
 | [],vs=>vs=[]
 | d::ds,vs=>∃v r,vs=v::r/\At K M H d v/\Ats K M H ds r
end
section
variable {K:Frag}{M M':Addr->Prop}{H H':Hp}{a:Addr}{vs:List V}{ks:List Key}
theorem NdT.sq(h:NdT M H a vs):SqT K H a vs:=.inl (.inl h)
theorem NdL.sq(h:NdL M H a vs):SqL K H a vs:=.inl (.inl h.2)
def Pres(M:Addr->Prop)(H:Hp)(M':Addr->Prop)(H':Hp):Prop:=(∀b o,H b=some o->¬M b->H' b=some o)/\(∀b,M' b->M b\/H b=none)/\∀b vs,H b=some (.tup vs)->H' b=some (.tup vs)
theorem Pres.nd{u:HO}(p:Pres M H M' H')(n:¬M a)(h:H a=some u):¬M' a/\H' a=some u:=by
 refine⟨λz=>?_,p.1 _ _ h n⟩
 rcases p.2.1 a z with z | z
 ·exact n z
 ·rw [z] at h; cases h
theorem NdT.pres(p:Pres M H M' H')(h:NdT M H a vs):NdT M' H' a vs:=p.2.2 _ _ h
theorem NdL.pres(p:Pres M H M' H')(h:NdL M H a vs):NdL M' H' a vs:=p.nd h.1 h.2
theorem NdD.pres(p:Pres M H M' H')(h:NdD M H a ks vs):NdD M' H' a ks vs:=p.nd h.1 h.2
theorem NdU.pres{ks:List (List Key)}(p:Pres M H M' H')(h:NdU M H a ks vs):NdU M' H' a ks vs:=p.nd h.1 h.2
theorem NdF.pres(p:Pres M H M' H')(h:NdF M H a ks vs):NdF M' H' a ks vs:=let ⟨o,h1,h2⟩:=h; ⟨o,p.nd h1 h2⟩
mutual
theorem At.pres(p:Pres M H M' H'):∀{d:D} {v:V},At K M H d v->At K M' H' d v
 | .non,v,h=>h
 | .bl b,v,h=>h
 | .int i,v,h=>h
 | .str x,v,h=>h
 | .tup ds,v,h=>by
  obtain⟨a,vs,e,hn,hs⟩:=h
  exact⟨a,vs,e,hn.pres p,Ats.pres p hs⟩
 | .lst ds,v,h=>by
  obtain⟨a,vs,e,hn,hs⟩:=h
  exact⟨a,vs,e,hn.pres p,Ats.pres p hs⟩
 | .dic ks ds,v,h=>by
  obtain⟨a,vs,e,hn,hl,hs⟩:=h
  exact⟨a,vs,e,hn.pres p,hl,Ats.pres p hs⟩
 | .fdi ks ds,v,h=>by
  obtain⟨a,vs,e,hn,hl,hs⟩:=h
  exact⟨a,vs,e,hn.pres p,hl,Ats.pres p hs⟩
 | .dit ks ds,v,h=>by
  obtain⟨a,vs,e,hn,hl,hs⟩:=h
  exact⟨a,vs,e,hn.pres p,hl,Ats.pres p hs⟩
theorem Ats.pres(p:Pres M H M' H'):∀{ds:List D} {vs:List V},Ats K M H ds vs->Ats K M' H' ds vs
 | [],vs,h=>h
 | d::ds,vs,h=>by
  obtain⟨v,r,e,h1,h2⟩:=h
  exact⟨v,r,e,At.pres p h1,Ats.pres p h2⟩
end
theorem Pres.trans{M1 M2 M3:Addr->Prop}{H1 H2 H3:Hp}(p:Pres M1 H1 M2 H2)(q:Pres M2 H2 M3 H3):Pres M1 H1 M3 H3:=by
 refine⟨λb o e n=>?_,λb z=>?_,λb vs e=>q.2.2 b vs (p.2.2 b vs e)⟩
 ·refine q.1 b o (p.1 b o e n) λz=>?_
  rcases p.2.1 b z with z | z
  ·exact n z
  ·rw [z] at e; cases e
 ·rcases q.2.1 b z with z | z
  ·exact p.2.1 b z
  ·cases e:H1 b with
   | none=>exact .inr rfl
   | some o =>
    by_cases n:M1 b
    ·exact .inl n
    ·rw [p.1 b o e n] at z; cases z
theorem Pres.refl(M:Addr->Prop)(H:Hp):Pres M H M H:=⟨λ_ _ e _=>e,λ_ z=>.inl z,λ_ _ e=>e⟩
theorem Pres.less(h:∀b,M' b->M b):Pres M H M' H:=⟨λ_ _ e _=>e,λb z=>.inl (h b z),λ_ _ e=>e⟩
theorem Ats.length:∀{ds:List D} {vs:List V},Ats K M H ds vs->vs.length=ds.length
 | [],vs,h=>by cases h; rfl
 | d::ds,vs,h=>by
  obtain⟨v,r,e,h1,h2⟩:=h
  subst e
  rw [List.length_cons,List.length_cons,Ats.length h2]
theorem Ats.get:∀{ds:List D} {vs:List V} {i:Nat} {d:D},Ats K M H ds vs->ds[i]?=some d->∃v,vs[i]?=some v/\At K M H d v
 | [],vs,i,d,h,e=>by simp at e
 | d0::ds,vs,0,d,h,e=>by
  obtain⟨v,r,e1,h1,h2⟩:=h
  simp at e
  subst e e1
  exact⟨v,rfl,h1⟩
 | d0::ds,vs,i+1,d,h,e=>by
  obtain⟨v,r,e1,h1,h2⟩:=h
  subst e1
  obtain⟨u,e2,h3⟩:=Ats.get (i:=i) (d:=d) h2 (by simpa using e)
  exact⟨u,by simpa using e2,h3⟩
theorem Ats.append:∀{ds es:List D} {vs us:List V},Ats K M H ds vs->Ats K M H es us->Ats K M H (ds++es) (vs++us)
 | [],es,vs,us,h,g=>by cases h; exact g
 | d::ds,es,vs,us,h,g=>by
  obtain⟨v,r,e,h1,h2⟩:=h
  subst e
  exact⟨v,r++us,rfl,h1,Ats.append h2 g⟩
theorem Ats.drop:∀{ds:List D} {vs:List V} (n:Nat),Ats K M H ds vs->Ats K M H (ds.drop n) (vs.drop n)
 | ds,vs,0,h=>h
 | [],vs,n+1,h=>by cases h; exact rfl
 | d::ds,vs,n+1,h=>by
  obtain⟨v,r,e,h1,h2⟩:=h
  subst e
  exact Ats.drop n h2
theorem Ats.take:∀{ds:List D} {vs:List V} (n:Nat),Ats K M H ds vs->Ats K M H (ds.take n) (vs.take n)
 | ds,vs,0,h=>rfl
 | [],vs,n+1,h=>by cases h; exact rfl
 | d::ds,vs,n+1,h=>by
  obtain⟨v,r,e,h1,h2⟩:=h
  subst e
  exact⟨v,r.take n,rfl,h1,Ats.take n h2⟩
theorem Ats.one{d:D}{v:V}(h:At K M H d v):Ats K M H [d] [v]:=⟨v,[],rfl,h,rfl⟩
theorem Ats.eraseIdx:∀{ds:List D} {vs:List V} (i:Nat),Ats K M H ds vs->Ats K M H (ds.eraseIdx i) (vs.eraseIdx i)
 | [],vs,i,h=>by cases h; exact rfl
 | d0::ds,vs,0,h=>by
  obtain⟨u,r,e1,h1,h2⟩:=h
  subst e1
  exact h2
 | d0::ds,vs,i+1,h=>by
  obtain⟨u,r,e1,h1,h2⟩:=h
  subst e1
  exact⟨u,r.eraseIdx i,rfl,h1,Ats.eraseIdx i h2⟩
theorem Ats.reverse:∀{ds:List D} {vs:List V},Ats K M H ds vs->Ats K M H ds.reverse vs.reverse
 | [],vs,h=>by cases h; exact rfl
 | d::ds,vs,h=>by
  obtain⟨v,r,e,h1,h2⟩:=h
  subst e
  rw [List.reverse_cons,List.reverse_cons]
  exact Ats.append (Ats.reverse h2) (Ats.one h1)
end
inductive Kd where
 | sh | tp | fr
def Tops(K:Frag)(M:Addr->Prop)(H:Hp)(a:Addr):D->Prop
 | .lst ds=>∃vs,H a=some (.lst vs)/\Ats K M H ds vs
 | .dic ks ds=>∃vs,H a=some (.dK (ks.zip vs))/\ks.length=ds.length/\Ats K M H ds vs
 | .dit ks ds=>∃vs,H a=some (.dT (ks.zip vs))/\ks.length=ds.length/\Ats K M H ds vs
 | _=>False
theorem Tops.notT{K:Frag}{M:Addr->Prop}{H:Hp}{a:Addr}{d:D}(h:Tops K M H a d){vs:List V}:H a≠some (.tup vs):=λq=>by
 cases d with
 | lst ds=>obtain⟨us,e,_⟩:=h; rw [e] at q; cases q
 | dic ks ds=>obtain⟨us,e,_⟩:=h; rw [e] at q; cases q
 | dit ks ds=>obtain⟨us,e,_⟩:=h; rw [e] at q; cases q
 | _=>exact h.elim
theorem Tops.pres{K:Frag}{M M':Addr->Prop}{H H':Hp}{a:Addr}{d:D}(h:Tops K M H a d)(p:Pres M H M' H')(e:∀o,H a=some o->H' a=some o):Tops K M' H' a d:=by
 cases d with
 | lst ds=>obtain⟨vs,h1,h2⟩:=h; exact⟨vs,e _ h1,h2.pres p⟩
 | dic ks ds=>obtain⟨vs,h1,h2,h3⟩:=h; exact⟨vs,e _ h1,h2,h3.pres p⟩
 | dit ks ds=>obtain⟨vs,h1,h2,h3⟩:=h; exact⟨vs,e _ h1,h2,h3.pres p⟩
 | _=>exact(show False from h).elim
theorem Tops.at{K:Frag}{M:Addr->Prop}{H:Hp}{a:Addr}{d:D}(h:Tops K M H a d)(n:¬M a):At K M H d (.ref a):=by
 cases d with
 | lst ds=>obtain⟨vs,h1,h2⟩:=h; exact⟨a,vs,rfl,⟨n,h1⟩,h2⟩
 | dic ks ds=>obtain⟨vs,h1,h2,h3⟩:=h; exact⟨a,vs,rfl,⟨n,h1⟩,h2,h3⟩
 | dit ks ds=>obtain⟨vs,h1,h2,h3⟩:=h; exact⟨a,vs,rfl,⟨n,h1⟩,h2,h3⟩
 | _=>exact(show False from h).elim
def AtT(K:Frag)(U:Addr->Prop)(M:Addr->Prop)(H:Hp):D->V->Prop
 | .lst ds,v=>∃a vs,v=.ref a/\¬U a/\Rd H a (.lst vs)/\Ats K M H ds vs
 | .dic ks ds,v=>∃a vs,v=.ref a/\¬U a/\H a=some (.dK (ks.zip vs))/\ks.length=ds.length/\Ats K M H ds vs
 | .dit ks ds,v=>∃a vs,v=.ref a/\¬U a/\H a=some (.dT (ks.zip vs))/\ks.length=ds.length/\Ats K M H ds vs
 | d,v=>At K M H d v
theorem Tops.att{K:Frag}{U M:Addr->Prop}{H:Hp}{a:Addr}{d:D}(h:Tops K M H a d)(n:¬U a):AtT K U M H d (.ref a):=by
 cases d with
 | lst ds=>obtain⟨vs,h1,h2⟩:=h; exact⟨a,vs,rfl,n,.inl h1,h2⟩
 | dic ks ds=>obtain⟨vs,h1,h2,h3⟩:=h; exact⟨a,vs,rfl,n,h1,h2,h3⟩
 | dit ks ds=>obtain⟨vs,h1,h2,h3⟩:=h; exact⟨a,vs,rfl,n,h1,h2,h3⟩
 | _=>exact(show False from h).elim
def VR(K:Frag)(U:Addr->Prop)(M:Addr->Prop)(H H':Hp):Kd->V->D->Prop
 | .sh,v,d=>At K M H' d v
 | .tp,v,d=>AtT K U M H' d v
 | .fr,v,d=>∃a,v=.ref a/\H a=none/\Tops K (λb=>M b\/b=a) H' a d
def FeedOk(K:Frag)(M:Addr->Prop)(H:Hp)(f:Addr×Addr)(n:Nat):Prop :=
 ∃(at_ rest:Int) (cells:List Int),H f.1=some (.lst [.ref f.2,.int at_,.int rest])/\f.2≠f.1/\NdL M H f.2 (cells.map V.int)/\cells.length<=63/\0<=at_/\at_+n<=2 ^ 60
def FeedC(K:Frag)(F:Option (Addr×Addr))(M:Addr->Prop)(H:Hp)(n:Nat):Prop:=∀f,F=some f->FeedOk K M H f n
def Ext(U:Addr->Prop)(H H':Hp):Prop:=∀b o,H b=some o->∃o',H' b=some o'/\(¬U b->o'=o)/\∀vs,o=.tup vs->o'=o
theorem Ext.keep{U:Addr->Prop}{H H':Hp}(p:Ext U H H'){b:Addr}{o:HO}(e:H b=some o)(n:¬U b):H' b=some o:=by
 obtain⟨o',q,r,_⟩:=p b o e
 rw [q,r n]
theorem Ext.tup{U:Addr->Prop}{H H':Hp}(p:Ext U H H'){b:Addr}{vs:List V}(e:H b=some (.tup vs)):H' b=some (.tup vs):=by
 obtain⟨o',q,_,r⟩:=p b _ e
 rw [q,r vs rfl]
theorem Ext.free{U:Addr->Prop}{H H':Hp}(p:Ext U H H'){b:Addr}(e:H' b=none):H b=none:=by
 cases q:H b with
 | none=>rfl
 | some o =>
  obtain⟨o',z,_⟩:=p b o q
  rw [e] at z; cases z
theorem Ext.refl(U:Addr->Prop)(H:Hp):Ext U H H:=λ_ o e=>⟨o,e,λ_=>rfl,λ_ _=>rfl⟩
theorem Ext.trans{U:Addr->Prop}{H1 H2 H3:Hp}(p:Ext U H1 H2)(q:Ext U H2 H3):Ext U H1 H3:=λb o e=>by
 obtain⟨o',e1,r1,t1⟩:=p b o e
 obtain⟨o2,e2,r2,t2⟩:=q b o' e1
 exact⟨o2,e2,λn=>(r2 n).trans (r1 n),λvs z=>(t2 vs ((t1 vs z).trans z)).trans (t1 vs z)⟩
def Grow(H H':Hp):Prop:=H'=H\/∃p o,H p=none/\H'=BG H p o
theorem Grow.all{H H':Hp}(g:Grow H H'):∀b o,H b=some o->H' b=some o:=by
 intro b o e
 rcases g with rfl | ⟨p,u,n,rfl⟩
 ·exact e
 ·rw [AT (Ar e n)]; exact e
theorem Grow.refl{H:Hp}:Grow H H:=.inl rfl
theorem Grow.ext{U:Addr->Prop}{H H':Hp}(g:Grow H H'):Ext U H H':=λb o e=>⟨o,g.all b o e,λ_=>rfl,λ_ _=>rfl⟩
theorem Grow.pres{M:Addr->Prop}{H H':Hp}(g:Grow H H'):Pres M H M H':=⟨λb o e _=>g.all b o e,λ_ z=>.inl z,λb vs e=>g.all b _ e⟩
theorem FeedOk.pres{K:Frag}{M M':Addr->Prop}{H H':Hp}{f:Addr×Addr}{n:Nat}(h:FeedOk K M H f n)(p:Pres M H M' H')(e:∀o,H f.1=some o->H' f.1=some o):FeedOk K M' H' f n:=by
 obtain⟨a,r,cs,h1,h2,h3,h4⟩:=h
 exact⟨a,r,cs,e _ h1,h2,h3.pres p,h4⟩
theorem FeedC.pres{K:Frag}{F:Option (Addr×Addr)}{M M':Addr->Prop}{H H':Hp}{n:Nat}(h:FeedC K F M H n)(p:Pres M H M' H')(e:∀f o,F=some f->H f.1=some o->H' f.1=some o):FeedC K F M' H' n:=λf hf=>(h f hf).pres p λo q=>e f o hf q
theorem FeedC.grow{K:Frag}{F:Option (Addr×Addr)}{M:Addr->Prop}{H H':Hp}{n:Nat}(h:FeedC K F M H n)(g:Grow H H'):FeedC K F M H' n:=h.pres g.pres λf o _ e=>g.all f.1 o e
theorem FeedC.more{K:Frag}{F:Option (Addr×Addr)}{M:Addr->Prop}{H:Hp}{n:Nat}(h:FeedC K F M H n)(a:Addr)(ha:∀f,F=some f->f.2≠a):FeedC K F (λb=>M b\/b=a) H n:=λf hf=>by
 obtain⟨x,r,cs,h1,h2,h3,h4⟩:=h f hf
 exact⟨x,r,cs,h1,h2,⟨λz=>z.elim h3.1 (ha f hf),h3.2⟩,h4⟩
inductive Slot where
 | no | sh (d:D) | br (d:D) | fd | ow (d:D) | lt (a:Addr) (d:D)
def Slot.owns:Slot->Bool
 | .ow _=>true
 | .lt _ _=>true
 | _=>false
def SlotOk(K:Frag)(F:Option (Addr×Addr))(U:Addr->Prop)(M:Addr->Prop)(H:Hp):Slot->Option V->Prop
 | .no,_=>True
 | .sh d,o=>∃v,o=some v/\At K M H d v
 | .br d,o=>∃v,o=some v/\AtT K U M H d v
 | .fd,o=>∃f,o=some (.ref f.1)/\F=some f
 | .ow d,o=>∃a,o=some (.ref a)/\M a/\¬U a/\Tops K M H a d
 | .lt a d,o=>o=some (.ref a)/\M a/\¬U a/\Tops K M H a d
structure Fm where
 M0:Addr->Prop
 F:Option (Addr×Addr)
 U:Addr->Prop
 V:Addr->Prop
 H0:Hp
 pins:List ((Addr->Prop)×Hp)
 kp:List (Addr×HO)
def Apart(ρ:List Slot)(σ:L2.St):Prop:=∀(i j:Nat) (s t:Slot) (a:Addr),ρ[i]?=some s->s.owns=true->ρ[j]?=some t->t.owns=true->(σ[i]?).getD none=some (.ref a)->(σ[j]?).getD none=some (.ref a)->i=j
structure Rel (K:Frag) (C:Fm) (M:Addr->Prop) (H:Hp) (n:Nat) (ρ:List Slot) (σ:L2.St):Prop where
 len:ρ.length=σ.length
 sub:∀a,C.M0 a->M a
 dom:∀a,M a->∃o,H a=some o
 ext:Ext C.U C.H0 H
 fU:∀f,C.F=some f->C.U f.1
 uV:∀a,C.U a->C.V a
 vM:∀a,C.V a->M a
 feed:FeedC K C.F M H n
 sl:∀(i:Nat) (s:Slot),ρ[i]?=some s->SlotOk K C.F C.V M H s ((σ[i]?).getD none)
 pin:∀p∈C.pins,Pres p.1 p.2 M H
 br0:∀(i:Nat) (d:D) (a:Addr),ρ[i]?=some (.br d)->(σ[i]?).getD none=some (.ref a)->∃o,C.H0 a=some o
 new:∀(i:Nat) (s:Slot) (a:Addr),ρ[i]?=some s->s.owns=true->(σ[i]?).getD none=some (.ref a)->¬C.M0 a/\C.H0 a=none
 two:Apart ρ σ
 kept:∀p∈C.kp,H p.1=some p.2/\M p.1/\¬C.V p.1/\∀(i:Nat) (d:D),ρ[i]?=some (.ow d)->(σ[i]?).getD none≠some (.ref p.1)
section
variable {K:Frag}{C:Fm}{M:Addr->Prop}{H H':Hp}{n n':Nat}{ρ:List Slot}{σ:L2.St}{d:D}{v:V}{κ:Kd}
theorem Rel.pres(R:Rel K C M H n ρ σ)(e:Ext C.U H H'):Pres M H M H':=⟨λb o q nb=>e.keep q λz=>nb (R.vM b (R.uV b z)),λ_ z=>.inl z,λb vs q=>e.tup q⟩
theorem AtT.pres{U V':Addr->Prop}{M':Addr->Prop}(h:AtT K V' M H d v)(p:Pres M H M' H')(e:Ext U H H')(uV:∀a,U a->V' a):AtT K V' M' H' d v:=by
 cases d with
 | lst ds =>
  obtain⟨a,vs,e1,n1,hq,hs⟩:=h
  refine⟨a,vs,e1,n1,?_,hs.pres p⟩
  rcases hq with hq | ⟨o,hq⟩
  ·exact .inl (e.keep hq λz=>n1 (uV a z))
  ·exact .inr ⟨o,e.keep hq λz=>n1 (uV a z)⟩
 | dic ks ds =>
  obtain⟨a,vs,e1,n1,hq,hl,hs⟩:=h
  exact⟨a,vs,e1,n1,e.keep hq λz=>n1 (uV a z),hl,hs.pres p⟩
 | dit ks ds =>
  obtain⟨a,vs,e1,n1,hq,hl,hs⟩:=h
  exact⟨a,vs,e1,n1,e.keep hq λz=>n1 (uV a z),hl,hs.pres p⟩
 | non=>exact At.pres (K:=K) p (d:=.non) h
 | bl b=>exact At.pres (K:=K) p (d:=.bl b) h
 | int i=>exact At.pres (K:=K) p (d:=.int i) h
 | str x=>exact At.pres (K:=K) p (d:=.str x) h
 | tup ds=>exact At.pres (K:=K) p (d:=.tup ds) h
 | fdi ks ds=>exact At.pres (K:=K) p (d:=.fdi ks ds) h
theorem AtT.same{U V':Addr->Prop}{M':Addr->Prop}(h:AtT K U M H d v)(p:Pres M H M' H')(e:∀a o,v=.ref a->H a=some o->H' a=some o)(nv:∀a,v=.ref a->¬U a->¬V' a):AtT K V' M' H' d v:=by
 cases d with
 | lst ds =>
  obtain⟨a,vs,e1,n1,hq,hs⟩:=h
  refine⟨a,vs,e1,nv a e1 n1,?_,hs.pres p⟩
  rcases hq with hq | ⟨o,hq⟩
  ·exact .inl (e a _ e1 hq)
  ·exact .inr ⟨o,e a _ e1 hq⟩
 | dic ks ds =>
  obtain⟨a,vs,e1,n1,hq,hl,hs⟩:=h
  exact⟨a,vs,e1,nv a e1 n1,e a _ e1 hq,hl,hs.pres p⟩
 | dit ks ds =>
  obtain⟨a,vs,e1,n1,hq,hl,hs⟩:=h
  exact⟨a,vs,e1,nv a e1 n1,e a _ e1 hq,hl,hs.pres p⟩
 | non=>exact At.pres (K:=K) p (d:=.non) h
 | bl b=>exact At.pres (K:=K) p (d:=.bl b) h
 | int i=>exact At.pres (K:=K) p (d:=.int i) h
 | str x=>exact At.pres (K:=K) p (d:=.str x) h
 | tup ds=>exact At.pres (K:=K) p (d:=.tup ds) h
 | fdi ks ds=>exact At.pres (K:=K) p (d:=.fdi ks ds) h
theorem AtT.lies{U:Addr->Prop}{a:Addr}(h:AtT K U M H d (.ref a)):∃o,H a=some o:=by
 cases d with
 | lst ds =>
  obtain⟨b,vs,e,_,hq,_⟩:=h
  cases e
  rcases hq with hq | ⟨o,hq⟩
  ·exact⟨_,hq⟩
  ·exact⟨_,hq⟩
 | dic ks ds =>
  obtain⟨b,vs,e,_,hq,_⟩:=h
  cases e
  exact⟨_,hq⟩
 | dit ks ds =>
  obtain⟨b,vs,e,_,hq,_⟩:=h
  cases e
  exact⟨_,hq⟩
 | non=>cases (show V.ref a=.non from h)
 | bl b=>cases (show V.ref a=.bl b from h)
 | int i=>cases (show V.ref a=.int i from h)
 | str x=>cases (show V.ref a=.str x/\_ from h).1
 | tup ds =>
  obtain⟨b,vs,e,hq,_⟩:=h
  cases e
  exact⟨_,hq⟩
 | fdi ks ds =>
  obtain⟨b,vs,e,⟨o,_,hq⟩,_⟩:=h
  cases e
  exact⟨_,hq⟩
theorem SlotOk.pres{F:Option (Addr×Addr)}{U V' M':Addr->Prop}{s:Slot}{o:Option V}(h:SlotOk K F V' M H s o)(p:Pres M H M' H')(m:∀a,M a->M' a)(e:Ext U H H')(uV:∀a,U a->V' a):SlotOk K F V' M' H' s o:=by
 cases s with
 | no=>trivial
 | sh d=>obtain⟨v,e1,h1⟩:=h; exact⟨v,e1,h1.pres p⟩
 | br d=>obtain⟨v,e1,h1⟩:=h; exact⟨v,e1,h1.pres p e uV⟩
 | fd=>exact h
 | ow d=>obtain⟨a,e1,h1,h2,h3⟩:=h; exact⟨a,e1,m a h1,h2,h3.pres p λo q=>e.keep q λz=>h2 (uV a z)⟩
 | lt a d=>obtain⟨e1,h1,h2,h3⟩:=h; exact⟨e1,m a h1,h2,h3.pres p λo q=>e.keep q λz=>h2 (uV a z)⟩
theorem Rel.step(R:Rel K C M H n ρ σ)(e:Ext C.U H H')(f:FeedC K C.F M H' n'):Rel K C M H' n' ρ σ:=by
 have p:=R.pres e
 refine⟨R.len,R.sub,λa z=>?_,R.ext.trans e,R.fU,R.uV,R.vM,f,λi s q=>(R.sl i s q).pres p (λ_ z=>z) e R.uV,λq hq=>(R.pin q hq).trans p,R.br0,R.new,R.two,λq hq=>?_⟩
 ·obtain⟨o,h1⟩:=R.dom a z
  obtain⟨o',h2,_⟩:=e a o h1
  exact⟨o',h2⟩
 ·obtain⟨h1,h2,h3,h4⟩:=R.kept q hq
  exact⟨e.keep h1 λz=>h3 (R.uV _ z),h2,h3,h4⟩
theorem Rel.udom(R:Rel K C M H n ρ σ):∀a,C.U a->∃o,H a=some o:=λa z=>R.dom a (R.vM a (R.uV a z))
theorem At.tp{U:Addr->Prop}(uM:∀a,U a->M a)(h:At K M H d v):AtT K U M H d v:=by
 cases d with
 | lst ds =>
  obtain⟨a,vs,e,hn,hs⟩:=h
  exact⟨a,vs,e,λz=>hn.1 (uM a z),.inl hn.2,hs⟩
 | dic ks ds =>
  obtain⟨a,vs,e,hn,hl,hs⟩:=h
  exact⟨a,vs,e,λz=>hn.1 (uM a z),hn.2,hl,hs⟩
 | dit ks ds =>
  obtain⟨a,vs,e,hn,hl,hs⟩:=h
  exact⟨a,vs,e,λz=>hn.1 (uM a z),hn.2,hl,hs⟩
 | non=>exact h
 | bl b=>exact h
 | int i=>exact h
 | str x=>exact h
 | tup ds=>exact h
 | fdi ks ds=>exact h
theorem VR.back{U V':Addr->Prop}{H1:Hp}(e:Ext U H H1)(h:VR K V' M H1 H' κ v d):VR K V' M H H' κ v d:=by
 cases κ with
 | sh=>exact h
 | tp=>exact h
 | fr =>
  obtain⟨a,e1,h1,h2⟩:=h
  exact⟨a,e1,e.free h1,h2⟩
theorem VR.shOf{U:Addr->Prop}(dom:∀a,M a->∃o,H a=some o)(h:VR K U M H H' κ v d)(hk:κ≠.tp):At K M H' d v:=by
 cases κ with
 | sh=>exact h
 | tp=>exact absurd rfl hk
 | fr =>
  obtain⟨a,rfl,h1,h2⟩:=h
  refine(h2.pres (Pres.less (M':=M) λ_ z=>.inl z) λ_ z=>z).at λz=>?_
  obtain⟨o,q⟩:=dom a z
  rw [h1] at q; cases q
theorem VR.tpOf{U:Addr->Prop}(dom:∀a,M a->∃o,H a=some o)(uM:∀a,U a->M a)(h:VR K U M H H' κ v d):AtT K U M H' d v:=by
 cases κ with
 | sh=>exact At.tp uM h
 | tp=>exact h
 | fr=>exact At.tp uM (VR.shOf dom h (by intro z; cases z))
theorem IX{α:Type}{l:List α}{i j:Nat}{x y:α}(h:(l.set i x)[j]?=some y):(j=i/\i<l.length/\y=x)\/(j≠i/\l[j]?=some y):=by
 rw [List.getElem?_set] at h
 by_cases e:i=j
 ·rw [if_pos e] at h
  by_cases hl:i<l.length
  ·rw [if_pos hl] at h
   exact .inl ⟨e.symm,hl,(Option.some.inj h).symm⟩
  ·rw [if_neg hl] at h; cases h
 ·rw [if_neg e] at h
  exact .inr ⟨λz=>e z.symm,h⟩
theorem LB{l:L2.St}{i j:Nat}{x:Option V}(h:j≠i):((l.set i x)[j]?).getD none=(l[j]?).getD none:=by
 rw [List.getElem?_set,if_neg (λz=>h z.symm)]
theorem RT{l:L2.St}{i:Nat}{x:Option V}(h:i<l.length):((l.set i x)[i]?).getD none=x:=by
 rw [List.getElem?_set,if_pos rfl,if_pos h]
 rfl
theorem Rel.set(R:Rel K C M H n ρ σ){i:Nat}(h:At K M H d v):Rel K C M H n (ρ.set i (.sh d)) (σ.set i (some v)):=by
 have two:∀(j:Nat) (s:Slot),(ρ.set i (.sh d))[j]?=some s->s.owns=true->ρ[j]?=some s/\((σ.set i (some v))[j]?).getD none=(σ[j]?).getD none:=λj s q o=>by
  rcases IX q with ⟨_,_,rfl⟩ | ⟨hj,q⟩
  ·cases o
  ·exact⟨q,LB hj⟩
 refine⟨by rw [List.length_set,List.length_set]; exact R.len,R.sub,R.dom,R.ext,R.fU,R.uV,R.vM,R.feed,λj s q=>?_,R.pin,λj e a q q2=>?_,λj s a q o q2=>?_,λj k s t a q1 o1 q2 o2 z1 z2=>?_,λp hp=>?_⟩
 ·rcases IX q with ⟨rfl,hl,rfl⟩ | ⟨hj,q⟩
  ·rw [RT (by rw [← R.len]; exact hl)]
   exact⟨v,rfl,h⟩
  ·rw [LB hj]
   exact R.sl j s q
 ·rcases IX q with ⟨_,_,e⟩ | ⟨hj,q⟩
  ·cases e
  ·rw [LB hj] at q2
   exact R.br0 j e a q q2
 ·obtain⟨q1,e⟩:=two j s q o
  rw [e] at q2
  exact R.new j s a q1 o q2
 ·obtain⟨p1,e1⟩:=two j s q1 o1
  obtain⟨p2,e2⟩:=two k t q2 o2
  rw [e1] at z1
  rw [e2] at z2
  exact R.two j k s t a p1 o1 p2 o2 z1 z2
 ·obtain⟨h1,h2,h3,h4⟩:=R.kept p hp
  refine⟨h1,h2,h3,λj e q=>?_⟩
  obtain⟨q1,e2⟩:=two j _ q rfl
  rw [e2]
  exact h4 j e q1
theorem Rel.owner(R:Rel K C M H n ρ σ){i:Nat}{s:Slot}(h:ρ[i]?=some s)(o:s.owns=true):∃a e,(σ[i]?).getD none=some (.ref a)/\M a/\¬C.V a/\Tops K M H a e/\¬C.M0 a/\C.H0 a=none:=by
 have q:=R.sl i s h
 cases s with
 | ow d=>obtain⟨a,e1,h1,h2,h3⟩:=q; exact⟨a,d,e1,h1,h2,h3,R.new i _ a h o e1⟩
 | lt a d=>obtain⟨e1,h1,h2,h3⟩:=q; exact⟨a,d,e1,h1,h2,h3,R.new i _ a h o e1⟩
 | _=>cases o
theorem Rel.setOw(R:Rel K C M H n ρ σ){i:Nat}{a:Addr}(e:Ext C.U H H')(f:FeedC K C.F M H' n')(ha:H a=none)(h:Tops K (λb=>M b\/b=a) H' a d) :
  Rel K C (λb=>M b\/b=a) H' n' (ρ.set i (.ow d)) (σ.set i (some (.ref a))):=by
 have R1:=R.step e f
 have ne:∀b,M b->b≠a:=λb z q=>by
  obtain⟨o,w⟩:=R.dom b z
  rw [q,ha] at w; cases w
 have a0:¬C.M0 a/\C.H0 a=none:=⟨λz=>ne a (R.sub a z) rfl,R.ext.free ha⟩
 have pr:Pres M H (λb=>M b\/b=a) H':=⟨λb o q nb=>e.keep q λz=>nb (R.vM b (R.uV b z)),λb z=>z.elim .inl λz=>.inr (by rw [z]; exact ha),λb vs q=>e.tup q⟩
 have two:∀(j:Nat) (s:Slot),(ρ.set i (.ow d))[j]?=some s->(j=i/\s=.ow d/\((σ.set i (some (.ref a)))[j]?).getD none=some (.ref a))\/(j≠i/\ρ[j]?=some s/\((σ.set i (some (.ref a)))[j]?).getD none=(σ[j]?).getD none):=λj s q=>by
  rcases IX q with ⟨rfl,hl,rfl⟩ | ⟨hj,q⟩
  ·exact .inl ⟨rfl,rfl,RT (by rw [← R.len]; exact hl)⟩
  ·exact .inr ⟨hj,q,LB hj⟩
 have old:∀(j:Nat) (s:Slot) (b:Addr),ρ[j]?=some s->s.owns=true->(σ[j]?).getD none=some (.ref b)->b≠a:=λj s b q o z=>by
  obtain⟨c,_,e1,m,_⟩:=R.owner q o
  rw [e1] at z
  cases z
  exact ne _ m
 have hd:∃o,H' a=some o:=by
  cases d with
  | lst ds=>obtain⟨vs,q,_⟩:=h; exact⟨_,q⟩
  | dic ks ds=>obtain⟨vs,q,_⟩:=h; exact⟨_,q⟩
  | dit ks ds=>obtain⟨vs,q,_⟩:=h; exact⟨_,q⟩
  | _=>exact(show False from h).elim
 refine⟨by rw [List.length_set,List.length_set]; exact R.len,λb z=>.inl (R.sub b z),λb z=>?_,R1.ext,R.fU,R.uV,λb z=>.inl (R.vM b z),f.more a λg hg q=>?_,λj s q=>?_,λq hq=>(R.pin q hq).trans pr,λj e2 b q q2=>?_,λj s b q o q2=>?_,λj k s t b q1 o1 q2 o2 z1 z2=>?_,λp hp=>?_⟩
 ·rcases z with z | z
  ·exact R1.dom b z
  ·rw [z]; exact hd
 ·obtain⟨_,_,_,_,_,h3,_⟩:=R.feed g hg
  have:=h3.2
  rw [q,ha] at this; cases this
 ·rcases two j s q with ⟨rfl,rfl,e1⟩ | ⟨hj,q1,e1⟩
  ·rw [e1]
   exact⟨a,rfl,.inr rfl,λz=>ne a (R.vM a z) rfl,h⟩
  ·rw [e1]
   exact(R.sl j s q1).pres pr (λ_ z=>.inl z) e R.uV
 ·rcases two j _ q with ⟨_,e1,_⟩ | ⟨hj,q1,e1⟩
  ·cases e1
  ·rw [e1] at q2
   exact R.br0 j e2 b q1 q2
 ·rcases two j s q with ⟨_,_,e1⟩ | ⟨hj,q1,e1⟩
  ·rw [e1] at q2
   cases q2
   exact a0
  ·rw [e1] at q2
   exact R.new j s b q1 o q2
 ·rcases two j s q1 with ⟨rfl,_,e1⟩ | ⟨hj,p1,e1⟩
  ·rw [e1] at z1
   cases z1
   rcases two k t q2 with ⟨rfl,_,_⟩ | ⟨hk,p2,e2⟩
   ·rfl
   ·rw [e2] at z2
    exact absurd rfl (old k t a p2 o2 z2)
  ·rw [e1] at z1
   rcases two k t q2 with ⟨rfl,_,e2⟩ | ⟨hk,p2,e2⟩
   ·rw [e2] at z2
    cases z2
    exact absurd rfl (old j s a p1 o1 z1)
   ·rw [e2] at z2
    exact R.two j k s t b p1 o1 p2 o2 z1 z2
 ·obtain⟨h1,h2,h3,h4⟩:=R1.kept p hp
  refine⟨h1,.inl h2,h3,λj e2 q=>?_⟩
  rcases two j _ q with ⟨_,_,e1⟩ | ⟨hj,q1,e1⟩
  ·rw [e1]
   intro z
   cases z
   exact ne _ h2 rfl
  ·rw [e1]
   exact h4 j e2 q1
theorem Rel.mut(R:Rel K C M H n ρ σ){i:Nat}{a:Addr}{e:D}{o:HO}(hi:ρ[i]?=some (.ow d))(ha:(σ[i]?).getD none=some (.ref a))(h:Tops K M (BG H a o) a e) :
  Rel K C M (BG H a o) n (ρ.set i (.ow e)) σ:=by
 obtain⟨b,_,e1,m,nv,t,n0,h0⟩:=R.owner hi rfl
 rw [ha] at e1
 cases e1
 have pr:Pres M H M (BG H a o):=⟨λb o' q nb=>by rw [AT (λz=>nb (by rw [z]; exact m))]; exact q,λ_ z=>.inl z,λb vs q=>by rw [AT (λz=>t.notT (by rw [← z]; exact q))]; exact q⟩
 have old:∀(j:Nat) (s:Slot),(ρ.set i (.ow e))[j]?=some s->(j=i/\s=.ow e)\/(j≠i/\ρ[j]?=some s):=λj s q=>by
  rcases IX q with ⟨rfl,hl,rfl⟩ | ⟨hj,q⟩
  ·exact .inl ⟨rfl,rfl⟩
  ·exact .inr ⟨hj,q⟩
 have far:∀(j:Nat) (s:Slot) (b:Addr),j≠i->ρ[j]?=some s->s.owns=true->(σ[j]?).getD none=some (.ref b)->b≠a:=λj s b hj q o z w=>by
  subst w
  exact hj (R.two j i s _ b q o hi rfl z ha)
 refine⟨by rw [List.length_set]; exact R.len,R.sub,λb z=>?_,λb o' q=>?_,R.fU,R.uV,R.vM,R.feed.pres pr λf o' hf q=>?_,λj s q=>?_,λq hq=>(R.pin q hq).trans pr,λj e2 b q q2=>?_,λj s b q o2 q2=>?_,λj k s t b q1 o1 q2 o2 z1 z2=>?_,λp hp=>?_⟩
 ·by_cases hb:b=a
  ·exact⟨o,by rw [hb,Ak]⟩
  ·obtain⟨o',q⟩:=R.dom b z
   exact⟨o',by rw [AT hb]; exact q⟩
 ·obtain⟨o2,q2,r⟩:=R.ext b o' q
  have hb:b≠a:=λz=>by rw [z,h0] at q; cases q
  exact⟨o2,by rw [AT hb]; exact q2,r⟩
 ·have hb:f.1≠a:=λz=>nv (by rw [← z]; exact R.uV _ (R.fU f hf))
  rw [AT hb]; exact q
 ·rcases old j s q with ⟨rfl,rfl⟩ | ⟨hj,q1⟩
  ·rw [ha]
   exact⟨a,rfl,m,nv,h⟩
  ·have q2:=R.sl j s q1
   cases s with
   | no=>trivial
   | sh d=>obtain⟨v,e1,h1⟩:=q2; exact⟨v,e1,h1.pres pr⟩
   | br d =>
    obtain⟨v,e1,h1⟩:=q2
    refine⟨v,e1,h1.same pr (λb o' z q=>?_) λ_ _ z=>z⟩
    subst z
    obtain⟨o3,w⟩:=R.br0 j d b q1 e1
    rw [AT (λz=>by rw [z,h0] at w; cases w)]
    exact q
   | fd=>exact q2
   | ow d =>
    obtain⟨b,e1,h1,h2,h3⟩:=q2
    exact⟨b,e1,h1,h2,h3.pres pr λo' w=>by rw [AT (far j _ b hj q1 rfl e1)]; exact w⟩
   | lt b d =>
    obtain⟨e1,h1,h2,h3⟩:=q2
    exact⟨e1,h1,h2,h3.pres pr λo' w=>by rw [AT (far j _ b hj q1 rfl e1)]; exact w⟩
 ·rcases old j _ q with ⟨_,e1⟩ | ⟨hj,q1⟩
  ·cases e1
  ·exact R.br0 j e2 b q1 q2
 ·rcases old j s q with ⟨rfl,_⟩ | ⟨hj,q1⟩
  ·exact R.new j _ b hi rfl q2
  ·exact R.new j s b q1 o2 q2
 ·rcases old j s q1 with ⟨rfl,rfl⟩ | ⟨hj,p1⟩
  ·rcases old k t q2 with ⟨rfl,_⟩ | ⟨hk,p2⟩
   ·rfl
   ·exact R.two j k _ t b hi rfl p2 o2 z1 z2
  ·rcases old k t q2 with ⟨rfl,rfl⟩ | ⟨hk,p2⟩
   ·exact R.two j k s _ b p1 o1 hi rfl z1 z2
   ·exact R.two j k s t b p1 o1 p2 o2 z1 z2
 ·obtain⟨h1,h2,h3,h4⟩:=R.kept p hp
  have hb:p.1≠a:=λz=>h4 i d hi (by rw [ha,z])
  refine⟨by rw [AT hb]; exact h1,h2,h3,λj e2 q=>?_⟩
  rcases old j _ q with ⟨rfl,_⟩ | ⟨hj,q1⟩
  ·exact h4 j d hi
  ·exact h4 j e2 q1
end
abbrev DW:=Nat->List Slot->(D->Nat->Prop)->Prop
abbrev Ht:=Nat->List Slot->(Bool->Nat->Prop)->Prop
abbrev FT:=Nat->List Slot->(List D->Nat->Prop)->Prop
abbrev WB:=Nat->List Slot->(List Slot->Nat->Prop)->Prop
section
variable (X:Cx)
def DE(e:Expr)(κ:Kd)(w:DW):Prop:=∃t,PE X e t/\∀(C:Fm) (M:Addr->Prop) (H:Hp) (n:Nat) (ρ:List Slot) (σ:L2.St) (P:D->Nat->Prop) (Q:VK),Rel X.K C M H n ρ σ->w n ρ P ->
 (∀v H' d n',Ext C.U H H'->FeedC X.K C.F M H' n'->VR X.K C.V M H H' κ v d->P d n'->Q v H')->t σ H Q
def DT(e:Expr)(w:Ht):Prop:=∃t,PT X e t/\∀(C:Fm) (M:Addr->Prop) (H:Hp) (n:Nat) (ρ:List Slot) (σ:L2.St) (P:Bool->Nat->Prop) (Q:Bool->Hp->Prop),Rel X.K C M H n ρ σ->w n ρ P ->
 (∀b H' n',Ext C.U H H'->FeedC X.K C.F M H' n'->P b n'->Q b H')->t σ H Q
def DTW(e:Expr)(w:Ht):Prop:=∃t,PW X e t/\∀(C:Fm) (M:Addr->Prop) (H:Hp) (n:Nat) (ρ:List Slot) (σ:L2.St) (P:Bool->Nat->Prop) (Q:Bool->Hp->Prop),Rel X.K C M H n ρ σ->w n ρ P ->
 (∀b H' n',Ext C.U H H'->FeedC X.K C.F M H' n'->P b n'->Q b H')->t σ H Q
def T_(es:List Expr)(w:FT):Prop:=∃t,PA X es t/\∀(C:Fm) (M:Addr->Prop) (H:Hp) (n:Nat) (ρ:List Slot) (σ:L2.St) (P:List D->Nat->Prop) (Q:List V->Hp->Prop),Rel X.K C M H n ρ σ->w n ρ P ->
 (∀vs H' ds n',Ext C.U H H'->FeedC X.K C.F M H' n'->Paired (λv d=>AtT X.K C.V M H' d v) vs ds->P ds n'->Q vs H')->t σ H Q
def WD(es:List Expr)(w:FT):Prop:=∃t,PA X es t/\∀(C:Fm) (M:Addr->Prop) (H:Hp) (n:Nat) (ρ:List Slot) (σ:L2.St) (P:List D->Nat->Prop) (Q:List V->Hp->Prop),Rel X.K C M H n ρ σ->w n ρ P ->
 (∀vs H' ds n',Ext C.U H H'->FeedC X.K C.F M H' n'->Ats X.K M H' ds vs->P ds n'->Q vs H')->t σ H Q
def Ky(K:Frag)(F:Option (Addr×Addr))(V' M:Addr->Prop)(H:Hp)(v:V)(s:Slot):Prop:=SlotOk K F V' M H s (some v)/\s.owns=false
def Xn(e:Expr)(w:Nat->List Slot->(Slot->Nat->Prop)->Prop):Prop:=∃t,PE X e t/\∀(C:Fm) (M:Addr->Prop) (H:Hp) (n:Nat) (ρ:List Slot) (σ:L2.St) (P:Slot->Nat->Prop) (Q:VK),Rel X.K C M H n ρ σ->w n ρ P ->
 (∀v H' s n',Ext C.U H H'->FeedC X.K C.F M H' n'->Ky X.K C.F C.V M H' v s->P s n'->Q v H')->t σ H Q
def XZ(es:List Expr)(w:WB):Prop:=∃t,PA X es t/\∀(C:Fm) (M:Addr->Prop) (H:Hp) (n:Nat) (ρ:List Slot) (σ:L2.St) (P:List Slot->Nat->Prop) (Q:List V->Hp->Prop),Rel X.K C M H n ρ σ->w n ρ P ->
 (∀vs H' ss n',Ext C.U H H'->FeedC X.K C.F M H' n'->Paired (Ky X.K C.F C.V M H') vs ss->P ss n'->Q vs H')->t σ H Q
end
def AA(i:Nat):DW:=λn ρ P=>match ρ[i]? with
 | some (.sh d)=>P d n
 | _=>False
def A7(i:Nat):DW:=λn ρ P=>match ρ[i]? with
 | some (.sh d)=>P d n
 | some (.br d)=>P d n
 | some (.ow d)=>P d n
 | some (.lt _ d)=>P d n
 | _=>False
def wC(d:D):DW:=λn _ P=>P d n
section
variable {X:Cx}{a b c e:Expr}{κ κa κb:Kd}{wa wb wc:DW}{pos:Pos}
theorem getD_some{σ:L2.St}{i:Nat}{v:V}(h:(σ[i]?).getD none=some v):σ[i]?=some (some v):=by
 cases q:σ[i]? with
 | none=>rw [q] at h; cases h
 | some o=>rw [q] at h; exact congrArg some h
theorem T3{i:Nat}(h:PE X e (CN i)):DE X e .sh (AA i):=by
 refine⟨_,h,λC M H n ρ σ P Q R w q=>?_⟩
 unfold AA at w
 split at w
 ·rename_i d hd
  obtain⟨v,e1,h1⟩:=R.sl i _ hd
  exact⟨v,getD_some e1,q v H d n (Ext.refl _ _) R.feed h1 w⟩
 ·exact w.elim
theorem Sl{i:Nat}(h:PE X e (CN i)):DE X e .tp (A7 i):=by
 refine⟨_,h,λC M H n ρ σ P Q R w q=>?_⟩
 unfold A7 at w
 split at w
 ·rename_i d hd
  obtain⟨v,e1,h1⟩:=R.sl i _ hd
  exact⟨v,getD_some e1,q v H d n (Ext.refl _ _) R.feed (At.tp R.vM h1) w⟩
 ·rename_i d hd
  obtain⟨v,e1,h1⟩:=R.sl i _ hd
  exact⟨v,getD_some e1,q v H d n (Ext.refl _ _) R.feed h1 w⟩
 ·rename_i d hd
  obtain⟨a,e1,_,h2,h3⟩:=R.sl i _ hd
  exact⟨.ref a,getD_some e1,q _ H d n (Ext.refl _ _) R.feed (h3.att h2) w⟩
 ·rename_i a d hd
  obtain⟨e1,_,h2,h3⟩:=R.sl i _ hd
  exact⟨.ref a,getD_some e1,q _ H d n (Ext.refl _ _) R.feed (h3.att h2) w⟩
 ·exact w.elim
theorem dv(i:Nat){x:Str}{pos:Pos}(hN:X.N[i]?=some x:=by rfl)(hv:V2 X.env.scope x:=by first | exact Or.inl rfl | exact Or.inr (Or.inl rfl) | exact Or.inr (Or.inr rfl))(hd:(x==("__debug__" : Str))=false:=by decide)
  (hcd:(x==("__classdict__" : Str))=false:=by decide):DE X (.Name x pos) .sh (AA i):=T3 (LW hN hv hd hcd)
theorem Kh(i:Nat){x:Str}{pos:Pos}(hN:X.N[i]?=some x:=by rfl)(hv:V2 X.env.scope x:=by first | exact Or.inl rfl | exact Or.inr (Or.inl rfl) | exact Or.inr (Or.inr rfl))(hd:(x==("__debug__" : Str))=false:=by decide)
  (hcd:(x==("__classdict__" : Str))=false:=by decide):DE X (.Name x pos) .tp (A7 i):=Sl (LW hN hv hd hcd)
theorem GU{d:D}{v:V}(h:PE X e (tC v))(hd:∀M H,At X.K M H d v):DE X e .sh (wC d) :=
 ⟨_,h,λC M H n ρ σ P Q R w q=>q v H d n (Ext.refl _ _) R.feed (hd M H) w⟩
theorem AC{i:Int}{j pos}:DE X (.Constant (.int i) j pos) .sh (wC (.int i)):=GU A2 λ_ _=>rfl
theorem Br{b:Bool}{j pos}:DE X (.Constant (.bool b) j pos) .sh (wC (.bl b)):=GU Wv λ_ _=>rfl
theorem BM{j pos}:DE X (.Constant .none j pos) .sh (wC .non):=GU VJ λ_ _=>rfl
theorem Ba{x:Str}{j pos}(hx:decide (x.length<=1000)=true:=by rfl):DE X (.Constant (.str x) j pos) .sh (wC (.str x)) :=
 GU VG λ_ _=>⟨rfl,Nat.le_trans (of_decide_eq_true hx) (by rw [sizeLine_eq]; decide)⟩
def EW(K:Frag)(κ:Kd)(r:R2)(f:D->D->(D->Prop)->Prop):Prop:=∀(U:Addr->Prop) (M:Addr->Prop) (H:Hp) (d e:D) (x y:V) (P:D->Prop) (Q:VK),(∀a,M a->∃o,H a=some o)->(∀a,U a->M a) ->
 AtT K U M H d x->AtT K U M H e y->f d e P->(∀v H' z,Grow H H'->VR K U M H H' κ v z->P z->Q v H')->r x y H Q
def AS(f:D->D->(D->Prop)->Prop)(wa wb:DW):DW:=λn ρ P=>wa n ρ λx n1=>wb n1 ρ λy n2=>f x y λz=>P z n2
theorem E7{r:R2}{f:D->D->(D->Prop)->Prop}(hA:EW X.K κ r f){ta tb:TE}(ha:∀(C:Fm) (M:Addr->Prop) (H:Hp) (n:Nat) (ρ:List Slot) (σ:L2.St) (P:D->Nat->Prop) (Q:VK),Rel X.K C M H n ρ σ->wa n ρ P ->
   (∀v H' d n',Ext C.U H H'->FeedC X.K C.F M H' n'->VR X.K C.V M H H' κa v d->P d n'->Q v H')->ta σ H Q)
  (hb:∀(C:Fm) (M:Addr->Prop) (H:Hp) (n:Nat) (ρ:List Slot) (σ:L2.St) (P:D->Nat->Prop) (Q:VK),Rel X.K C M H n ρ σ->wb n ρ P ->
   (∀v H' d n',Ext C.U H H'->FeedC X.K C.F M H' n'->VR X.K C.V M H H' κb v d->P d n'->Q v H')->tb σ H Q)
  (C:Fm) (M:Addr->Prop) (H:Hp) (n:Nat) (ρ:List Slot) (σ:L2.St) (P:D->Nat->Prop) (Q:VK) (R:Rel X.K C M H n ρ σ) (w:AS f wa wb n ρ P)
  (q:∀v H' d n',Ext C.U H H'->FeedC X.K C.F M H' n'->VR X.K C.V M H H' κ v d->P d n'->Q v H'):D9 r ta tb σ H Q:=by
 refine ha C M H n ρ σ _ _ R w λx H1 d n1 e1 f1 r1 w1=>?_
 have R1:=R.step e1 f1
 refine hb C M H1 n1 ρ σ _ _ R1 w1 λy H2 e n2 e2 f2 r2 w2=>?_
 have R2':=R1.step e2 f2
 refine hA C.V M H2 d e x y _ _ R2'.dom R2'.vM ((r1.tpOf R.dom R.vM).pres (R1.pres e2) e2 R.uV) (r2.tpOf R1.dom R1.vM) w2 λv H3 z g vr p=>?_
 exact q v H3 z n2 ((e1.trans e2).trans g.ext) (f2.grow g) (VR.back (e1.trans e2) vr) p
theorem A3{op:Operator}{r:R2}{f:D->D->(D->Prop)->Prop}(ho:OpR X (binaryOp op) r)(hA:EW X.K κ r f)(ha:DE X a κa wa)(hb:DE X b κb wb):DE X (.BinOp a op b pos) κ (AS f wa wb):=by
 obtain⟨ta,ha1,ha2⟩:=ha
 obtain⟨tb,hb1,hb2⟩:=hb
 exact⟨_,CA ho ha1 hb1,λC M H n ρ σ P Q R w q=>E7 hA ha2 hb2 C M H n ρ σ P Q R w q⟩
theorem AU{r:R2}{f:D->D->(D->Prop)->Prop}(ho:IxR X r)(hA:EW X.K κ r f)(ha:DE X a κa wa)(hb:DE X b κb wb)(hs:P0 b:=by intro _ _; rfl):DE X (.Subscript a b pos) κ (AS f wa wb):=by
 obtain⟨ta,ha1,ha2⟩:=ha
 obtain⟨tb,hb1,hb2⟩:=hb
 exact⟨_,EY ho ha1 hb1 hs,λC M H n ρ σ P Q R w q=>E7 hA ha2 hb2 C M H n ρ σ P Q R w q⟩
theorem Cr{op:CmpOp}{r:R2}{f:D->D->(D->Prop)->Prop}(ho:OpR X (compareOp op) r)(hA:EW X.K .sh r f)(ha:DE X a κa wa)(hb:DE X b κb wb)(hm:behindInMarks op b=false):DE X (.Compare a [op] [b] pos) .sh (AS f wa wb):=by
 obtain⟨ta,ha1,ha2⟩:=ha
 obtain⟨tb,hb1,hb2⟩:=hb
 exact⟨_,TY ho ha1 hb1 hm,λC M H n ρ σ P Q R w q=>E7 hA ha2 hb2 C M H n ρ σ P Q R w q⟩
def AO(w:DW):Ht:=λn ρ P=>w n ρ λd n1=>match d with
 | .bl b=>P b n1
 | _=>False
theorem Hv{U:Addr->Prop}{K:Frag}{M:Addr->Prop}{H H':Hp}{v:V}{b:Bool}(h:VR K U M H H' κ v (.bl b)):v=.bl b:=by
 cases κ with
 | sh=>exact h
 | tp=>exact h
 | fr=>obtain⟨a,_,_,t⟩:=h; exact(show False from t).elim
theorem Ab{op:CmpOp}{r:R2}{f:D->D->(D->Prop)->Prop}(ho:OpR X (compareOp op) r)(hA:EW X.K .sh r f)(ha:DE X a κa wa)(hb:DE X b κb wb)(hm:behindInMarks op b=false):DT X (.Compare a [op] [b] pos) (AO (AS f wa wb)):=by
 obtain⟨ta,ha1,ha2⟩:=ha
 obtain⟨tb,hb1,hb2⟩:=hb
 refine⟨_,Fy ho ha1 hb1 hm,λC M H n ρ σ P Q R w q=>?_⟩
 refine E7 hA ha2 hb2 C M H n ρ σ _ _ R w λv H' d n' e f r p=>?_
 cases d with
 | bl b=>exact⟨b,Hv r,q b H' n' e f p⟩
 | _=>exact p.elim
theorem BX(h:DE X e κ wa)(he:∀whole,isTrue e X.env whole=(do let v ← whole; standAt e.pos; holding [v] (truthy v)):=by intro _; rfl):DT X e (AO wa):=by
 obtain⟨t,h1,h2⟩:=h
 refine⟨_,VC h1 he,λC M H n ρ σ P Q R w q=>?_⟩
 refine h2 C M H n ρ σ _ _ R w λv H' d n' e f r p=>?_
 cases d with
 | bl b=>exact⟨b,Hv r,q b H' n' e f p⟩
 | _=>exact p.elim
def IK(f g:D->D->(D->Prop)->Prop)(wa wb wc:DW):DW:=λn ρ P=>wa n ρ λx n1=>wb n1 ρ λy n2=>f x y λz=>match z with
 | .bl true=>wc n2 ρ λu n3=>g y u λr=>P r n3
 | .bl false=>P (.bl false) n2
 | _=>False
theorem NY{r r':R2}{f g:D->D->(D->Prop)->Prop}(hA:EW X.K .sh r f)(hB:EW X.K .sh r' g){ta tb tc:TE}{κc:Kd}(ha:∀(C:Fm) (M:Addr->Prop) (H:Hp) (n:Nat) (ρ:List Slot) (σ:L2.St) (P:D->Nat->Prop) (Q:VK),Rel X.K C M H n ρ σ->wa n ρ P ->
   (∀v H' d n',Ext C.U H H'->FeedC X.K C.F M H' n'->VR X.K C.V M H H' κa v d->P d n'->Q v H')->ta σ H Q)
  (hb:∀(C:Fm) (M:Addr->Prop) (H:Hp) (n:Nat) (ρ:List Slot) (σ:L2.St) (P:D->Nat->Prop) (Q:VK),Rel X.K C M H n ρ σ->wb n ρ P ->
   (∀v H' d n',Ext C.U H H'->FeedC X.K C.F M H' n'->VR X.K C.V M H H' κb v d->P d n'->Q v H')->tb σ H Q)
  (hc:∀(C:Fm) (M:Addr->Prop) (H:Hp) (n:Nat) (ρ:List Slot) (σ:L2.St) (P:D->Nat->Prop) (Q:VK),Rel X.K C M H n ρ σ->wc n ρ P ->
   (∀v H' d n',Ext C.U H H'->FeedC X.K C.F M H' n'->VR X.K C.V M H H' κc v d->P d n'->Q v H')->tc σ H Q)
  (C:Fm) (M:Addr->Prop) (H:Hp) (n:Nat) (ρ:List Slot) (σ:L2.St) (P:D->Nat->Prop) (Q:VK) (R:Rel X.K C M H n ρ σ) (w:IK f g wa wb wc n ρ P)
  (q:∀v H' d n',Ext C.U H H'->FeedC X.K C.F M H' n'->VR X.K C.V M H H' .sh v d->P d n'->Q v H'):N4 r r' ta tb tc σ H Q:=by
 refine ha C M H n ρ σ _ _ R w λx H1 d n1 e1 f1 r1 w1=>?_
 have R1:=R.step e1 f1
 refine hb C M H1 n1 ρ σ _ _ R1 w1 λy H2 e n2 e2 f2 r2 w2=>?_
 have R2':=R1.step e2 f2
 have ty:AtT X.K C.V M H2 e y:=r2.tpOf R1.dom R1.vM
 refine hA C.V M H2 d e x y _ _ R2'.dom R2'.vM ((r1.tpOf R.dom R.vM).pres (R1.pres e2) e2 R.uV) ty w2 λv H3 z gr vr p=>?_
 have R3:=R2'.step gr.ext (f2.grow gr)
 cases z with
 | bl k =>
  refine⟨k,vr,?_⟩
  cases k with
  | false=>exact q _ H3 (.bl false) n2 ((e1.trans e2).trans gr.ext) (f2.grow gr) (show VR X.K C.V M H H3 .sh (.bl false) (.bl false) from rfl) p
  | true =>
   show tc σ H3 _
   refine hc C M H3 n2 ρ σ _ _ R3 p λu H4 d4 n4 e4 f4 r4 w4=>?_
   have R4:=R3.step e4 f4
   refine hB C.V M H4 e d4 y u _ _ R4.dom R4.vM ((ty.pres gr.pres (gr.ext (U:=C.U)) R.uV).pres (R3.pres e4) e4 R.uV) (r4.tpOf R3.dom R3.vM) w4 λv5 H5 z5 g5 vr5 p5=>?_
   exact q v5 H5 z5 n4 ((((e1.trans e2).trans gr.ext).trans e4).trans g5.ext) (f4.grow g5) vr5 p5
 | _=>exact p.elim
theorem Sn{op op':CmpOp}{r r':R2}{f g:D->D->(D->Prop)->Prop}{κc:Kd}(ho:OpR X (compareOp op) r)(hA:EW X.K .sh r f)(ho':OpR X (compareOp op') r')(hB:EW X.K .sh r' g)(ha:DE X a κa wa)(hb:DE X b κb wb)(hc:DE X c κc wc)
  (hm:lastMarks [op,op'] [b,c]=false:=by with_unfolding_all rfl):DE X (.Compare a [op,op'] [b,c] pos) .sh (IK f g wa wb wc):=by
 obtain⟨ta,ha1,ha2⟩:=ha
 obtain⟨tb,hb1,hb2⟩:=hb
 obtain⟨tc,hc1,hc2⟩:=hc
 exact⟨_,Rz ho ho' ha1 hb1 hc1 hm,λC M H n ρ σ P Q R w q=>NY hA hB ha2 hb2 hc2 C M H n ρ σ P Q R w q⟩
theorem Se{op op':CmpOp}{r r':R2}{f g:D->D->(D->Prop)->Prop}{κc:Kd}(ho:OpR X (compareOp op) r)(hA:EW X.K .sh r f)(ho':OpR X (compareOp op') r')(hB:EW X.K .sh r' g)(ha:DE X a κa wa)(hb:DE X b κb wb)(hc:DE X c κc wc)
  (hm:lastMarks [op,op'] [b,c]=false:=by with_unfolding_all rfl):DT X (.Compare a [op,op'] [b,c] pos) (AO (IK f g wa wb wc)):=by
 obtain⟨ta,ha1,ha2⟩:=ha
 obtain⟨tb,hb1,hb2⟩:=hb
 obtain⟨tc,hc1,hc2⟩:=hc
 refine⟨_,Rk ho ho' ha1 hb1 hc1 hm,λC M H n ρ σ P Q R w q=>?_⟩
 refine NY hA hB ha2 hb2 hc2 C M H n ρ σ _ _ R w λv H' d n' e f r p=>?_
 cases d with
 | bl b=>exact⟨b,r,q b H' n' e f p⟩
 | _=>exact p.elim
def HL(u v:Ht):Ht:=λn ρ P=>u n ρ λc n1=>if c=true then v n1 ρ P else P false n1
def CP(u v:Ht):Ht:=λn ρ P=>u n ρ λc n1=>if c=true then P true n1 else v n1 ρ P
def B8(u:Ht):Ht:=λn ρ P=>u n ρ λc n1=>P (!c) n1
variable {wA wB:Ht}{rest:List Expr}
theorem GO(h:DT X a wA):DTW X (.BoolOp .And [a] pos) wA:=by
 obtain⟨t,h1,h2⟩:=h
 exact⟨t,O2 h1,h2⟩
theorem Bq(h:DT X a wA):DTW X (.BoolOp .Or [a] pos) wA:=by
 obtain⟨t,h1,h2⟩:=h
 exact⟨t,VB h1,h2⟩
theorem HE(ha:DT X a wA)(hb:DTW X (.BoolOp .And (b::rest) pos) wB):DTW X (.BoolOp .And (a::b::rest) pos) (HL wA wB):=by
 obtain⟨t,h1,h2⟩:=ha
 obtain⟨u,g1,g2⟩:=hb
 refine⟨_,Rh h1 g1,λC M H n ρ σ P Q R w q=>?_⟩
 refine h2 C M H n ρ σ _ _ R w λc H1 n1 e1 f1 p=>?_
 cases c with
 | false=>exact q false H1 n1 e1 f1 p
 | true=>exact g2 C M H1 n1 ρ σ P Q (R.step e1 f1) p λb H2 n2 e2 f2 p2=>q b H2 n2 (e1.trans e2) f2 p2
theorem Bu(ha:DT X a wA)(hb:DTW X (.BoolOp .Or (b::rest) pos) wB):DTW X (.BoolOp .Or (a::b::rest) pos) (CP wA wB):=by
 obtain⟨t,h1,h2⟩:=ha
 obtain⟨u,g1,g2⟩:=hb
 refine⟨_,Ws h1 g1,λC M H n ρ σ P Q R w q=>?_⟩
 refine h2 C M H n ρ σ _ _ R w λc H1 n1 e1 f1 p=>?_
 cases c with
 | true=>exact q true H1 n1 e1 f1 p
 | false=>exact g2 C M H1 n1 ρ σ P Q (R.step e1 f1) p λb H2 n2 e2 f2 p2=>q b H2 n2 (e1.trans e2) f2 p2
theorem DTW.dt(h:DTW X e wA):DT X e wA:=by
 obtain⟨t,h1,h2⟩:=h
 exact⟨t,h1.pt,h2⟩
theorem BZ(ha:DT X a wA):DT X (.UnaryOp .Not a pos) (B8 wA):=by
 obtain⟨t,h1,h2⟩:=ha
 refine⟨_,VD h1,λC M H n ρ σ P Q R w q=>?_⟩
 exact h2 C M H n ρ σ _ _ R w λc H1 n1 e1 f1 p=>q (!c) H1 n1 e1 f1 p
def Jp(u v:DW):DW:=λn ρ P=>u n ρ λc n1=>match c with
 | .bl true=>v n1 ρ P
 | .bl false=>P (.bl false) n1
 | _=>False
def Up(u:DW):DW:=λn ρ P=>u n ρ λc n1=>match c with
 | .bl b=>P (.bl (!b)) n1
 | _=>False
theorem HF{op}(h:DE X a κ wa):DE X (.BoolOp op [a] pos) κ wa:=by
 obtain⟨t,h1,h2⟩:=h
 exact⟨t,VH h1,h2⟩
theorem EU(ha:DE X a κa wa)(hb:DE X (.BoolOp .And (b::rest) pos) .sh wb):DE X (.BoolOp .And (a::b::rest) pos) .sh (Jp wa wb):=by
 obtain⟨t,h1,h2⟩:=ha
 obtain⟨u,g1,g2⟩:=hb
 refine⟨_,VM h1 g1,λC M H n ρ σ P Q R w q=>?_⟩
 refine h2 C M H n ρ σ _ _ R w λc H1 d n1 e1 f1 r1 p=>?_
 cases d with
 | bl k =>
  refine⟨k,Hv r1,?_⟩
  cases k with
  | false=>exact q _ H1 _ n1 e1 f1 (show VR X.K C.V M H H1 .sh (.bl false) (.bl false) from rfl) p
  | true =>
   show u σ H1 Q
   exact g2 C M H1 n1 ρ σ P Q (R.step e1 f1) p λv H2 d n2 e2 f2 r2 p2=>q v H2 d n2 (e1.trans e2) f2 r2 p2
 | _=>exact p.elim
theorem Sj(ha:DE X a κa wa):DE X (.UnaryOp .Not a pos) .sh (Up wa):=by
 obtain⟨t,h1,h2⟩:=ha
 refine⟨_,VI h1,λC M H n ρ σ P Q R w q=>?_⟩
 refine h2 C M H n ρ σ _ _ R w λc H1 d n1 e1 f1 r1 p=>?_
 cases d with
 | bl k=>exact⟨k,Hv r1,q _ H1 _ n1 e1 f1 (show VR X.K C.V M H H1 .sh (.bl (!k)) (.bl (!k)) from rfl) p⟩
 | _=>exact p.elim
def WK(t:Ht)(u v:DW):DW:=λn ρ P=>t n ρ λc n1=>if c=true then u n1 ρ P else v n1 ρ P
theorem Sm(hc:DT X c wA)(ha:DE X a κ wa)(hb:DE X b κ wb):DE X (.IfExp c a b pos) κ (WK wA wa wb):=by
 obtain⟨t,h1,h2⟩:=hc
 obtain⟨u,g1,g2⟩:=ha
 obtain⟨u',k1,k2⟩:=hb
 refine⟨_,Mf h1 g1 k1,λC M H n ρ σ P Q R w q=>?_⟩
 refine h2 C M H n ρ σ _ _ R w λc H1 n1 e1 f1 p=>?_
 cases c with
 | true=>exact g2 C M H1 n1 ρ σ P Q (R.step e1 f1) p λv H2 d n2 e2 f2 r2 p2=>q v H2 d n2 (e1.trans e2) f2 (VR.back e1 r2) p2
 | false=>exact k2 C M H1 n1 ρ σ P Q (R.step e1 f1) p λv H2 d n2 e2 f2 r2 p2=>q v H2 d n2 (e1.trans e2) f2 (VR.back e1 r2) p2
def AZ:FT:=λn _ P=>P [] n
def AF(w:DW)(ws:FT):FT:=λn ρ P=>w n ρ λd n1=>ws n1 ρ λds n2=>P (d::ds) n2
variable {es:List Expr}{ws:FT}
theorem Ad:T_ X [] AZ:=⟨_,DL,λC M H n ρ σ P Q R w q=>q [] H [] n (Ext.refl _ _) R.feed .nil w⟩
theorem Af:WD X [] AZ:=⟨_,DL,λC M H n ρ σ P Q R w q=>q [] H [] n (Ext.refl _ _) R.feed rfl w⟩
theorem AR(ha:DE X e κ wa)(hr:T_ X es ws)(hs:starEach (e::es) X.env=(false,eval e X.env)::starEach es X.env:=by rfl):T_ X (e::es) (AF wa ws):=by
 obtain⟨t,h1,h2⟩:=ha
 obtain⟨u,g1,g2⟩:=hr
 refine⟨_,B7 h1 g1 hs,λC M H n ρ σ P Q R w q=>?_⟩
 refine h2 C M H n ρ σ _ _ R w λv H1 d n1 e1 f1 r1 p=>?_
 have R1:=R.step e1 f1
 refine g2 C M H1 n1 ρ σ _ _ R1 p λvs H2 ds n2 e2 f2 r2 p2=>?_
 exact q (v::vs) H2 (d::ds) n2 (e1.trans e2) f2 (.cons ((r1.tpOf R.dom R.vM).pres (R1.pres e2) e2 R.uV) r2) p2
theorem AH(ha:DE X e κ wa)(hr:WD X es ws)(hk:κ≠.tp:=by intro z; cases z)(hs:starEach (e::es) X.env=(false,eval e X.env)::starEach es X.env:=by rfl):WD X (e::es) (AF wa ws):=by
 obtain⟨t,h1,h2⟩:=ha
 obtain⟨u,g1,g2⟩:=hr
 refine⟨_,B7 h1 g1 hs,λC M H n ρ σ P Q R w q=>?_⟩
 refine h2 C M H n ρ σ _ _ R w λv H1 d n1 e1 f1 r1 p=>?_
 have R1:=R.step e1 f1
 refine g2 C M H1 n1 ρ σ _ _ R1 p λvs H2 ds n2 e2 f2 r2 p2=>?_
 exact q (v::vs) H2 (d::ds) n2 (e1.trans e2) f2 ⟨v,vs,rfl,(r1.shOf R.dom hk).pres (R1.pres e2),r2⟩ p2
def Bt(ws:FT):DW:=λn ρ P=>ws n ρ λds n1=>ds.length<=sizeLine/\P (.tup ds) n1
def Ff(ws:FT):DW:=λn ρ P=>ws n ρ λds n1=>ds.length<=sizeLine/\P (.lst ds) n1
theorem Fo{M:Addr->Prop}{H:Hp}{p:Addr}{o:HO}(h:H p=none):Pres M H (λb=>M b\/b=p) (BG H p o):=⟨λb u e _=>by rw [AT (Ar e h)]; exact e,λb z=>z.elim .inl λz=>.inr (by rw [z]; exact h),λb vs e=>by rw [AT (Ar e h)]; exact e⟩
theorem A9{H:Hp}{p:Addr}{o:HO}(h:H p=none):Grow H (BG H p o):=.inr ⟨p,o,h,rfl⟩
theorem A6{x1}(h:WD X es ws):DE X (.Tuple es x1 pos) .sh (Bt ws):=by
 obtain⟨t,h1,h2⟩:=h
 refine⟨_,VF h1,λC M H n ρ σ P Q R w q=>?_⟩
 refine h2 C M H n ρ σ _ _ R w λvs H1 ds n1 e1 f1 r1 p=>?_
 refine⟨by rw [r1.length]; exact p.1,λa ha=>?_⟩
 have g:Grow H1 (BG H1 a (.tup vs)):=A9 ha
 refine q _ _ (.tup ds) n1 (e1.trans g.ext) (f1.grow g) ⟨a,vs,rfl,Ak,r1.pres g.pres⟩ p.2
theorem Dn(h:WD X es ws):DE X (.List es pos) .fr (Ff ws):=by
 obtain⟨t,h1,h2⟩:=h
 refine⟨_,OI h1,λC M H n ρ σ P Q R w q=>?_⟩
 refine h2 C M H n ρ σ _ _ R w λvs H1 ds n1 e1 f1 r1 p=>?_
 refine⟨by rw [r1.length]; exact p.1,λa ha=>?_⟩
 have g:Grow H1 (BG H1 a (.lst vs)):=A9 ha
 exact q _ _ (.lst ds) n1 (e1.trans g.ext) (f1.grow g) (VR.back e1 ⟨a,rfl,ha,vs,Ak,r1.pres (Fo ha)⟩) p.2
def Fe(K:Frag)(κ:Kd)(r:List V->Hp->VK->Prop)(f:List D->(D->Prop)->Prop):Prop:=∀(U:Addr->Prop) (M:Addr->Prop) (H:Hp) (ds:List D) (vs:List V) (P:D->Prop) (Q:VK),(∀a,M a->∃o,H a=some o)->(∀a,U a->M a) ->
 Paired (λv d=>AtT K U M H d v) vs ds->f ds P->(∀v H' z,Grow H H'->VR K U M H H' κ v z->P z->Q v H')->r vs H Q
def DQ(f:List D->(D->Prop)->Prop)(ws:FT):DW:=λn ρ P=>ws n ρ λds n1=>f ds λz=>P z n1
theorem Ud{r:List V->Hp->VK->Prop}{f:List D->(D->Prop)->Prop}{t:TA}(hA:Fe X.K κ r f)(h2:∀(C:Fm) (M:Addr->Prop) (H:Hp) (n:Nat) (ρ:List Slot) (σ:L2.St) (P:List D->Nat->Prop) (Q:List V->Hp->Prop),Rel X.K C M H n ρ σ->ws n ρ P ->
   (∀vs H' ds n',Ext C.U H H'->FeedC X.K C.F M H' n'->Paired (λv d=>AtT X.K C.V M H' d v) vs ds->P ds n'->Q vs H')->t σ H Q)
  (C:Fm) (M:Addr->Prop) (H:Hp) (n:Nat) (ρ:List Slot) (σ:L2.St) (P:D->Nat->Prop) (Q:VK) (R:Rel X.K C M H n ρ σ) (w:DQ f ws n ρ P)
  (q:∀v H' d n',Ext C.U H H'->FeedC X.K C.F M H' n'->VR X.K C.V M H H' κ v d->P d n'->Q v H'):Xc r t σ H Q:=by
 refine h2 C M H n ρ σ _ _ R w λvs H1 ds n1 e1 f1 r1 p=>?_
 have R1:=R.step e1 f1
 refine hA C.V M H1 ds vs _ _ R1.dom R1.vM r1 p λv H2 z g vr pz=>?_
 exact q v H2 z n1 (e1.trans g.ext) (f1.grow g) (VR.back e1 vr) pz
theorem An{x:Str}{id:String}{p:Pos}{r:List V->Hp->VK->Prop}{f:List D->(D->Prop)->Prop}(hc:EM X (.builtin id) r)(hA:Fe X.K κ r f)(hg:Gl X x)(hm:X.mg x=none)(hv:bootBuiltins x=some (.builtin id))(ha:T_ X (e::es) ws)
  (hn:x ≠ "__name__":=by decide) (hdb:(x==("__debug__" : Str))=false:=by decide)
  (he:starEach (e::es) X.env=(false,eval e X.env)::starEach es X.env:=by rfl) (hpl:(backTo pos (starEach es X.env)).any (·.1)=false:=by rfl):DE X (.Call (.Name x p) (e::es) [] pos) κ (DQ f ws):=by
 obtain⟨t,h1,h2⟩:=ha
 exact⟨_,GA hc hg hm hv h1 hn hdb he hpl,λC M H n ρ σ P Q R w q=>Ud hA h2 C M H n ρ σ P Q R w q⟩
theorem DZ{x:Str}{T:String}{p:Pos}{r:List V->Hp->VK->Prop}{f:List D->(D->Prop)->Prop}(hc:EM X (.type T) r)(hA:Fe X.K κ r f)(hg:Gl X x)(hm:X.mg x=none)(hv:bootBuiltins x=some (.type T))(ha:T_ X (e::es) ws)
  (hn:x ≠ "__name__":=by decide) (hdb:(x==("__debug__" : Str))=false:=by decide)
  (he:starEach (e::es) X.env=(false,eval e X.env)::starEach es X.env:=by rfl) (hpl:(backTo pos (starEach es X.env)).any (·.1)=false:=by rfl):DE X (.Call (.Name x p) (e::es) [] pos) κ (DQ f ws):=by
 obtain⟨t,h1,h2⟩:=ha
 exact⟨_,KW hc hg hm hv h1 hn hdb he hpl,λC M H n ρ σ P Q R w q=>Ud hA h2 C M H n ρ σ P Q R w q⟩
end
end Dp
namespace L2
open PySem PySem.Spec PyProof.Rows
def YI(z:Str):It:=⟨λi _=>i<z.cps.size,λi H x H'=>H'=H/\∃c,z.cps[i]?=some c/\x=.str ⟨#[c]⟩,λi _=>z.cps.size<=i⟩
theorem MJ{P:Program}{w:World}{K:Frag}{tg:Expr}(it:Addr)(z:Str)(t:Tok)(ty:String)(hty:ty = "str_ascii_iterator"\/ty = "str_iterator")
  (W:∀A':Around,A'.handled=none->Walks P w A' it [it] [it] z.cps.size (SignAt z) (λi h=>h.IsStrIter it ty z t i)):Turn P w K tg (YI z) [it] it (λi h=>h.IsStrIter it ty z t i) where
 mem:=by simp
 obj:=λi h st b hb=>by
  have e:b=it:=by simpa using hb
  subst e
  obtain⟨o,e,c,d⟩:=st
  exact⟨o,e,λv z=>by rw [d] at z; cases z⟩
 keep:=λi h h' st k=>let ⟨o,ho,r⟩:=st; ⟨o,k it (by simp) o ho,r⟩
 item:=by
  intro X hP hw hK hc i pins s σ H E I hf st hg
  subst hP hw hK
  obtain⟨f0,f1,f2,f3,f4,f5⟩:=hf it (by simp)
  refine(W X.A (I.ok.hd hc)).item i s _ _ hg st λv h' tk hv st' kk=>?_
  obtain⟨c,u,hcu,rfl⟩:=hv
  have I1:Inv X pins σ H { s with heap:=h',toks:=tk }:=I.turned (λb o hb e=>kk b o (by simpa using hb) e) f0 f1 f3 f4 f5
  obtain⟨o,e,cc,d⟩:=id st'
  exact⟨_,rfl,PU (s:={ s with heap:=h',toks:=tk }) e cc d (by rcases hty with rfl | rfl <;> decide) ⟨.str ⟨#[c]⟩,H,I1,⟨_,rfl⟩,⟨rfl,c,hcu,rfl⟩,st',λb hb=>(hf b hb).1⟩⟩
 done:=by
  intro X hP hw hK hc i pins s σ H E I hf st hg
  subst hP hw hK
  obtain⟨f0,f1,f2,f3,f4,f5⟩:=hf it (by simp)
  have hx:z.cps[i]?=none:=by
   have:z.cps.size<=i:=hg
   simp [this]
  rcases hty with rfl | rfl
  ·exact wpAny_pyNext_ascii_end (I.ok.hd hc) st hx λh' eb=>⟨rfl,I.turned (t':=s.toks) (λb o hb e=>eb b o hb e) f0 f1 f3 f4 f5⟩
  ·exact wpAny_pyNext_wide_end (I.ok.hd hc) st hx λh' eb=>⟨rfl,I.turned (t':=s.toks) (λb o hb e=>eb b o hb e) f0 f1 f3 f4 f5⟩
 self:=λA i s Q E st h=>by
  rcases hty with rfl | rfl
  ·exact wpAny_pyIter_striter_ascii st h
  ·exact wpAny_pyIter_striter_wide st h
section
variable {X:Cx}{tg:Expr}
def X6(K:Frag)(tl:TE):TI:=λσ H R=>tl σ H λx H1 =>
 (∃a,x=.ref a/\(∃xs,SqL K H1 a xs)/\R (YJ K a) H1)\/(∃a,x=.ref a/\(∃xs,SqT K H1 a xs)/\R (V_ K a) H1)\/∃z,x=.str z/\R (YI z) H1
theorem OG{l:Expr}{tl:TE}(hl:PE X l tl):PI X tg l (X6 X.K tl):=by
 intro pins s σ H R I h
 refine thn (hl pins s σ H _ I h) λv s1 ⟨x,H1,I1,r1,q1⟩=>?_
 have hne:∀b,b∈[s1.heap.objs.size]->Gm X pins H1 b:=λb hb=>by
  have e:b=s1.heap.objs.size:=by simpa using hb
  subst e
  exact I1.fpOk (Nat.le_refl _) (I1.hok.fresh (Nat.le_refl _))
 rcases q1 with ⟨a,e,⟨xs,hq⟩,q⟩ | ⟨a,e,⟨xs,hq⟩,q⟩ | ⟨z,e,q⟩
 ·subst e
  cases r1
  obtain⟨its,rv,p,hz⟩:=I1.list hq
  refine wpAny_pyIter_list p.isList ?_
  exact⟨s1.heap.objs.size,[s1.heap.objs.size],_,_,H1,rfl,I1.kept (t':=s1.toks) λb o e=>Heap.get?_push_of_some _ e,P5 a _,⟨_,Heap.get?_push_size _ rfl,rfl,rfl⟩,hne,q⟩
 ·subst e
  cases r1
  obtain⟨its,rv,p,hz⟩:=I1.tuple hq
  refine wpAny_pyIter_tuple (show s1.heap.IsTuple a its.toArray from p) ?_
  exact⟨s1.heap.objs.size,[s1.heap.objs.size],_,_,H1,rfl,I1.kept (t':=s1.toks) λb o e=>Heap.get?_push_of_some _ e,IM a _,⟨_,Heap.get?_push_size _ rfl,rfl,rfl⟩,hne,q⟩
 ·subst e
  obtain⟨t,rfl⟩:=r1
  cases ha:z.cps.all (·<128)
  ·refine wpAny_pyIter_wide ha ?_
   exact⟨s1.heap.objs.size,[s1.heap.objs.size],_,_,H1,rfl,I1.kept (t':=s1.toks) λb o e=>Heap.get?_push_of_some _ e,MJ _ z t "str_iterator" (.inr rfl) (λA' hA=>Walks.strWide hA _ z t),⟨_,Heap.get?_push_size _ rfl,rfl,rfl⟩,hne,q⟩
  ·refine wpAny_pyIter_ascii ha ?_
   exact⟨s1.heap.objs.size,[s1.heap.objs.size],_,_,H1,rfl,I1.kept (t':=s1.toks) λb o e=>Heap.get?_push_of_some _ e,MJ _ z t "str_ascii_iterator" (.inl rfl) (λA' hA=>Walks.strAscii hA _ z t),⟨_,Heap.get?_push_size _ rfl,rfl,rfl⟩,hne,q⟩
end
section
variable {X:Cx}
theorem Jy(bs:List Bool):((List.range bs.length).all λi=>(bs[i]?).getD true)=bs.all id:=by
 induction bs with
 | nil=>rfl
 | cons b r ih =>
  rw [List.length_cons,List.range_succ_eq_map,List.all_cons,List.all_map,List.all_cons]
  simp only [List.getElem?_cons_zero,Option.getD_some,id_eq]
  congr 1
theorem GX(hc:X.calm=true):EM X (.builtin "all") (λxs H Q=>∃(p:Addr) (bs:List Bool),xs=[.ref p]/\SqL X.K H p (bs.map V.bl)/\Q (.bl (bs.all id)) H):=by
 intro pins s σ H xs us Q I r h
 obtain⟨p,bs,rfl,hq,q⟩:=h
 obtain⟨u,rfl,rx⟩:=vals1 r
 cases rx
 obtain⟨its,r',pl,hz⟩:=I.list hq
 have hlen:=r'.length
 have hl:s.heap.IsList p its.toArray:=pl.isList
 have hlt:p<s.heap.objs.size:=by obtain⟨_,e,_⟩:=id hl; exact Heap.lt_size e
 refine call_all_walk (wpAny_pyIter_list hl ?_)
 refine⟨s.heap.objs.size,[s.heap.objs.size,p],[s.heap.objs.size],its.toArray.size,_,_,λi=>(bs[i]?).getD true,rfl,Walks.list (A:=X.A.in1) (I.ok.hd hc) _ p (Nat.ne_of_lt hlt) its.toArray,
  ⟨⟨_,Heap.get?_push_size _ rfl,rfl,rfl⟩,hl.push _⟩,λi v s' Q' E' hP hQ=>?_,λh' tk hk=>?_⟩
 ·have hv:its[i]?=some v:=by simpa using hP
  have hb:∃b,bs[i]?=some b:=by
   have hi:i<its.length:=(List.getElem?_eq_some_iff.mp hv).1
   rw [List.length_map] at hlen
   exact⟨bs[i]'(by omega),List.getElem?_eq_getElem (by omega)⟩
  obtain⟨b,eb⟩:=hb
  obtain⟨u,eu,ru⟩:=r'.get (i:=i) (x:=.bl b) (by rw [List.getElem?_map,eb]; rfl)
  rw [hv] at eu
  cases eu
  cases ru
  simp only [eb,Option.getD_some] at hQ
  exact wpAny_truthy_bool hQ
 ·have e:((List.range its.toArray.size).all λi=>(bs[i]?).getD true)=bs.all id:=by
   rw [List.size_toArray,← hlen,List.length_map]; exact Jy bs
  rw [e]
  exact⟨.bl _,H,I.kept (t':=tk) λb x e=>hk b x (λhm=>by rw [List.mem_singleton.mp hm] at e; exact Nat.lt_irrefl _ (Heap.lt_size e)) (Heap.get?_push_of_some _ e),rfl,q⟩
theorem Na:EM X (.builtin "isinstance") (λxs H Q=>∃x T t b,xs=[x,.ty T]/\Fp X.K H x t/\PySem.W.kitOne X.K t (.type T)=some b/\Q (.bl b) H):=by
 intro pins s σ H xs us Q I r h
 obtain⟨x,T,t,b,rfl,ty,e,q⟩:=h
 obtain⟨u,w',rfl,rx,rt⟩:=vals2 r
 cases rt
 exact Qp I rx ty e λtk=>⟨.bl b,H,I.tok _,rfl,q⟩
theorem QT:OpR X (compareOp .LtE) (λx y H Q=>∃i j,x=.str i/\y=.str j/\Q (.bl (!(j.cps.toList<i.cps.toList))) H):=by
 intro pins s σ H x y v u Q I rx ry h
 obtain⟨i,j,rfl,rfl,q⟩:=h
 obtain⟨t,rfl⟩:=rx
 obtain⟨t',rfl⟩:=ry
 exact PySem.P.le_str ⟨.bl _,H,I,rfl,q⟩
theorem IS{ys:List Str}:∀{us:List Value},Vals (ys.map V.str) us->StrsAre us ys:=by
 induction ys with
 | nil=>intro us r; rw [List.map_nil] at r; cases r; exact .nil
 | cons n ns ih =>
  intro us r
  rw [List.map_cons] at r
  cases r with
  | cons r1 r2 =>
   obtain⟨t,e⟩:=r1
   subst e
   exact .cons n t (ih r2)
theorem Th:XX X "str.join" (λx xs H Q=>∃(z:Str) (p:Addr) (ys:List Str),x=.str z/\xs=[.ref p]/\SqL X.K H p (ys.map V.str)/\(ys.map (·.length)).sum+ys.length*z.length<=16777216/\Q (.str (Txt.join z ys)) H):=by
 intro pins s σ H x xs v us Q I rx rv h
 obtain⟨z,p,ys,rfl,rfl,hq,hz,q⟩:=h
 obtain⟨t,rfl⟩:=rx
 obtain⟨u,rfl,ru⟩:=vals1 rv
 cases ru
 obtain⟨its,r',pl,_⟩:=I.list hq
 exact join_list pl.isList (IS r') hz λt' k=>⟨.str _,H,I.tok _,⟨_,rfl⟩,q⟩
theorem U3:SlR X (λx lo hi H Q=>∃z,x=.str z/\z.length<=sizeLine/\Q (.str (Txt.slice z lo hi)) H):=by
 intro pins s σ H x v vl vu lo hi sl Q I rx hs pl pu h
 obtain⟨z,rfl,hz,q⟩:=h
 obtain⟨t,rfl⟩:=rx
 refine⟨"str",_,F.slot_str_getitem.lookup,typeIs_str _ _ _,?_⟩
 have fin:∀t' k,EP X pins σ Q (.str (Txt.slice z lo hi) t') { s with toks:=k }:=λt' k=>⟨.str _,H,I.tok _,⟨_,rfl⟩,q⟩
 cases pl with
 | none =>
  cases pu with
  | none=>exact wpAny_getItem_str_slice (l:=none) (u:=none) (st:=none) hs rfl (post_val_or_str ⟨Nat.le_trans (Txt.slice_le z _ _) hz,λt' k=>fin t' k⟩)
  | int j tj=>exact wpAny_getItem_str_slice (l:=none) (u:=some (j,tj)) (st:=none) hs rfl (post_val_or_str ⟨Nat.le_trans (Txt.slice_le z _ _) hz,λt' k=>fin t' k⟩)
 | int i ti =>
  cases pu with
  | none=>exact wpAny_getItem_str_slice (l:=some (i,ti)) (u:=none) (st:=none) hs rfl (post_val_or_str ⟨Nat.le_trans (Txt.slice_le z _ _) hz,λt' k=>fin t' k⟩)
  | int j tj=>exact wpAny_getItem_str_slice (l:=some (i,ti)) (u:=some (j,tj)) (st:=none) hs rfl (post_val_or_str ⟨Nat.le_trans (Txt.slice_le z _ _) hz,λt' k=>fin t' k⟩)
theorem QR(hu:X.A.units<cLine):OpR X (compareOp .NotEq) (λx y H Q=>∃a b xs,x=.ref a/\y=.ref b/\SqL X.K H a xs/\SqL X.K H b []/\Q (.bl (!xs.isEmpty)) H):=by
 intro pins s σ H x y v u Q I rx ry h
 obtain⟨a,b,xs,rfl,rfl,ha,hb,q⟩:=h
 cases rx
 cases ry
 obtain⟨its,r1,p1,_⟩:=I.list ha
 obtain⟨its2,r2,p2,_⟩:=I.list hb
 cases r2
 cases r1 with
 | nil=>exact SeqAt.RcNeAt.lists (e:=λ_=>true) p1.isList p2.isList rfl hu (λj h1 h2=>absurd h1 (by simp)) X.prog X.w X.xe _ ⟨.bl _,H,I,rfl,q⟩
 | cons r1 r2=>exact SeqAt.RcNeAt.lists_lengths p1.isList p2.isList (by simp) hu X.prog X.w X.xe _ ⟨.bl _,H,I,rfl,q⟩
end
end L2
namespace Dp
open PySem PySem.Spec PyProof.Rows L2
def XQ(K:Frag)(F:Option (Addr×Addr))(U V' M:Addr->Prop)(H:Hp)(n:Nat)(ss:List Slot)(vs:List V):Prop :=
 (∀a,M a->∃o,H a=some o)/\(∀f,F=some f->U f.1)/\(∀a,U a->V' a)/\(∀a,V' a->M a)/\FeedC K F M H n/\Paired (Ky K F V' M H) vs ss
abbrev W2:=List Slot->Nat->(D->Nat->Prop)->Prop
def D_(K:Frag)(κ:Kd)(W:W2)(np:Nat):Sp:=λvs H Q _=>vs.length=np/\∃(F:Option (Addr×Addr)) (U V' M:Addr->Prop) (n:Nat) (ss:List Slot) (P:D->Nat->Prop),XQ K F U V' M H n ss vs/\W ss n P /\
 ∀v H' d n',Ext U H H'->FeedC K F M H' n'->VR K V' M H H' κ v d->P d n'->Q v H'
def AK(w:DW):Nat->List Slot->(Slot->Nat->Prop)->Prop:=λn ρ P=>w n ρ λd n1=>P (.sh d) n1
def Ei(w:DW):Nat->List Slot->(Slot->Nat->Prop)->Prop:=λn ρ P=>w n ρ λd n1=>P (.br d) n1
def BE(i:Nat):Nat->List Slot->(Slot->Nat->Prop)->Prop:=λn ρ P=>match ρ[i]? with
 | some .fd=>P .fd n
 | _=>False
def Ac:WB:=λn _ P=>P [] n
def AD(w:Nat->List Slot->(Slot->Nat->Prop)->Prop)(ws:WB):WB:=λn ρ P=>w n ρ λs n1=>ws n1 ρ λss n2=>P (s::ss) n2
def Aa(W:W2)(was:WB):DW:=λn ρ P=>was n ρ λss n1=>W ss n1 P
section
variable {X:Cx}{a b c e:Expr}{es:List Expr}{κ κa κb:Kd}{wa wb wc:DW}{pos:Pos}{w1:Nat->List Slot->(Slot->Nat->Prop)->Prop}{was:WB}{ws:FT}
theorem AQ(h:DE X e κ wa)(hk:κ≠.tp:=by intro z; cases z):Xn X e (AK wa):=by
 obtain⟨t,h1,h2⟩:=h
 refine⟨t,h1,λC M H n ρ σ P Q R w q=>h2 C M H n ρ σ _ _ R w λv H' d n' e f r p=>?_⟩
 exact q v H' (.sh d) n' e f ⟨⟨v,rfl,r.shOf R.dom hk⟩,rfl⟩ p
theorem Pm(h:DE X e κ wa):Xn X e (Ei wa):=by
 obtain⟨t,h1,h2⟩:=h
 refine⟨t,h1,λC M H n ρ σ P Q R w q=>h2 C M H n ρ σ _ _ R w λv H' d n' e f r p=>?_⟩
 exact q v H' (.br d) n' e f ⟨⟨v,rfl,r.tpOf R.dom R.vM⟩,rfl⟩ p
theorem Bs(i:Nat){x:Str}{pos:Pos}(hN:X.N[i]?=some x:=by rfl)(hv:V2 X.env.scope x:=by first | exact Or.inl rfl | exact Or.inr (Or.inl rfl) | exact Or.inr (Or.inr rfl))(hd:(x==("__debug__" : Str))=false:=by decide)
  (hcd:(x==("__classdict__" : Str))=false:=by decide):Xn X (.Name x pos) (BE i):=by
 refine⟨_,LW hN hv hd hcd,λC M H n ρ σ P Q R w q=>?_⟩
 unfold BE at w
 split at w
 ·rename_i hd
  obtain⟨f,e1,h1⟩:=R.sl i _ hd
  exact⟨.ref f.1,getD_some e1,q _ H .fd n (Ext.refl _ _) R.feed ⟨⟨f,rfl,h1⟩,rfl⟩ w⟩
 ·exact w.elim
theorem AN:XZ X [] Ac:=⟨_,DL,λC M H n ρ σ P Q R w q=>q [] H [] n (Ext.refl _ _) R.feed .nil w⟩
theorem AB(ha:Xn X e w1)(hr:XZ X es was)(hs:starEach (e::es) X.env=(false,eval e X.env)::starEach es X.env:=by rfl):XZ X (e::es) (AD w1 was):=by
 obtain⟨t,h1,h2⟩:=ha
 obtain⟨u,g1,g2⟩:=hr
 refine⟨_,B7 h1 g1 hs,λC M H n ρ σ P Q R w q=>?_⟩
 refine h2 C M H n ρ σ _ _ R w λv H1 d n1 e1 f1 r1 p=>?_
 have R1:=R.step e1 f1
 refine g2 C M H1 n1 ρ σ _ _ R1 p λvs H2 ds n2 e2 f2 r2 p2=>?_
 exact q (v::vs) H2 (d::ds) n2 (e1.trans e2) f2 (.cons ⟨r1.1.pres (R1.pres e2) (λ_ z=>z) e2 R.uV,r1.2⟩ r2) p2
theorem T5{k:Nat}{f:Addr}{fd:FuncData}{ps:List Str}{W:W2}{x:Str}{p:Pos}(G:BK X.prog X.w X.K X.mg X.base DB k f fd ps (D_ X.K κ W ps.length))(hW:∀ss n P,W ss n P->ss.length=ps.length)
  (hr:Room k X.A) (hg:Gl X x) (hm:X.mg x=some (.ref f)) (hk:keepIn X.K (.ref f)=true) (hb:Binds X.K fd ps []) (ha:XZ X (e::es) was)
  (hdb:(x==("__debug__" : Str))=false:=by decide) (he:starEach (e::es) X.env=(false,eval e X.env)::starEach es X.env:=by rfl) (hpl:(backTo pos (starEach es X.env)).any (·.1)=false:=by rfl) :
  DE X (.Call (.Name x p) (e::es) [] pos) κ (Aa W was):=by
 obtain⟨t,h1,h2⟩:=ha
 refine⟨_,O_ G hr hg hm hk hb .nil UV h1 hdb he hpl,λC M H n ρ σ P Q R w q=>?_⟩
 refine h2 C M H n ρ σ _ _ R w λvs H1 ss n1 e1 f1 r1 p=>?_
 have R1:=R.step e1 f1
 show D_ X.K κ W ps.length (vs++[]) H1 Q E0
 rw [List.append_nil]
 refine⟨(Paired.length r1).trans (hW _ _ _ p),C.F,C.U,C.V,M,n1,ss,P,⟨R1.dom,R1.fU,R1.uV,R1.vM,f1,r1⟩,p,λv H2 d n2 e2 f2 r2 p2=>?_⟩
 exact q v H2 d n2 (e1.trans e2) f2 (VR.back e1 r2) p2
def YV(K:Frag)(κ:Kd)(T:String)(r:V->List V->Hp->VK->Prop)(f:D->List D->(D->Prop)->Prop):Prop:=∀(U:Addr->Prop) (M:Addr->Prop) (H:Hp) (d:D) (ds:List D) (x:V) (vs:List V) (P:D->Prop) (Q:VK),(∀a,M a->∃o,H a=some o)->(∀a,U a->M a) ->
 AtT K U M H d x->Paired (λv d=>AtT K U M H d v) vs ds->f d ds P->(∀v H' z,Grow H H'->VR K U M H H' κ v z->P z->Q v H')->r x vs H Q
def Xh(T:String)(d:D):Prop:=match d with
 | .str _=>T = "str"
 | .int _=>T = "int"
 | .lst _=>T = "list"
 | _=>False
def Xo(T:String)(f:D->List D->(D->Prop)->Prop)(wo:DW)(ws:FT):DW:=λn ρ P=>wo n ρ λd n1=>Xh T d/\ws n1 ρ λds n2=>f d ds λz=>P z n2
theorem OV{T:String}{K:Frag}{U:Addr->Prop}{M:Addr->Prop}{H:Hp}{d:D}{x:V}(h:Xh T d)(hx:AtT K U M H d x):Xp K T x H:=by
 cases d with
 | str z=>obtain⟨e,_⟩:=hx; subst e; exact h
 | int i=>cases (show x=.int i from hx); exact h
 | lst ds=>obtain⟨a,vs,e,_,hq,_⟩:=hx; subst e; exact .inl ⟨h,vs,.inl hq⟩
 | _=>exact(show False from h).elim
theorem XG{name:Str}{apos cpos:Pos}{T id:String}{r:V->List V->Hp->VK->Prop}{f:D->List D->(D->Prop)->Prop}(pa:PlainAttrs T)(slot:PySem.Slot T name id)(hty:typeOf (.builtin id)=pure (.type "method_descriptor"))(hm:XX X id r)
  (hA:YV X.K κ T r f) (ho:DE X a κa wa) (ha:T_ X (e::es) ws)
  (hbase:attributeBase a name X.env (eval a X.env)=eval a X.env:=by rfl)
  (hfew:((backTo cpos (starEach (e::es) X.env)).all (λx=>!x.1)&&(backToKw cpos (keywordEach [] X.env)).all (λx=>x.1.isSome)
   && decide ((e::es).length+([]:List Keyword).length+(if ([]:List Keyword).isEmpty then 0 else 1)<30))=true:=by rfl)
  (hline:(apos.endLine==cpos.line)=true:=by rfl) (hs:starEach (e::es) X.env=(false,eval e X.env)::starEach es X.env:=by rfl) (hplain:(backTo cpos (starEach es X.env)).any (·.1)=false:=by rfl) :
  DE X (.Call (.Attribute a name apos) (e::es) [] cpos) κ (Xo T f wa ws):=by
 obtain⟨t,h1,h2⟩:=ho
 obtain⟨u,g1,g2⟩:=ha
 refine⟨_,R0 pa slot hty hm h1 g1 hbase hfew hline hs hplain,λC M H n ρ σ P Q R w q=>?_⟩
 refine h2 C M H n ρ σ _ _ R w λx H1 d n1 e1 f1 r1 p=>?_
 have R1:=R.step e1 f1
 have tx:=r1.tpOf R.dom R.vM
 refine⟨OV p.1 tx,?_⟩
 refine g2 C M H1 n1 ρ σ _ _ R1 p.2 λvs H2 ds n2 e2 f2 r2 p2=>?_
 have R2':=R1.step e2 f2
 refine hA C.V M H2 d ds x vs _ _ R2'.dom R2'.vM (tx.pres (R1.pres e2) e2 R.uV) r2 p2 λv H3 z g vr pz=>?_
 exact q v H3 z n2 ((e1.trans e2).trans g.ext) (f2.grow g) (VR.back (e1.trans e2) vr) pz
def DO(X:Cx)(e:Option Expr)(w:Nat->List Slot->(Option Int->Nat->Prop)->Prop):Prop:=∃t,PO X e t/\∀(C:Fm) (M:Addr->Prop) (H:Hp) (n:Nat) (ρ:List Slot) (σ:L2.St) (P:Option Int->Nat->Prop) (Q:Option Int->Hp->Prop),Rel X.K C M H n ρ σ->w n ρ P ->
 (∀o H' n',Ext C.U H H'->FeedC X.K C.F M H' n'->P o n'->Q o H')->t σ H Q
def Co:Nat->List Slot->(Option Int->Nat->Prop)->Prop:=λn _ P=>P none n
def Ck(w:DW):Nat->List Slot->(Option Int->Nat->Prop)->Prop:=λn ρ P=>w n ρ λd n1=>match d with
 | .int i=>P (some i) n1
 | _=>False
theorem ET:DO X none Co:=⟨_,O8,λC M H n ρ σ P Q R w q=>q none H n (Ext.refl _ _) R.feed w⟩
theorem Lr{U:Addr->Prop}{K:Frag}{M:Addr->Prop}{H H':Hp}{v:V}{i:Int}(h:VR K U M H H' κ v (.int i)):v=.int i:=by
 cases κ with
 | sh=>exact h
 | tp=>exact h
 | fr=>obtain⟨a,_,_,t⟩:=h; exact(show False from t).elim
theorem Cq(h:DE X e κ wa):DO X (some e) (Ck wa):=by
 obtain⟨t,h1,h2⟩:=h
 refine⟨_,O7 h1,λC M H n ρ σ P Q R w q=>?_⟩
 refine h2 C M H n ρ σ _ _ R w λv H1 d n1 e1 f1 r1 p=>?_
 cases d with
 | int i=>exact⟨i,Lr r1,q _ H1 n1 e1 f1 p⟩
 | _=>exact p.elim
def YR(K:Frag)(κ:Kd)(r:V->Option Int->Option Int->Hp->VK->Prop)(f:D->Option Int->Option Int->(D->Prop)->Prop):Prop:=∀(U:Addr->Prop) (M:Addr->Prop) (H:Hp) (d:D) (x:V) (lo hi:Option Int) (P:D->Prop) (Q:VK),(∀a,M a->∃o,H a=some o)->(∀a,U a->M a) ->
 AtT K U M H d x->f d lo hi P->(∀v H' z,Grow H H'->VR K U M H H' κ v z->P z->Q v H')->r x lo hi H Q
def Nx(f:D->Option Int->Option Int->(D->Prop)->Prop)(w:DW)(wl wh:Nat->List Slot->(Option Int->Nat->Prop)->Prop):DW:=λn ρ P=>w n ρ λd n1=>wl n1 ρ λlo n2=>wh n2 ρ λhi n3=>f d lo hi λz=>P z n3
theorem GS{lo hi:Option Expr}{p2:Pos}{r:V->Option Int->Option Int->Hp->VK->Prop}{f:D->Option Int->Option Int->(D->Prop)->Prop}{wl wh:Nat->List Slot->(Option Int->Nat->Prop)->Prop}(hr:SlR X r)(hA:YR X.K κ r f)(he:DE X e κa wa)(hl:DO X lo wl)(hh:DO X hi wh) :
  DE X (.Subscript e (.Slice lo hi none p2) pos) κ (Nx f wa wl wh):=by
 obtain⟨t,h1,h2⟩:=he
 obtain⟨u,g1,g2⟩:=hl
 obtain⟨u',k1,k2⟩:=hh
 refine⟨_,Me hr h1 g1 k1,λC M H n ρ σ P Q R w q=>?_⟩
 refine h2 C M H n ρ σ _ _ R w λv H1 d n1 e1 f1 r1 p=>?_
 have R1:=R.step e1 f1
 have tv:=r1.tpOf R.dom R.vM
 refine g2 C M H1 n1 ρ σ _ _ R1 p λlo H2 n2 e2 f2 p2=>?_
 have R2':=R1.step e2 f2
 refine k2 C M H2 n2 ρ σ _ _ R2' p2 λhi H3 n3 e3 f3 p3=>?_
 have R3:=R2'.step e3 f3
 refine hA C.V M H3 d v lo hi _ _ R3.dom R3.vM ((tv.pres (R1.pres e2) e2 R.uV).pres (R2'.pres e3) e3 R.uV) p3 λv H4 z g vr pz=>?_
 exact q v H4 z n3 (((e1.trans e2).trans e3).trans g.ext) (f3.grow g) (VR.back ((e1.trans e2).trans e3) vr) pz
end
structure E2 where
 nx:Nat->List Slot->Prop
 rt:D->Nat->Prop
 bk:Nat->List Slot->Prop:=λ_ _=>False
 ct:Nat->List Slot->Prop:=λ_ _=>False
abbrev Al:=E2->Nat->List Slot->Prop
structure S3 (K:Frag) (C:Fm) (κ:Kd) (D2:E2) (E:Ends):Prop where
 nx:∀M H n ρ σ,Rel K C M H n ρ σ->D2.nx n ρ->E.nx σ H
 rt:∀v H d n,Ext C.U C.H0 H->FeedC K C.F C.M0 H n->VR K C.V C.M0 C.H0 H κ v d->D2.rt d n->E.rt v H
 bk:∀M H n ρ σ,Rel K C M H n ρ σ->D2.bk n ρ->E.bk σ H
 ct:∀M H n ρ σ,Rel K C M H n ρ σ->D2.ct n ρ->E.ct σ H
def DS(X:Cx)(κ:Kd)(st:Stmt)(w:Al):Prop:=∃t,PS X st t/\∀(C:Fm) (M:Addr->Prop) (H:Hp) (n:Nat) (ρ:List Slot) (σ:L2.St) (D2:E2) (E:Ends),Rel X.K C M H n ρ σ->S3 X.K C κ D2 E->w D2 n ρ->t E σ H
def S5(X:Cx)(κ:Kd)(st:List Stmt)(w:Al):Prop:=∃t,PSs X st t/\∀(C:Fm) (M:Addr->Prop) (H:Hp) (n:Nat) (ρ:List Slot) (σ:L2.St) (D2:E2) (E:Ends),Rel X.K C M H n ρ σ->S3 X.K C κ D2 E->w D2 n ρ->t E σ H
def Au:Al:=λD2 n ρ=>D2.nx n ρ
def Ae(u v:Al):Al:=λD2 n ρ=>u { D2 with nx:=v D2 } n ρ
def As(w:DW):Al:=λD2 n ρ=>w n ρ λd n1=>D2.rt d n1
def BD(t:Ht)(u v:Al):Al:=λD2 n ρ=>t n ρ λc n1=>if c=true then u D2 n1 ρ else v D2 n1 ρ
def A0(i:Nat)(w:DW):Al:=λD2 n ρ=>w n ρ λd n1=>D2.nx n1 (ρ.set i (.sh d))
section
variable {X:Cx}{κ κe:Kd}{st:Stmt}{rest:List Stmt}{u v:Al}{wa:DW}{wA:Ht}{e c:Expr}{pos:Pos}
theorem Am:S5 X κ [] Au:=⟨_,LR,λC M H n ρ σ D2 E R L w=>L.nx M H n ρ σ R w⟩
theorem AE(h1:DS X κ st u)(h2:S5 X κ rest v):S5 X κ (st::rest) (Ae u v):=by
 obtain⟨t,a1,a2⟩:=h1
 obtain⟨t',b1,b2⟩:=h2
 refine⟨_,BU a1 b1,λC M H n ρ σ D2 E R L w=>?_⟩
 exact a2 C M H n ρ σ { D2 with nx:=v D2 } { E with nx:=t' E } R ⟨λM H n ρ σ R w=>b2 C M H n ρ σ D2 E R L w,L.rt,L.bk,L.ct⟩ w
theorem AI(h1:DS X κ st u):S5 X κ [st] u:=by
 obtain⟨t,a1,a2⟩:=h1
 exact⟨t,Dw a1,a2⟩
theorem U6{K:Frag}{C:Fm}{M:Addr->Prop}{H H':Hp}{n n':Nat}{ρ:List Slot}{σ:L2.St}{D2:E2}{E:Ends}{d:D}{v:V}(R:Rel K C M H n ρ σ)(L:S3 K C κ D2 E)(e:Ext C.U H H')(f:FeedC K C.F M H' n')(r:VR K C.V M H H' κ v d)(hk:κ≠.tp)(p:D2.rt d n'):E.rt v H':=by
 have less:Pres M H' C.M0 H':=Pres.less R.sub
 refine L.rt v H' d n' (R.ext.trans e) (f.pres less λ_ _ _ z=>z) ?_ p
 cases κ with
 | sh=>exact At.pres less r
 | tp=>exact absurd rfl hk
 | fr =>
  have r':=VR.back (κ:=.fr) R.ext r
  obtain⟨a,e1,h1,h2⟩:=r'
  exact⟨a,e1,h1,h2.pres (Pres.less λb z=>z.imp (R.sub b) id) λ_ z=>z⟩
theorem AV(h:DE X e κ wa)(hk:κ≠.tp:=by intro z; cases z):DS X κ (.Return (some e) pos) (As wa):=by
 obtain⟨t,a1,a2⟩:=h
 refine⟨_,Fh a1,λC M H n ρ σ D2 E R L w=>?_⟩
 exact a2 C M H n ρ σ _ _ R w λv H' d n' e1 f1 r1 p=>U6 R L e1 f1 r1 hk p
theorem Az{a b:List Stmt}(hc:DT X c wA)(ha:S5 X κ a u)(hb:S5 X κ b v):DS X κ (.If c a b pos) (BD wA u v):=by
 obtain⟨t,a1,a2⟩:=hc
 obtain⟨t',b1,b2⟩:=ha
 obtain⟨t'',c1,c2⟩:=hb
 refine⟨_,Rm a1 b1 c1,λC M H n ρ σ D2 E R L w=>?_⟩
 refine a2 C M H n ρ σ _ _ R w λb H1 n1 e1 f1 p=>?_
 cases b with
 | true=>exact b2 C M H1 n1 ρ σ D2 E (R.step e1 f1) L p
 | false=>exact c2 C M H1 n1 ρ σ D2 E (R.step e1 f1) L p
theorem Aq{i:Nat}{x:Str}{pos':Pos}(hN:X.N.Nodup)(hi:X.N[i]?=some x)(hx:Loc X.env.scope x)(he:DE X e κe wa)(hk:κe≠.tp:=by intro z; cases z)(hs:swapsWith e (some (.Name x pos')) pos.line X.env=pure false:=by rfl)
  (hf:X.fn x=true\/X.env.scope.names.lookup x=some .local:=by first | exact .inl rfl | exact .inr rfl | assumption):DS X κ (.Assign [.Name x pos'] e pos) (A0 i wa):=by
 obtain⟨t,a1,a2⟩:=he
 refine⟨_,Eo hN hi hx a1 hs hf,λC M H n ρ σ D2 E R L w=>?_⟩
 refine a2 C M H n ρ σ _ _ R w λv H' d n' e1 f1 r1 p=>?_
 exact L.nx M H' n' _ _ ((R.step e1 f1).set (r1.shOf R.dom hk)) p
end
section
variable {X:Cx}{κ κe:Kd}{e:Expr}{wa:DW}{pos:Pos}
def EX(i:Nat)(w:DW):Al:=λD2 n ρ=>w n ρ λd n1=>D2.nx n1 (ρ.set i (.ow d))
theorem ES{i:Nat}{x:Str}{pos':Pos}(hN:X.N.Nodup)(hi:X.N[i]?=some x)(hx:Loc X.env.scope x)(he:DE X e .fr wa)(hs:swapsWith e (some (.Name x pos')) pos.line X.env=pure false:=by rfl)
  (hf:X.fn x=true\/X.env.scope.names.lookup x=some .local:=by first | exact .inl rfl | exact .inr rfl | assumption):DS X κ (.Assign [.Name x pos'] e pos) (EX i wa):=by
 obtain⟨t,a1,a2⟩:=he
 refine⟨_,Eo hN hi hx a1 hs hf,λC M H n ρ σ D2 E R L w=>?_⟩
 refine a2 C M H n ρ σ _ _ R w λv H' d n' e1 f1 r1 p=>?_
 obtain⟨a,rfl,h1,h2⟩:=r1
 exact L.nx _ H' n' _ _ (R.setOw e1 f1 h1 h2) p
def MH(i:Nat):Al:=λD2 n ρ=>∃d,ρ[i]?=some (.ow d)/\D2.rt d n
theorem Ph{x:Str}{p:Pos}(i:Nat)(h:PE X (.Name x p) (CN i)):DS X .fr (.Return (some (.Name x p)) pos) (MH i):=by
 refine⟨_,Fh h,λC M H n ρ σ D2 E R L ⟨d,hd,hw⟩=>?_⟩
 obtain⟨a,e1,m,nv,t⟩:=R.sl i _ hd
 refine⟨.ref a,getD_some e1,L.rt _ H d n R.ext (R.feed.pres (Pres.less R.sub) λ_ _ _ z=>z) ⟨a,rfl,(R.new i _ a hd rfl e1).2,?_⟩ hw⟩
 exact t.pres (Pres.less λb z=>z.elim (R.sub b) λz=>by rw [z]; exact m) λ_ z=>z
def V8(K:Frag)(r:V->List V->Hp->VK->Prop)(f:D->List D->(D->D->Prop)->Prop):Prop:=∀(M:Addr->Prop) (H:Hp) (a:Addr) (d:D) (ds:List D) (vs:List V) (P:D->D->Prop) (Q:VK),M a->Tops K M H a d->Ats K M H ds vs->f d ds P ->
 (∀o e z v,Tops K M (BG H a o) a e->At K M (BG H a o) z v->P e z->Q v (BG H a o))->r (.ref a) vs H Q
def P4(i:Nat)(T:String)(f:D->List D->(D->D->Prop)->Prop)(ws:FT):Al:=λD2 n ρ=>∃d,ρ[i]?=some (.ow d)/\Xh T d/\ws n ρ λds n1=>f d ds λe _=>D2.nx n1 (ρ.set i (.ow e))
theorem EN{M:Addr->Prop}{H:Hp}{a:Addr}{o u:HO}(m:M a)(e:H a=some u)(t:∀vs,u≠.tup vs:=by intro _ z; cases z):Pres M H M (BG H a o):=⟨λb o' q nb=>by rw [AT (λz=>nb (by rw [z]; exact m))]; exact q,λ_ z=>.inl z,λb vs q=>by rw [AT (λz=>by rw [z,e] at q; exact t vs (Option.some.inj q))]; exact q⟩
theorem Ki{x name:Str}{p apos cpos:Pos}{T id:String}{r:V->List V->Hp->VK->Prop}{f:D->List D->(D->D->Prop)->Prop}{es:List Expr}{ws:FT}(i:Nat)(pa:PlainAttrs T)(slot:PySem.Slot T name id)(hty:typeOf (.builtin id)=pure (.type "method_descriptor"))
  (hm:XX X id r) (hA:V8 X.K r f) (h:PE X (.Name x p) (CN i)) (ha:WD X (e::es) ws)
  (hbase:attributeBase (.Name x p) name X.env (eval (.Name x p) X.env)=eval (.Name x p) X.env:=by rfl)
  (hfew:((backTo cpos (starEach (e::es) X.env)).all (λx=>!x.1)&&(backToKw cpos (keywordEach [] X.env)).all (λx=>x.1.isSome)
   && decide ((e::es).length+([]:List Keyword).length+(if ([]:List Keyword).isEmpty then 0 else 1)<30))=true:=by rfl)
  (hline:(apos.endLine==cpos.line)=true:=by rfl) (hs:starEach (e::es) X.env=(false,eval e X.env)::starEach es X.env:=by rfl) (hplain:(backTo cpos (starEach es X.env)).any (·.1)=false:=by rfl)
  (hsw:swapsWith (.Call (.Attribute (.Name x p) name apos) (e::es) [] cpos) none pos.line X.env=pure false:=by rfl) :
  DS X κ (.Expr (.Call (.Attribute (.Name x p) name apos) (e::es) [] cpos) pos) (P4 i T f ws):=by
 obtain⟨t,a1,a2⟩:=ha
 refine⟨_,O6 (R0 pa slot hty hm h a1 hbase hfew hline hs hplain) hsw,λC M H n ρ σ D2 E R L ⟨d,hd,hT,hw⟩=>?_⟩
 obtain⟨a,e1,m,nv,tt⟩:=R.sl i _ hd
 refine⟨.ref a,getD_some e1,OV hT (tt.att nv),?_⟩
 refine a2 C M H n ρ σ _ _ R hw λvs H1 ds n1 ee f1 r1 p=>?_
 have R1:=R.step ee f1
 obtain⟨a',e1',m',nv',tt'⟩:=R1.sl i _ hd
 rw [e1] at e1'
 cases e1'
 exact hA M H1 a d ds vs _ _ m' tt' r1 p λo d' z v t2 hz pp=>L.nx M _ n1 _ σ (R1.mut hd e1 t2) pp
def Hr(d:D)(ds:List D)(P:D->D->Prop):Prop:=∃xs y,d=.lst xs/\ds=[y]/\xs.length<sizeLine/\P (.lst (xs++[y])) .non
theorem Nj{K:Frag}:V8 K O1 Hr:=by
 intro M H a d ds vs P Q m t hv w q
 obtain⟨xs,y,rfl,rfl,hl,w⟩:=w
 obtain⟨us,h1,h2⟩:=t
 obtain⟨u,r,rfl,hu,hr⟩:=hv
 cases (show r=[] from hr)
 refine⟨a,us,u,rfl,rfl,h1,by rw [h2.length]; exact hl,q _ (.lst (xs++[y])) .non _ ⟨us++[u],Ak,?_⟩ rfl w⟩
 exact(h2.append (Ats.one hu)).pres (EN m h1)
end
def Yields(K:Frag)(M:Addr->Prop)(H:Hp)(J:It)(ds:List D):Prop:=∀(i:Nat) (M':Addr->Prop) (H':Hp),Pres M H M' H'->(∀a,M' a->∃o,H' a=some o) ->
 (∀d,ds[i]?=some d->J.go i H'/\∀x H2,J.yld i H' x H2->Grow H' H2/\At K M' H2 d x)/\(ds.length<=i->J.stop i H')
def Py(K:Frag)(U M:Addr->Prop)(H:Hp)(J:It)(ds:List D):Prop:=∀(i:Nat) (M':Addr->Prop) (H':Hp),Pres M H M' H'->Ext U H H'->(∀a,M' a->∃o,H' a=some o) ->
 (∀d,ds[i]?=some d->J.go i H'/\∀x H2,J.yld i H' x H2->Grow H' H2/\At K M' H2 d x)/\(ds.length<=i->J.stop i H')
theorem Yields.e{K:Frag}{U M:Addr->Prop}{H:Hp}{J:It}{ds:List D}(h:Yields K M H J ds):Py K U M H J ds:=λi M' H' p _ d=>h i M' H' p d
def WC(X:Cx)(tg iter:Expr)(w:FT):Prop:=∃wi,PI X tg iter wi/\∀(C:Fm) (M:Addr->Prop) (H:Hp) (n:Nat) (ρ:List Slot) (σ:L2.St) (P:List D->Nat->Prop) (R:It->Hp->Prop),Rel X.K C M H n ρ σ->w n ρ P ->
 (∀J H' ds n',Ext C.U H H'->FeedC X.K C.F M H' n'->Py X.K C.U M H' J ds->P ds n'->R J H')->wi σ H R
def DI(X:Cx)(tg iter:Expr)(w:FT):Prop:=∃wi,PI X tg iter wi/\∀(C:Fm) (M:Addr->Prop) (H:Hp) (n:Nat) (ρ:List Slot) (σ:L2.St) (P:List D->Nat->Prop) (R:It->Hp->Prop),Rel X.K C M H n ρ σ->w n ρ P ->
 (∀J H' ds n',Ext C.U H H'->FeedC X.K C.F M H' n'->Yields X.K M H' J ds->P ds n'->R J H')->wi σ H R
def signs(x:Str):List D:=x.cps.toList.map λc=>.str ⟨#[c]⟩
def BL(w:DW):FT:=λn ρ P=>w n ρ λd n1=>match d with
 | .lst ds=>P ds n1
 | .tup ds=>P ds n1
 | .str x=>P (signs x) n1
 | _=>False
theorem MF{K:Frag}{M:Addr->Prop}{H:Hp}{a:Addr}{vs:List V}{ds:List D}(h:NdL M H a vs)(hs:Ats K M H ds vs):Yields K M H (YJ K a) ds:=by
 intro i M' H' p _
 have hq:SqL K H' a vs:=(h.pres p).sq
 refine⟨λd hd=>?_,λhl=>⟨vs,hq,by rw [hs.length]; exact hl⟩⟩
 obtain⟨v,e,hv⟩:=(hs.pres p).get hd
 refine⟨⟨vs,v,hq,e⟩,λx H2 y=>?_⟩
 obtain⟨e2,y⟩:=y
 subst e2
 have:some v=some x:=e.symm.trans (y vs hq)
 cases this
 exact⟨.refl,hv⟩
theorem IH{K:Frag}{M:Addr->Prop}{H:Hp}{a:Addr}{vs:List V}{ds:List D}(h:NdT M H a vs)(hs:Ats K M H ds vs):Yields K M H (V_ K a) ds:=by
 intro i M' H' p _
 have hq:SqT K H' a vs:=(h.pres p).sq
 refine⟨λd hd=>?_,λhl=>⟨vs,hq,by rw [hs.length]; exact hl⟩⟩
 obtain⟨v,e,hv⟩:=(hs.pres p).get hd
 refine⟨⟨vs,v,hq,e⟩,λx H2 y=>?_⟩
 obtain⟨e2,y⟩:=y
 subst e2
 have:some v=some x:=e.symm.trans (y vs hq)
 cases this
 exact⟨.refl,hv⟩
theorem yields_str{K:Frag}{M:Addr->Prop}{H:Hp}{z:Str}:Yields K M H (YI z) (signs z):=by
 intro i M' H' p _
 refine⟨λd hd=>?_,λhl=>?_⟩
 ·unfold signs at hd
  rw [List.getElem?_map] at hd
  have hi:i<z.cps.size:=by
   cases q:z.cps.toList[i]? with
   | none=>rw [q] at hd; cases hd
   | some c=>simpa using (List.getElem?_eq_some_iff.mp q).1
  refine⟨hi,λx H2 y=>?_⟩
  obtain⟨e2,c,hc,rfl⟩:=y
  subst e2
  have:z.cps.toList[i]?=some c:=by simpa using hc
  rw [this] at hd
  have hd':D.str ⟨#[c]⟩=d:=Option.some.inj hd
  subst hd'
  exact⟨.refl,rfl,by rw [sizeLine_eq]; show 1<=16777216; decide⟩
 ·show z.cps.size<=i
  unfold signs at hl
  simpa using hl
def C2(lo:Int)(n:Nat):List D:=(List.range n).map fun(i:Nat)=>.int (lo+(i:Int))
theorem Fq{K:Frag}{M:Addr->Prop}{H:Hp}{lo:Int}{m:Nat}:Yields K M H (XY lo m) (C2 lo m):=by
 intro i M' H' p _
 refine⟨λd hd=>?_,λhl=>?_⟩
 ·unfold C2 at hd
  rw [List.getElem?_map] at hd
  have hi:i<m:=by
   cases q:(List.range m)[i]? with
   | none=>rw [q] at hd; cases hd
   | some c=>simpa using (List.getElem?_eq_some_iff.mp q).1
  rw [List.getElem?_range hi] at hd
  have hd':D.int (lo+i)=d:=Option.some.inj hd
  subst hd'
  refine⟨hi,λx H2 y=>?_⟩
  obtain⟨e2,e3⟩:=y
  subst e2
  exact⟨.refl,e3⟩
 ·show m<=i
  unfold C2 at hl
  simpa using hl
section
variable {X:Cx}{tg e e2:Expr}{es:List Expr}{κ:Kd}{wa:DW}{ws:FT}{p pos:Pos}
theorem OZ(h:DE X e κ wa)(hk:κ≠.tp:=by intro z; cases z):DI X tg e (BL wa):=by
 obtain⟨t,a1,a2⟩:=h
 refine⟨_,OG a1,λC M H n ρ σ P Rr R w q=>?_⟩
 refine a2 C M H n ρ σ _ _ R w λv H1 d n1 e1 f1 r1 p=>?_
 have hv:=r1.shOf R.dom hk
 cases d with
 | lst ds =>
  obtain⟨a,vs,e,hn,hs⟩:=hv
  exact .inl ⟨a,e,⟨vs,hn.sq⟩,q _ H1 ds n1 e1 f1 (MF hn hs) p⟩
 | tup ds =>
  obtain⟨a,vs,e,hn,hs⟩:=hv
  exact .inr (.inl ⟨a,e,⟨vs,hn.sq⟩,q _ H1 ds n1 e1 f1 (IH hn hs) p⟩)
 | str z=>exact .inr (.inr ⟨z,hv.1,q _ H1 _ n1 e1 f1 yields_str p⟩)
 | _=>exact p.elim
def EB(ws:FT):FT:=λn ρ P=>ws n ρ λds n1=>∃j:Int,ds=[.int j]/\(-(2 ^ 62)<=j/\j<2 ^ 62)/\P (C2 0 j.toNat) n1
theorem Cj(hg:Gl X "range")(hm:X.mg "range"=none)(ha:T_ X [e] ws)(hs:starEach [e] X.env=[(false,eval e X.env)]:=by rfl):DI X tg (.Call (.Name "range" p) [e] [] pos) (EB ws):=by
 obtain⟨t,a1,a2⟩:=ha
 refine⟨_,QN hg hm a1 hs,λC M H n ρ σ P Rr R w q=>?_⟩
 refine a2 C M H n ρ σ _ _ R w λvs H1 ds n1 e1 f1 r1 p=>?_
 obtain⟨j,rfl,hj,p⟩:=p
 cases r1 with
 | cons r rr =>
  cases rr
  have hv:_=V.int j:=r
  exact⟨j,by rw [hv],hj.1,hj.2,q _ H1 _ n1 e1 f1 Fq p⟩
theorem DI.c(h:DI X tg e ws):WC X tg e ws:=by
 obtain⟨wi,a1,a2⟩:=h
 exact⟨wi,a1,λC M H n ρ σ P Rr R w q=>a2 C M H n ρ σ P Rr R w λJ H' ds n' e1 f1 y p=>q J H' ds n' e1 f1 y.e p⟩
theorem BP(h:DE X e κ wa):WC X tg e (BL wa):=by
 obtain⟨t,a1,a2⟩:=h
 refine⟨_,OG a1,λC M H n ρ σ P Rr R w q=>?_⟩
 refine a2 C M H n ρ σ _ _ R w λv H1 d n1 e1 f1 r1 p=>?_
 have hv:AtT X.K C.V M H1 d v:=r1.tpOf R.dom R.vM
 cases d with
 | lst ds =>
  obtain⟨a,vs,e,nv,hr,hs⟩:=hv
  refine .inl ⟨a,e,⟨vs,.inl hr⟩,q _ H1 ds n1 e1 f1 (λi M' H' pr ex _=>?_) p⟩
  have hq:SqL X.K H' a vs:=by
   rcases hr with hr | ⟨o,hr⟩
   ·exact .inl (.inl (ex.keep hr λz=>nv (R.uV a z)))
   ·exact .inl (.inr ⟨o,ex.keep hr λz=>nv (R.uV a z)⟩)
  refine⟨λd hd=>?_,λhl=>⟨vs,hq,by rw [hs.length]; exact hl⟩⟩
  obtain⟨v,e,hv⟩:=(hs.pres pr).get hd
  refine⟨⟨vs,v,hq,e⟩,λx H2 y=>?_⟩
  obtain⟨e2,y⟩:=y
  subst e2
  have:some v=some x:=e.symm.trans (y vs hq)
  cases this
  exact⟨.refl,hv⟩
 | tup ds =>
  obtain⟨a,vs,e,hn,hs⟩:=hv
  exact .inr (.inl ⟨a,e,⟨vs,hn.sq⟩,q _ H1 ds n1 e1 f1 (IH hn hs).e p⟩)
 | str z=>exact .inr (.inr ⟨z,hv.1,q _ H1 _ n1 e1 f1 yields_str.e p⟩)
 | _=>exact p.elim
end
abbrev BW:=D->List Slot->(List Slot->Prop)->Prop
def DG(X:Cx)(tg:Expr)(b:BW):Prop:=∃g,PG X tg g/\∀(C:Fm) (M:Addr->Prop) (H:Hp) (n:Nat) (ρ:List Slot) (σ:L2.St) (d:D) (v:V) (P:List Slot->Prop) (Q:L2.St->Hp->Prop),Rel X.K C M H n ρ σ->At X.K M H d v->b d ρ P ->
 (∀ρ' σ',Rel X.K C M H n ρ' σ'->P ρ'->Q σ' H)->g v σ H Q
def AX(i:Nat):BW:=λd ρ P=>P (ρ.set i (.sh d))
theorem AY{X:Cx}{i:Nat}{x:Str}{pos:Pos}(hN:X.N.Nodup)(hi:X.N[i]?=some x)(hx:Loc X.env.scope x)(hf:X.fn x=true\/X.env.scope.names.lookup x=some .local:=by first | exact .inl rfl | exact .inr rfl | assumption):DG X (.Name x pos) (AX i) :=
 ⟨_,F_ hN hi hx hf,λC M H n ρ σ d v P Q R h w q=>q _ _ (R.set h) w⟩
def Bj(b:BW)(body:Al)(D2:E2):List D->Nat->List Slot->Prop
 | [],n,ρ=>D2.nx n ρ
 | d::ds,n,ρ=>b d ρ λρ1=>body { D2 with nx:=Bj b body D2 ds,ct:=Bj b body D2 ds,bk:=D2.nx } n ρ1
def Ek(src:FT)(b:BW)(body:Al):Al:=λD2 n ρ=>src n ρ λds n1=>Bj b body D2 ds n1 ρ
theorem Rel.unpin{K:Frag}{C:Fm}{p:(Addr->Prop)×Hp}{M:Addr->Prop}{H:Hp}{n:Nat}{ρ:List Slot}{σ:L2.St}(R:Rel K { C with pins:=p::C.pins } M H n ρ σ):Rel K C M H n ρ σ :=
 ⟨R.len,R.sub,R.dom,R.ext,R.fU,R.uV,R.vM,R.feed,R.sl,λq hq=>R.pin q (List.mem_cons_of_mem _ hq),R.br0,R.new,R.two,R.kept⟩
theorem Rel.pinned{K:Frag}{C:Fm}{M:Addr->Prop}{H:Hp}{n:Nat}{ρ:List Slot}{σ:L2.St}(R:Rel K C M H n ρ σ):Rel K { C with pins:=(M,H)::C.pins } M H n ρ σ :=
 ⟨R.len,R.sub,R.dom,R.ext,R.fU,R.uV,R.vM,R.feed,R.sl,λq hq=>(List.mem_cons.mp hq).elim (λe=>e▸Pres.refl M H) (R.pin q),R.br0,R.new,R.two,R.kept⟩
section
variable {X:Cx}{κ:Kd}{tg iter:Expr}{body:List Stmt}{src:FT}{b:BW}{wb:Al}{pos:Pos}
theorem C_(hp:PassesOwn (model X.prog X.w) X.A X.env X.xe)(hc:X.calm=true)(hi:DI X tg iter src)(hg:DG X tg b)(hb:S5 X κ body wb)
  (hs:∀x,foldedSetIterable iter X.env x=pure x:=by intro _; rfl):DS X κ (.For tg iter body [] pos) (Ek src b wb):=by
 obtain⟨wi,a1,a2⟩:=hi
 obtain⟨g,g1,g2⟩:=hg
 obtain⟨tb,b1,b2⟩:=hb
 refine⟨_,LS hp hc a1 g1 b1 hs,λC M H n ρ σ D2 E R L w=>?_⟩
 refine a2 C M H n ρ σ _ _ R w λJ H1 ds n1 e1 f1 y w1=>?_
 have R1:=R.step e1 f1
 refine⟨λi m σ' H'=>m=ds.length - i/\i<=ds.length/\∃M' n' ρ',Rel X.K { C with pins:=(M,H1)::C.pins } M' H' n' ρ' σ'/\Bj b wb D2 (ds.drop i) n' ρ',⟨ds.length,by simp,Nat.zero_le _,M,n1,ρ,R1.pinned,w1⟩,?_⟩
 rintro i m σ' H' ⟨rfl,hi,M',n',ρ',R',w'⟩
 have pr:Pres M H1 M' H':=R'.pin (M,H1) List.mem_cons_self
 by_cases hlt:i<ds.length
 ·have ed:ds.drop i=ds[i]::ds.drop (i+1):=List.drop_eq_getElem_cons hlt
  rw [ed] at w'
  obtain⟨go,yl⟩:=(y i M' H' pr R'.dom).1 ds[i] (List.getElem?_eq_getElem hlt)
  refine .inr ⟨go,λσ2 H2=>∃M2 n2 ρ2,Rel X.K { C with pins:=(M,H1)::C.pins } M2 H2 n2 ρ2 σ2/\Bj b wb D2 (ds.drop (i+1)) n2 ρ2,λσ2 H2 ⟨M2,n2,ρ2,R2',w2⟩=>⟨ds.length - (i+1),by omega,rfl,hlt,M2,n2,ρ2,R2',w2⟩,λx H2 hy=>?_⟩
  obtain⟨gr,hx⟩:=yl x H2 hy
  have R2':=R'.step gr.ext (R'.feed.grow gr)
  refine g2 _ M' H2 n' ρ' σ' ds[i] x _ _ R2' hx w' λρ3 σ3 R3 w3=>?_
  refine b2 _ M' H2 n' ρ3 σ3 { D2 with nx:=Bj b wb D2 (ds.drop (i+1)),ct:=Bj b wb D2 (ds.drop (i+1)),bk:=D2.nx } _ R3 ⟨λM4 H4 n4 ρ4 σ4 R4 w4=>⟨M4,n4,ρ4,R4,w4⟩,L.rt,λM4 H4 n4 ρ4 σ4 R4 w4=>L.nx M4 H4 n4 ρ4 σ4 R4.unpin w4,λM4 H4 n4 ρ4 σ4 R4 w4=>⟨M4,n4,ρ4,R4,w4⟩⟩ w3
 ·have e:i=ds.length:=by omega
  subst e
  rw [List.drop_length] at w'
  exact .inl ⟨(y _ M' H' pr R'.dom).2 (Nat.le_refl _),L.nx M' H' n' ρ' σ' R'.unpin w'⟩
end
def CL(b:BW)(tt:Ht)(te:DW)(P:List D->Nat->Prop):List D->List D->Nat->List Slot->Prop
 | [],acc,n,_=>P acc n
 | d::ds,acc,n,ρ=>b d ρ λρ1=>tt n ρ1 λc n1=>if c=true then te n1 ρ1 λy n2=>CL b tt te P ds (acc++[y]) n2 ρ1 else CL b tt te P ds acc n1 ρ1
def Qj:Slot->Slot
 | .ow d=>.br d
 | .lt _ d=>.br d
 | s=>s
theorem Qi(s:Slot):(Qj s).owns=false:=by cases s <;> rfl
theorem EQ{js:List (Option Nat)}{ρ:List Slot}{i:Nat}{s:Slot}(h:(js.map λo=>match o with | some i=>Qj ((ρ[i]?).getD .no) | none=>Slot.no)[i]?=some s):s.owns=false:=by
 rw [List.getElem?_map] at h
 cases q:js[i]? with
 | none=>rw [q] at h; cases h
 | some o =>
  rw [q] at h
  cases o with
  | none =>
   have e:Slot.no=s:=Option.some.inj h
   rw [← e]; rfl
  | some j =>
   have e:Qj ((ρ[j]?).getD .no)=s:=Option.some.inj h
   rw [← e]; exact Qi _
def GG(js:List (Option Nat))(ρ:List Slot):List Slot:=js.map λo=>match o with
 | some i=>Qj ((ρ[i]?).getD .no)
 | none=>.no
def BY(js:List (Option Nat))(src:FT)(b:BW)(tt:Ht)(te:DW):DW:=λn ρ P=>src n ρ λds n1=>ds.length<=10000000/\CL b tt te (λacc n2=>P (.lst acc) n2) ds [] n1 (GG js ρ)
def WJ(X:Cx)(ifs:List Expr)(w:Ht):Prop:=∃t,XS X ifs t/\∀(C:Fm) (M:Addr->Prop) (H:Hp) (n:Nat) (ρ:List Slot) (σ:L2.St) (P:Bool->Nat->Prop) (Q:Bool->Hp->Prop),Rel X.K C M H n ρ σ->w n ρ P ->
 (∀b H' n',Ext C.U H H'->FeedC X.K C.F M H' n'->P b n'->Q b H')->t σ H Q
def CM:Ht:=λn _ P=>P true n
theorem BO{X:Cx}:WJ X [] CM:=⟨_,TR,λC M H n ρ σ P Q R w q=>q true H n (Ext.refl _ _) R.feed w⟩
theorem GR{X:Cx}{c:Expr}{w:Ht}(h:DT X c w):WJ X [c] w:=by
 obtain⟨t,h1,h2⟩:=h
 exact⟨t,TQ h1,h2⟩
theorem KZ{js:List (Option Nat)}{ρ:List Slot}{σ:L2.St}{i:Nat}{s:Slot}(hs:(GG js ρ)[i]?=some s):s=.no\/∃(j:Nat) (s':Slot),ρ[j]?=some s'/\s=Qj s'/\((C4 js σ)[i]?).getD none=(σ[j]?).getD none:=by
 unfold GG at hs
 unfold C4
 rw [List.getElem?_map] at hs ⊢
 cases q:js[i]? with
 | none=>rw [q] at hs; cases hs
 | some o =>
  rw [q] at hs
  cases o with
  | none=>exact .inl (Option.some.inj hs).symm
  | some j =>
   have e:Qj ((ρ[j]?).getD .no)=s:=Option.some.inj hs
   cases q2:ρ[j]? with
   | none=>rw [q2] at e; exact .inl e.symm
   | some s' =>
    rw [q2] at e
    exact .inr ⟨j,s',q2,e.symm,rfl⟩
theorem M9{K:Frag}{F:Option (Addr×Addr)}{U U' M M':Addr->Prop}{H H':Hp}{js:List (Option Nat)}{ρ:List Slot}{σ:L2.St}(hsl:∀(i:Nat) (s:Slot),ρ[i]?=some s->SlotOk K F U M H s ((σ[i]?).getD none))
  (pr:Pres M H M' H') (br:∀d v,AtT K U M H d v->AtT K U' M' H' d v):∀(i:Nat) (s:Slot),(GG js ρ)[i]?=some s->SlotOk K F U' M' H' s (((C4 js σ)[i]?).getD none):=by
 intro i s hs
 rcases KZ (σ:=σ) hs with rfl | ⟨j,s',q,rfl,e⟩
 ·trivial
 ·rw [e]
  have h1:=hsl j s' q
  cases s' with
  | no=>trivial
  | sh d=>obtain⟨v,e1,h2⟩:=h1; exact⟨v,e1,h2.pres pr⟩
  | br d=>obtain⟨v,e1,h2⟩:=h1; exact⟨v,e1,br d v h2⟩
  | fd=>exact h1
  | ow d=>obtain⟨a,e1,_,nv,t⟩:=h1; exact⟨.ref a,e1,br d _ (t.att nv)⟩
  | lt a d=>obtain⟨e1,_,nv,t⟩:=h1; exact⟨.ref a,e1,br d _ (t.att nv)⟩
theorem PH{K:Frag}{F:Option (Addr×Addr)}{U M:Addr->Prop}{H:Hp}{js:List (Option Nat)}{ρ:List Slot}{σ:L2.St}(hsl:∀(i:Nat) (s:Slot),ρ[i]?=some s->SlotOk K F U M H s ((σ[i]?).getD none)){i:Nat}{d:D}{a:Addr}
  (hs:(GG js ρ)[i]?=some (.br d)) (ha:((C4 js σ)[i]?).getD none=some (.ref a)):∃o,H a=some o:=by
 rcases KZ (σ:=σ) hs with z | ⟨j,s',q,z,e⟩
 ·cases z
 ·rw [e] at ha
  have h1:=hsl j s' q
  rw [ha] at h1
  cases s' with
  | br d=>obtain⟨v,e1,h2⟩:=h1; cases e1; exact h2.lies
  | ow d=>obtain⟨b,e1,_,nv,t⟩:=h1; cases e1; exact(t.att nv).lies
  | lt b d=>obtain⟨e1,_,nv,t⟩:=h1; cases e1; exact(t.att nv).lies
  | no=>cases z
  | sh d=>cases z
  | fd=>cases z
section
variable {X:Cx}{κe:Kd}{tg elt iter:Expr}{ifs:List Expr}{sc:Scope}{pos:Pos}{src:FT}{b:BW}{tt:Ht}{te:DW}
theorem BJ(hc:X.calm=true)(N':List Str)(js:List (Option Nat))(hi:WC X tg iter src)(hg:∀cl C s H fp,DG (A4 X sc N' cl C s H fp) tg b)(ht:∀cl C s H fp,WJ (A4 X sc N' cl C s H fp) ifs tt)(he:∀cl C s H fp,DE (A4 X sc N' cl C s H fp) elt κe te)
  (hB:Hb sc X.env.scope X.N N' js=true) (hk:κe≠.tp:=by intro z; cases z)
  (hs:∀x,foldedSetIterable iter X.env x=pure x:=by intro _; rfl):DE X (.ListComp elt [⟨tg,iter,ifs,0⟩] sc pos) .fr (BY js src b tt te):=by
 obtain⟨wi,a1,a2⟩:=hi
 refine⟨_,TX hc N' js a1 hB hs,λC M H n ρ σ P Q R w q=>?_⟩
 refine a2 C M H n ρ σ _ _ R w λJ H1 ds n1 e1 f1 y w1=>?_
 obtain⟨hlen,w1⟩:=w1
 have R1:=R.step e1 f1
 intro l hl hkl cl Ca s0 H0 fp
 obtain⟨g,g1,g2⟩:=hg cl Ca s0 H0 fp
 obtain⟨tc,c1,c2⟩:=ht cl Ca s0 H0 fp
 obtain⟨tx,x1,x2⟩:=he cl Ca s0 H0 fp
 have noU:¬C.U l:=λz=>by
  obtain⟨o,z⟩:=R1.udom l z
  rw [hl] at z; cases z
 generalize hM':(λb=>M b\/b=l)=M'
 have M'l:M' l:=by rw [← hM']; exact .inr rfl
 have M'of:∀b,M b->M' b:=λb z=>by rw [← hM']; exact .inl z
 have ofM':∀b,M' b->M b\/b=l:=λb z=>by rw [← hM'] at z; exact z
 have inV:∀b,C.V b\/b=l->M' b:=λb z=>z.elim (λz=>M'of b (R1.vM b z)) λz=>by rw [z]; exact M'l
 have lenj:js.length=N'.length:=E5 (CompOk.of hB).cap
 refine⟨g,tc,tx,λi m σ' H'=>m=ds.length - i/\i<=ds.length/\∃n' ρ' acc vs,Rel X.K ⟨M',C.F,C.U,λb=>C.V b\/b=l,H1,[],[]⟩ M' H' n' ρ' σ'/\H' l=some (.lst vs)/\Ats X.K M' H' acc vs/\acc.length<=i/\Pres M H1 M' H' /\
   CL b tt te (λacc n2=>P (.lst acc) n2) (ds.drop i) acc n' ρ',g1,c1,x1,⟨ds.length,by simp,Nat.zero_le _,n1,GG js ρ,[],[],?_⟩,?_⟩
 ·have gr:Grow H1 (BG H1 l (.lst [])):=A9 hl
  have pr:Pres M H1 M' (BG H1 l (.lst [])):=⟨λb o e _=>gr.all b o e,λb z=>(ofM' b z).elim .inl λz=>.inr (by rw [z]; exact hl),λb vs e=>gr.all b _ e⟩
  refine⟨⟨?_,λa z=>z,λa z=>?_,gr.ext,R1.fU,λa z=>.inl (R1.uV a z),inV,f1.pres pr λf o _ e=>gr.all f.1 o e,?_,λp hp=>absurd hp (by simp),λi d a q z=>PH R1.sl q z,λi s a q o _=>absurd o (by rw [EQ q]; decide),λi j s t a q o _ _ _ _=>absurd o (by rw [EQ q]; decide),λp hp=>absurd hp (by simp)⟩,Ak,rfl,Nat.zero_le _,pr,w1⟩
  ·unfold GG C4
   rw [List.length_map,List.length_map]
  ·rcases ofM' a z with z | z
   ·obtain⟨o,z⟩:=R1.dom a z
    exact⟨o,gr.all a o z⟩
   ·subst z
    exact⟨_,Ak⟩
  ·refine M9 R1.sl pr λd v h=>h.same pr (λa o _ e=>gr.all a o e) λa e n1 z=>z.elim n1 λz=>?_
   subst e
   obtain⟨o,w⟩:=h.lies
   rw [z,hl] at w
   cases w
 ·rintro i m σ' H' ⟨rfl,hi,n',ρ',acc,vs,R',hlv,hac,hal,pr,w'⟩
  by_cases hlt:i<ds.length
  ·have ed:ds.drop i=ds[i]::ds.drop (i+1):=List.drop_eq_getElem_cons hlt
   rw [ed] at w'
   obtain⟨go,yl⟩:=(y i M' H' pr R'.ext R'.dom).1 ds[i] (List.getElem?_eq_getElem hlt)
   refine .inr ⟨go,λx H2 hy=>?_⟩
   obtain⟨gr,hx⟩:=yl x H2 hy
   have R2':=R'.step gr.ext (R'.feed.grow gr)
   refine g2 _ M' H2 n' ρ' σ' ds[i] x _ _ R2' hx w' λρ3 σ3 R3 w3=>?_
   refine c2 _ M' H2 n' ρ3 σ3 _ _ R3 w3 λc H4 n4 e4 f4 w4=>?_
   have R4:=R3.step e4 f4
   have p4:Pres M' H' M' H4:=gr.pres.trans (R3.pres e4)
   have l4:H4 l=some (.lst vs):=e4.keep (gr.all _ _ hlv) noU
   cases c with
   | false=>exact⟨ds.length - (i+1),by omega,rfl,hlt,n4,ρ3,acc,vs,R4,l4,hac.pres p4,by omega,pr.trans p4,w4⟩
   | true =>
    refine x2 _ M' H4 n4 ρ3 σ3 _ _ R4 w4 λyv H5 d5 n5 e5 f5 r5 w5=>?_
    have R5:=R4.step e5 f5
    have p5:Pres M' H4 M' H5:=R4.pres e5
    have l5:H5 l=some (.lst vs):=e5.keep l4 noU
    have hy5:=r5.shOf R4.dom hk
    have a5:=(hac.pres p4).pres p5
    have pu:Pres M' H5 M' (BG H5 l (.lst (vs++[yv]))):=EN M'l l5
    have hvl:vs.length=acc.length:=hac.length
    refine⟨vs,l5,by rw [sizeLine_eq]; omega,ds.length - (i+1),by omega,rfl,hlt,n5,ρ3,acc++[d5],vs++[yv],?_,Ak,(a5.append (Ats.one hy5)).pres pu,by rw [List.length_append,List.length_singleton]; omega,(pr.trans p4).trans (p5.trans pu),w5⟩
    refine⟨R5.len,R5.sub,λa z=>?_,λb o e=>?_,R5.fU,R5.uV,R5.vM,?_,λj s hs=>?_,λp hp=>absurd hp (by simp),R5.br0,R5.new,R5.two,λp hp=>absurd hp (by simp)⟩
    ·by_cases ha:a=l
     ·subst ha; exact⟨_,Ak⟩
     ·rw [AT ha]; exact R5.dom a z
    ·obtain⟨o',q1,q2⟩:=R5.ext b o e
     by_cases hb:b=l
     ·subst hb
      have e':H1 b=some o:=e
      rw [hl] at e'; cases e'
     ·exact⟨o',by rw [AT hb]; exact q1,q2⟩
    ·refine f5.pres pu λf o hf e=>?_
     rw [AT (λz=>noU (by rw [← z]; exact R1.fU f hf))]
     exact e
    ·have hs5:=R5.sl j s hs
     cases s with
     | no=>trivial
     | sh d=>obtain⟨v,e1,h2⟩:=hs5; exact⟨v,e1,h2.pres pu⟩
     | br d =>
      obtain⟨v,e1,h2⟩:=hs5
      refine⟨v,e1,h2.same pu (λa o z e=>?_) λ_ _ z=>z⟩
      subst z
      obtain⟨o3,w⟩:=R5.br0 j d a hs e1
      have hal:a≠l:=λz=>by
       have w':H1 a=some o3:=w
       rw [z,hl] at w'; cases w'
      rw [AT hal]; exact e
     | ow d =>
      obtain⟨a,e1,h2,_⟩:=hs5
      exact absurd h2 (R5.new j _ a hs rfl e1).1
     | lt a d =>
      obtain⟨e1,h2,_⟩:=hs5
      exact absurd h2 (R5.new j _ a hs rfl e1).1
     | fd=>exact hs5
  ·have e:i=ds.length:=by omega
   subst e
   rw [List.drop_length] at w'
   refine .inl ⟨(y _ M' H' pr R'.ext R'.dom).2 (Nat.le_refl _),?_⟩
   have eb:Ext C.U H1 H':=R'.ext
   have less:Pres M' H' M H':=Pres.less M'of
   refine q _ H' (.lst acc) n' (e1.trans eb) (R'.feed.pres less λ_ _ _ z=>z) (VR.back e1 ?_) w'
   exact⟨l,rfl,hl,vs,hlv,by rw [hM']; exact hac⟩
end
theorem QH{K:Frag}{F:Option (Addr×Addr)}{U V' M:Addr->Prop}{H:Hp}{n:Nat}{ss:List Slot}{vs:List V}{N:List Str}(h:XQ K F U V' M H n ss vs)(hl:vs.length<=N.length) :
  Rel K ⟨M,F,U,V',H,[],[]⟩ M H n (ss++List.replicate (N.length - ss.length) .no) (L2.start N vs):=by
 obtain⟨dom,fU,uV,vM,fd,pa⟩:=h
 have el:vs.length=ss.length:=Paired.length pa
 have go:∀{vs:List V} {ss:List Slot} {i:Nat} {s:Slot},Paired (Ky K F V' M H) vs ss->ss[i]?=some s->∃v,vs[i]?=some v/\Ky K F V' M H v s:=by
  intro vs ss i s pa
  induction pa generalizing i with
  | nil=>intro e; simp at e
  | cons r t ih =>
   intro e
   cases i with
   | zero=>simp at e; subst e; exact⟨_,rfl,r⟩
   | succ i =>
    obtain⟨v,e1,h1⟩:=ih (i:=i) (by simpa using e)
    exact⟨v,by simpa using e1,h1⟩
 have at_:∀(i:Nat) (s:Slot),(ss++List.replicate (N.length - ss.length) Slot.no)[i]?=some s->s=.no\/∃v,((L2.start N vs)[i]?).getD none=some v/\Ky K F V' M H v s:=by
  intro i s hs
  by_cases hi:i<ss.length
  ·rw [List.getElem?_append_left hi] at hs
   obtain⟨v,e1,h1⟩:=go pa hs
   refine .inr ⟨v,?_,h1⟩
   unfold L2.start
   rw [List.getElem?_append_left (by rw [List.length_map,el]; exact hi),List.getElem?_map,e1]
   rfl
  ·rw [List.getElem?_append_right (by omega),List.getElem?_replicate] at hs
   split at hs
   ·exact .inl (Option.some.inj hs).symm
   ·cases hs
 refine⟨?_,λa z=>z,dom,Ext.refl _ _,fU,uV,vM,fd,λi s hs=>?_,λp hp=>absurd hp (by simp),λi d a hs ha=>?_,λi s a hs o _=>?_,λi j s t a hs o _ _ _ _=>?_,λp hp=>absurd hp (by simp)⟩
 ·unfold L2.start
  simp only [List.length_append,List.length_map,List.length_replicate]
  omega
 ·rcases at_ i s hs with rfl | ⟨v,e,h⟩
  ·trivial
  ·rw [e]; exact h.1
 ·rcases at_ i _ hs with z | ⟨v,e,h⟩
  ·cases z
  ·rw [e] at ha
   cases ha
   obtain⟨v,e1,h1⟩:=h.1
   cases e1
   exact h1.lies
 ·rcases at_ i s hs with rfl | ⟨v,e,h⟩
  ·cases o
  ·rw [h.2] at o; cases o
 ·rcases at_ i s hs with rfl | ⟨v,e,h⟩
  ·cases o
  ·rw [h.2] at o; cases o
theorem Ez{P:Program}{w:World}{K:Frag}{mg:Str->Option Value}{base:Heap}{x qual:Str}{st:Stmt}{f:Addr}{fd:FuncData}{N ps:List Str}{k:Nat}{κ:Kd}{W:W2}{wb:Al}(F:Fun K x qual st f fd)(S:Aj N ps (AG st))(hNp:ps.length<=N.length)
  (hb:∀(cdv:Value) (A:Around) (outer:List Env) (s:Shared) (H:Hp) (E:XK),Room k (A.deeper (envOfC qual (AG st) s.heap.objs.size f cdv))->S5 (L3 DB P w K mg base N qual (AG st) f cdv A outer s H E).nox κ (Ag st) wb)
  (hW:∀ss n Pd,ss.length=ps.length->W ss n Pd->wb { nx:=λn _=>κ=.sh/\Pd .non n,rt:=Pd } n (ss++List.replicate (N.length - ps.length) .no)) :
  BK P w K mg base DB (k+1) f fd ps (D_ K κ W ps.length):=by
 refine F.ok S (λvs H Q E h=>h.1) (λcdv A outer s H vs Q E hr h=>?_)
 obtain⟨hl,F0,U,V',M,n,ss,Pd,ra,hw,q⟩:=h
 obtain⟨t,t1,t2⟩:=hb cdv A outer s H E hr
 refine⟨t,t1,?_⟩
 have el:vs.length=ss.length:=Paired.length ra.2.2.2.2.2
 have R:=QH (N:=N) ra (by omega)
 refine t2 ⟨M,F0,U,V',H,[],[]⟩ M H n _ _ { nx:=λn _=>κ=.sh/\Pd .non n,rt:=Pd } _ R ⟨λM1 H1 n1 ρ1 σ1 R1 p=>?_,λv H1 d n1 e1 f1 r1 p=>q v H1 d n1 e1 f1 r1 p,λ_ _ _ _ _ _ z=>z.elim,λ_ _ _ _ _ _ z=>z.elim⟩ ?_
 ·obtain⟨hk,p⟩:=p
  subst hk
  exact q .non H1 .non n1 R1.ext (R1.feed.pres (Pres.less R1.sub) λ_ _ _ z=>z) rfl p
 ·have e:ss.length=ps.length:=by omega
  have h1:=hW ss n Pd e hw
  rw [← e] at h1
  exact h1
end Dp
namespace L2
open PySem PySem.Spec PyProof.Rows
section
variable {X:Cx}
theorem Inv.rdl{pins:List (Addr×Obj)}{σ:L2.St}{H:Hp}{s:Shared}{l:Addr}{xs:List V}(I:Inv X pins σ H s)(h:Rd H l (.lst xs)):xs.length<=sizeLine/\∃(its:List Value) (n:Nat),Vals xs its/\xs.length=its.length/\s.heap.get? l=some { cls:=.type "list",data:=.seq its.toArray n }:=by
 obtain⟨z,its,n,r,e⟩:=h.ok I.hok
 exact⟨z,its,n,r,r.length,e⟩
theorem Tc:OpR X (binaryOp .Add) (λx y H Q=>∃l b xs zs,x=.ref l/\y=.ref b/\Rd H l (.lst xs)/\Rd H b (.lst zs)/\xs.length+zs.length<=sizeLine/\∀p,H p=none->Q (.ref p) (BG H p (.lst (xs++zs)))):=by
 intro pins s σ H x y v u Q I rx ry h
 obtain⟨l,b,xs,zs,rfl,rfl,hH,hB,hz,q⟩:=h
 cases rx
 cases ry
 obtain⟨z,its,n,r,hl,e⟩:=I.rdl hH
 obtain⟨z2,its2,n2,r2,hl2,e2⟩:=I.rdl hB
 refine PySem.P.add_list e e2 ?_ (by rw [List.size_toArray,List.size_toArray]; omega)
 have ea:its.toArray++its2.toArray=(its++its2).toArray:=by simp
 rw [ea]
 exact⟨.ref _,_,I.lnew (t':=s.toks) (r.append r2) (by rw [List.length_append]; omega),rfl,q _ I.fresh⟩
end
end L2
namespace Dp
open PySem PySem.Spec PyProof.Rows L2
section
variable {K:Frag}
theorem AtT.int{U M:Addr->Prop}{H:Hp}{i:Int}{v:V}(h:AtT K U M H (.int i) v):v=.int i:=h
theorem AtT.bl{U M:Addr->Prop}{H:Hp}{i:Bool}{v:V}(h:AtT K U M H (.bl i) v):v=.bl i:=h
theorem AtT.str{U M:Addr->Prop}{H:Hp}{x:Str}{v:V}(h:AtT K U M H (.str x) v):v=.str x/\x.length<=sizeLine:=h
theorem AtT.tup{U M:Addr->Prop}{H:Hp}{ds:List D}{v:V}(h:AtT K U M H (.tup ds) v):∃a vs,v=.ref a/\NdT M H a vs/\Ats K M H ds vs:=h
def Xi(g:Int->Int->(D->Prop)->Prop)(d e:D)(P:D->Prop):Prop:=match d,e with
 | .int i,.int j=>g i j P
 | _,_=>False
theorem Lw{g:Int->Int->(D->Prop)->Prop}{d e:D}{P:D->Prop}(w:Xi g d e P):∃i j,d=.int i/\e=.int j/\g i j P:=by
 unfold Xi at w
 split at w
 ·exact⟨_,_,rfl,rfl,w⟩
 ·exact w.elim
def f2(g:Int->Int->D):D->D->(D->Prop)->Prop:=Xi λi j P=>P (g i j)
def Pc(C:Int->Int->Prop)(g:Int->Int->D):D->D->(D->Prop)->Prop:=Xi λi j P=>C i j/\P (g i j)
theorem Sy{g:Int->Int->Int}:EW K .sh (Hl λi j=>.int (g i j)) (f2 λi j=>.int (g i j)):=by
 intro U M H d e x y P Q dom vM hx hy w q
 obtain⟨i,j,rfl,rfl,w⟩:=Lw w
 exact⟨i,j,hx,hy,q _ H (.int (g i j)) .refl rfl w⟩
theorem Oj{g:Int->Int->Bool}:EW K .sh (Hl λi j=>.bl (g i j)) (f2 λi j=>.bl (g i j)):=by
 intro U M H d e x y P Q dom vM hx hy w q
 obtain⟨i,j,rfl,rfl,w⟩:=Lw w
 exact⟨i,j,hx,hy,q _ H (.bl (g i j)) .refl rfl w⟩
theorem D8{C:Int->Int->Prop}{g:Int->Int->Int}:EW K .sh (rI C λi j=>.int (g i j)) (Pc C λi j=>.int (g i j)):=by
 intro U M H d e x y P Q dom vM hx hy w q
 obtain⟨i,j,rfl,rfl,w⟩:=Lw w
 exact⟨i,j,hx,hy,w.1,q _ H (.int (g i j)) .refl rfl w.2⟩
def WE(g:Str->Str->(D->Prop)->Prop)(d e:D)(P:D->Prop):Prop:=match d,e with
 | .str i,.str j=>g i j P
 | _,_=>False
theorem PZ{g:Str->Str->(D->Prop)->Prop}{d e:D}{P:D->Prop}(w:WE g d e P):∃i j,d=.str i/\e=.str j/\g i j P:=by
 unfold WE at w
 split at w
 ·exact⟨_,_,rfl,rfl,w⟩
 ·exact w.elim
theorem Oi{g:Str->Str->Bool}:EW K .sh (λx y H Q=>∃i j,x=.str i/\y=.str j/\Q (.bl (g i j)) H) (WE λi j P=>P (.bl (g i j))):=by
 intro U M H d e x y P Q dom vM hx hy w q
 obtain⟨i,j,rfl,rfl,w⟩:=PZ w
 exact⟨i,j,hx.1,hy.1,q _ H (.bl (g i j)) .refl rfl w⟩
theorem Q4:EW K .sh (λx y H Q=>∃i j,x=.str i/\y=.str j/\i.length+j.length<=sizeLine/\Q (.str (i++j)) H) (WE λi j P=>i.length+j.length<=sizeLine/\P (.str (i++j))):=by
 intro U M H d e x y P Q dom vM hx hy w q
 obtain⟨i,j,rfl,rfl,w⟩:=PZ w
 exact⟨i,j,hx.1,hy.1,w.1,q _ H (.str (i++j)) .refl ⟨rfl,by rw [show (i++j).length=i.length+j.length from Str.length_append i j]; exact w.1⟩ w.2⟩
def X9(g:List D->List D->(D->Prop)->Prop)(d e:D)(P:D->Prop):Prop:=match d,e with
 | .tup i,.tup j=>g i j P
 | _,_=>False
def X_(g:List D->List D->(D->Prop)->Prop)(d e:D)(P:D->Prop):Prop:=match d,e with
 | .lst i,.lst j=>g i j P
 | _,_=>False
theorem Ts{g:List D->List D->(D->Prop)->Prop}{d e:D}{P:D->Prop}(w:X9 g d e P):∃i j,d=.tup i/\e=.tup j/\g i j P:=by
 unfold X9 at w
 split at w
 ·exact⟨_,_,rfl,rfl,w⟩
 ·exact w.elim
theorem Tt{g:List D->List D->(D->Prop)->Prop}{d e:D}{P:D->Prop}(w:X_ g d e P):∃i j,d=.lst i/\e=.lst j/\g i j P:=by
 unfold X_ at w
 split at w
 ·exact⟨_,_,rfl,rfl,w⟩
 ·exact w.elim
theorem Dk{M:Addr->Prop}{H:Hp}{p:Addr}{vs:List V}{ds:List D}(dom:∀a,M a->∃o,H a=some o)(hp:H p=none)(h:Ats K M H ds vs):At K M (BG H p (.tup vs)) (.tup ds) (.ref p):=by
 exact⟨p,vs,rfl,Ak,h.pres (A9 hp).pres⟩
theorem Ey{U M:Addr->Prop}{H:Hp}{p:Addr}{vs:List V}{ds:List D}(hp:H p=none)(h:Ats K M H ds vs):VR K U M H (BG H p (.lst vs)) .fr (.ref p) (.lst ds) :=
 ⟨p,rfl,hp,vs,Ak,h.pres (Fo hp)⟩
theorem Q3:EW K .sh (Rf K) (X9 λi j P=>i≠[]/\i.length+j.length<=sizeLine/\P (.tup (i++j))):=by
 intro U M H d e x y P Q dom vM hx hy w q
 obtain⟨i,j,rfl,rfl,w⟩:=Ts w
 obtain⟨a,vs,rfl,ha,hs⟩:=hx.tup
 obtain⟨b,us,rfl,hb,ht⟩:=hy.tup
 have l1:=hs.length
 have l2:=ht.length
 refine⟨a,b,vs,us,rfl,rfl,ha.sq,hb.sq,λz=>w.1 ?_,by rw [l1,l2]; exact w.2.1,λz=>?_,λz p hp=>?_⟩
 ·rw [z] at l1; exact List.length_eq_zero_iff.mp l1.symm
 ·rw [z] at l2
  have:j=[]:=List.length_eq_zero_iff.mp l2.symm
  subst this
  exact q _ H (.tup i) .refl ⟨a,vs,rfl,ha,hs⟩ (by have:=w.2.2; rw [List.append_nil] at this; exact this)
 ·exact q _ _ (.tup (i++j)) (A9 hp) (Dk dom hp (hs.append ht)) w.2.2
theorem Q5:EW K .fr (λx y H Q=>∃l b xs zs,x=.ref l/\y=.ref b/\Rd H l (.lst xs)/\Rd H b (.lst zs)/\xs.length+zs.length<=sizeLine/\∀p,H p=none->Q (.ref p) (BG H p (.lst (xs++zs)))) (X_ λi j P=>i.length+j.length<=sizeLine/\P (.lst (i++j))):=by
 intro U M H d e x y P Q dom vM hx hy w q
 obtain⟨i,j,rfl,rfl,w⟩:=Tt w
 obtain⟨a,vs,rfl,_,ha,hs⟩:=hx
 obtain⟨b,us,rfl,_,hb,ht⟩:=hy
 exact⟨a,b,vs,us,rfl,rfl,ha,hb,by rw [hs.length,ht.length]; exact w.1,λp hp=>q _ _ (.lst (i++j)) (A9 hp) (Ey hp (hs.append ht)) w.2⟩
def Gp(neg:Bool)(d e:D)(P:D->Prop):Prop:=match d,e with
 | .bl i,.bl j=>P (.bl (if neg then !(i==j) else i==j))
 | .int i,.int j=>P (.bl (if neg then !(i==j) else i==j))
 | .str i,.str j=>P (.bl (if neg then !(i==j) else i==j))
 | _,_=>False
theorem Pb{neg:Bool}{d e:D}{P:D->Prop}(w:Gp neg d e P):(∃i j,d=.bl i/\e=.bl j/\P (.bl (if neg then !(i==j) else i==j)))\/(∃i j,d=.int i/\e=.int j/\P (.bl (if neg then !(i==j) else i==j)))\/∃i j,d=.str i/\e=.str j/\P (.bl (if neg then !(i==j) else i==j)):=by
 unfold Gp at w
 split at w
 ·exact .inl ⟨_,_,rfl,rfl,w⟩
 ·exact .inr (.inl ⟨_,_,rfl,rfl,w⟩)
 ·exact .inr (.inr ⟨_,_,rfl,rfl,w⟩)
 ·exact w.elim
theorem Jj:EW K .sh YO (Gp false):=by
 intro U M H d e x y P Q dom vM hx hy w q
 rcases Pb w with ⟨i,j,rfl,rfl,w⟩ | ⟨i,j,rfl,rfl,w⟩ | ⟨i,j,rfl,rfl,w⟩
 ·rw [hx.bl,hy.bl]; exact⟨rfl,q _ H _ .refl (by rw [L0]; rfl) w⟩
 ·rw [hx.int,hy.int]; exact⟨rfl,q _ H _ .refl (by rw [ID]; rfl) w⟩
 ·rw [hx.str.1,hy.str.1]; exact⟨rfl,q _ H _ .refl (by rw [IC]; rfl) w⟩
theorem KH:EW K .sh YL (Gp true):=by
 intro U M H d e x y P Q dom vM hx hy w q
 rcases Pb w with ⟨i,j,rfl,rfl,w⟩ | ⟨i,j,rfl,rfl,w⟩ | ⟨i,j,rfl,rfl,w⟩
 ·rw [hx.bl,hy.bl]; exact⟨rfl,q _ H _ .refl (by rw [L0]; rfl) w⟩
 ·rw [hx.int,hy.int]; exact⟨rfl,q _ H _ .refl (by rw [ID]; rfl) w⟩
 ·rw [hx.str.1,hy.str.1]; exact⟨rfl,q _ H _ .refl (by rw [IC]; rfl) w⟩
def NH:D->Bool
 | .non=>true
 | _=>false
theorem NG{U M:Addr->Prop}{H:Hp}{d:D}{x:V}(h:AtT K U M H d x):decide (x=.non)=NH d:=by
 cases d with
 | non=>rw [show x=.non from h]; rfl
 | bl b=>rw [h.bl]; rfl
 | int i=>rw [h.int]; rfl
 | str z=>rw [h.str.1]; rfl
 | tup ds=>obtain⟨a,vs,rfl,_⟩:=h.tup; rfl
 | lst ds=>obtain⟨a,vs,rfl,_⟩:=h; rfl
 | dic ks ds=>obtain⟨a,vs,rfl,_⟩:=h; rfl
 | fdi ks ds=>obtain⟨a,vs,rfl,_⟩:=h; rfl
 | dit ks ds=>obtain⟨a,vs,rfl,_⟩:=h; rfl
def A5(d e:D)(P:D->Prop):Prop:=match d,e with
 | .lst ds,.int i=>∃z,atI ds i=some z/\P z
 | .tup ds,.int i=>∃z,atI ds i=some z/\P z
 | .str x,.int i=>∃c,atI x.cps.toList i=some c/\P (.str ⟨#[c]⟩)
 | _,_=>False
theorem Tu{d e:D}{P:D->Prop}(w:A5 d e P):(∃ds i z,d=.lst ds/\e=.int i/\atI ds i=some z/\P z)\/(∃ds i z,d=.tup ds/\e=.int i/\atI ds i=some z/\P z)\/∃x i c,d=.str x/\e=.int i/\atI x.cps.toList i=some c/\P (.str ⟨#[c]⟩):=by
 unfold A5 at w
 split at w
 ·obtain⟨z,h1,h2⟩:=w; exact .inl ⟨_,_,z,rfl,rfl,h1,h2⟩
 ·obtain⟨z,h1,h2⟩:=w; exact .inr (.inl ⟨_,_,z,rfl,rfl,h1,h2⟩)
 ·obtain⟨z,h1,h2⟩:=w; exact .inr (.inr ⟨_,_,z,rfl,rfl,h1,h2⟩)
 ·exact w.elim
theorem Ats.atI{M:Addr->Prop}{H:Hp}{ds:List D}{vs:List V}{i:Int}{z:D}(h:Ats K M H ds vs)(e:atI ds i=some z):∃v,L2.atI vs i=some v/\At K M H z v:=by
 unfold L2.atI at e ⊢
 rw [h.length]
 cases q:SO ds.length i with
 | none=>rw [q] at e; cases e
 | some j =>
  rw [q] at e
  exact h.get e
theorem Ap:EW K .sh (YM K) A5:=by
 intro U M H d e x y P Q dom vM hx hy w q
 rcases Tu w with ⟨ds,i,z,rfl,rfl,hz,w⟩ | ⟨ds,i,z,rfl,rfl,hz,w⟩ | ⟨x,i,c,rfl,rfl,hc,w⟩
 ·obtain⟨a,vs,rfl,_,ha,hs⟩:=hx
  obtain⟨v,hv,hAt⟩:=hs.atI hz
  exact .inl ⟨a,vs,i,v,rfl,hy,.inl ha,hv,q v H z .refl hAt w⟩
 ·obtain⟨a,vs,rfl,ha,hs⟩:=hx.tup
  obtain⟨v,hv,hAt⟩:=hs.atI hz
  exact .inr (.inl ⟨a,vs,i,v,rfl,hy,ha.sq,hv,q v H z .refl hAt w⟩)
 ·exact .inr (.inr ⟨x,i,c,hx.str.1,hy,hx.str.2,hc,q _ H (.str ⟨#[c]⟩) .refl ⟨rfl,by rw [sizeLine_eq]; show 1<=16777216; decide⟩ w⟩)
def cutD{α:Type}(xs:List α)(lo hi:Option Int):List α:=(xs.drop (HT.sIx xs.length 0 lo)).take (HT.sIx xs.length xs.length hi - HT.sIx xs.length 0 lo)
theorem GB{R:V->D->Prop}{vs:List V}{d:D}(h:Paired R vs [d]):∃v,vs=[v]/\R v d:=by
 cases h with
 | cons r t=>cases t; exact⟨_,rfl,r⟩
def X1:D->Option Nat
 | .str x=>some x.length
 | .tup xs=>some xs.length
 | .lst xs=>some xs.length
 | _=>none
def Ee(ds:List D)(P:D->Prop):Prop:=∃d n,ds=[d]/\X1 d=some n/\P (.int (n:Int))
theorem DJ:Fe K .sh (λxs H Q=>∃x n,xs=[x]/\V9 K x H n/\Q (.int n) H) Ee:=by
 intro U M H ds vs P Q dom vM hp w q
 obtain⟨d,n,rfl,hn,w⟩:=w
 obtain⟨v,rfl,hx⟩:=GB hp
 refine⟨v,n,rfl,?_,q _ H (.int (n:Int)) .refl rfl w⟩
 cases d with
 | str z=>cases hn; rw [hx.str.1]; exact⟨hx.str.2,rfl⟩
 | tup xs =>
  cases hn
  obtain⟨a,us,rfl,ha,hs⟩:=hx.tup
  exact .inr ⟨us,ha.sq,hs.length.symm⟩
 | lst xs =>
  cases hn
  obtain⟨a,us,rfl,_,ha,hs⟩:=hx
  exact .inl ⟨us,.inl ha,hs.length.symm⟩
 | _=>cases hn
def allB:List D->Option (List Bool)
 | []=>some []
 | .bl b::r=>(allB r).map (b::·)
 | _::_=>none
theorem Pr{M:Addr->Prop}{H:Hp}:∀{ds:List D} {vs:List V} {bs:List Bool},allB ds=some bs->Ats K M H ds vs->vs=bs.map V.bl
 | [],vs,bs,e,h=>by cases e; exact h
 | .bl b::r,vs,bs,e,h=>by
  obtain⟨v,r',e1,h1,h2⟩:=h
  unfold allB at e
  obtain⟨bs',e2,rfl⟩:=Option.map_eq_some_iff.mp e
  rw [e1,Pr e2 h2,show v=.bl b from h1]
  rfl
 | .non::r,vs,bs,e,h=>by unfold allB at e; cases e
 | .int _::r,vs,bs,e,h=>by unfold allB at e; cases e
 | .str _::r,vs,bs,e,h=>by unfold allB at e; cases e
 | .tup _::r,vs,bs,e,h=>by unfold allB at e; cases e
 | .lst _::r,vs,bs,e,h=>by unfold allB at e; cases e
 | .dic _ _::r,vs,bs,e,h=>by unfold allB at e; cases e
 | .fdi _ _::r,vs,bs,e,h=>by unfold allB at e; cases e
 | .dit _ _::r,vs,bs,e,h=>by unfold allB at e; cases e
def NL(ds:List D)(P:D->Prop):Prop:=∃xs bs,ds=[.lst xs]/\allB xs=some bs/\P (.bl (bs.all id))
theorem Px:Fe K .sh (λxs H Q=>∃(p:Addr) (bs:List Bool),xs=[.ref p]/\SqL K H p (bs.map V.bl)/\Q (.bl (bs.all id)) H) NL:=by
 intro U M H ds vs P Q dom vM hp w q
 obtain⟨xs,bs,rfl,e,w⟩:=w
 obtain⟨v,rfl,hx⟩:=GB hp
 obtain⟨a,us,rfl,_,ha,hs⟩:=hx
 have:=Pr e hs
 subst this
 exact⟨a,bs,rfl,.inl ha,q _ H (.bl (bs.all id)) .refl rfl w⟩
def DH:List D->Option (List Str)
 | []=>some []
 | .str b::r=>(DH r).map (b::·)
 | _::_=>none
theorem MA{M:Addr->Prop}{H:Hp}:∀{ds:List D} {vs:List V} {bs:List Str},DH ds=some bs->Ats K M H ds vs->vs=bs.map V.str
 | [],vs,bs,e,h=>by cases e; exact h
 | .str b::r,vs,bs,e,h=>by
  obtain⟨v,r',e1,h1,h2⟩:=h
  unfold DH at e
  obtain⟨bs',e2,rfl⟩:=Option.map_eq_some_iff.mp e
  rw [e1,MA e2 h2,h1.1]
  rfl
 | .non::r,vs,bs,e,h=>by unfold DH at e; cases e
 | .int _::r,vs,bs,e,h=>by unfold DH at e; cases e
 | .bl _::r,vs,bs,e,h=>by unfold DH at e; cases e
 | .tup _::r,vs,bs,e,h=>by unfold DH at e; cases e
 | .lst _::r,vs,bs,e,h=>by unfold DH at e; cases e
 | .dic _ _::r,vs,bs,e,h=>by unfold DH at e; cases e
 | .fdi _ _::r,vs,bs,e,h=>by unfold DH at e; cases e
 | .dit _ _::r,vs,bs,e,h=>by unfold DH at e; cases e
def Sa(d:D)(ds:List D)(P:D->Prop):Prop:=∃(z:Str) (xs:List D) (ys:List Str),d=.str z/\ds=[.lst xs]/\DH xs=some ys/\(ys.map (·.length)).sum+ys.length*z.length<=16777216/\(Txt.join z ys).length<=16777216/\P (.str (Txt.join z ys))
theorem V0:YV K .sh "str" (λx xs H Q=>∃(z:Str) (p:Addr) (ys:List Str),x=.str z/\xs=[.ref p]/\SqL K H p (ys.map V.str)/\(ys.map (·.length)).sum+ys.length*z.length<=16777216/\Q (.str (Txt.join z ys)) H) Sa:=by
 intro U M H d ds x vs P Q dom vM hx hp w q
 obtain⟨z,xs,ys,rfl,rfl,e,h1,h2,w⟩:=w
 obtain⟨v,rfl,hy⟩:=GB hp
 obtain⟨a,us,rfl,_,ha,hs⟩:=hy
 have:=MA e hs
 subst this
 exact⟨z,a,ys,hx.str.1,rfl,.inl ha,h1,q _ H (.str (Txt.join z ys)) .refl ⟨rfl,by rw [sizeLine_eq]; exact h2⟩ w⟩
end
def WM:D->String
 | .non => "NoneType"
 | .bl _ => "bool"
 | .int _ => "int"
 | .str _ => "str"
 | .tup _ => "tuple"
 | .lst _ => "list"
 | .dic _ _ => "dict"
 | .fdi _ _ => "dict"
 | .dit _ _ => "dict"
def Vf(t T:String):Bool:=t==T||(t == "bool"&&T == "int")
def Ej(T:String)(wa:DW):DW:=λn ρ P=>wa n ρ λd n1=>P (.bl (Vf (WM d) T)) n1
structure S4 (K:Frag) (T:String):Prop where
 ans:∀t∈["NoneType","bool","int","str","tuple","list","dict"],PySem.W.kitOne K (.type t) (.type T)=some (Vf t T)
theorem TB{K:Frag}{M U:Addr->Prop}{H:Hp}{d:D}{x:V}(h:AtT K U M H d x):Fp K H x (.type (WM d)):=by
 cases d with
 | non=>cases (show x=.non from h); exact .non
 | bl b=>cases h.bl; exact .bl b
 | int i=>cases h.int; exact .int i
 | str z=>cases h.str.1; exact .str z
 | tup ds =>
  obtain⟨a,vs,rfl,ha,hs⟩:=h.tup
  exact .tup ha
 | lst ds =>
  obtain⟨a,vs,rfl,_,ha,hs⟩:=h
  rcases ha with ha | ⟨o,ha⟩
  ·exact .lst ha
  ·exact .frz ha
 | dic ks ds =>
  obtain⟨a,vs,rfl,_,ha,_⟩:=h
  exact .dK ha
 | fdi ks ds =>
  obtain⟨a,vs,rfl,⟨o,_,ha⟩,_⟩:=h
  exact .dF ha
 | dit ks ds =>
  obtain⟨a,vs,rfl,_,ha,_⟩:=h
  exact .dT ha
theorem TC(d:D):WM d∈["NoneType","bool","int","str","tuple","list","dict"]:=by cases d <;> simp [WM]
theorem CO{X:Cx}{a:Expr}{κ:Kd}{wa:DW}{T:String}{Tn:Str}{p p2 pos:Pos}(kt:S4 X.K T)(ha:DE X a κ wa)(hg:Gl X "isinstance")(hm:X.mg "isinstance"=none)(hgT:Gl X Tn)(hmT:X.mg Tn=none)(hvT:bootBuiltins Tn=some (.type T))
  (hnT:Tn ≠ "__name__":=by decide) (hdT:(Tn==("__debug__" : Str))=false:=by decide)
  (he:starEach [a,.Name Tn p2] X.env=(false,eval a X.env)::starEach [.Name Tn p2] X.env:=by rfl) (he2:starEach [.Name Tn p2] X.env=[(false,eval (.Name Tn p2) X.env)]:=by rfl)
  (hpl:(backTo pos (starEach [.Name Tn p2] X.env)).any (·.1)=false:=by rfl):DE X (.Call (.Name "isinstance" p) [a,.Name Tn p2] [] pos) .sh (Ej T wa):=by
 obtain⟨t,h1,h2⟩:=ha
 have pT:PE X (.Name Tn p2) (tC (.ty T)):=TZ hgT hmT hvT (v:=.ty T) rfl hnT hdT
 refine⟨_,GA Na hg hm (by decide +kernel) (B7 h1 (B7 pT DL he2) he) (by decide) (by decide) he hpl,λC M H n ρ σ P Q R w q=>?_⟩
 refine h2 C M H n ρ σ _ _ R w λv H1 d n1 e1 f1 r1 p=>?_
 exact⟨v,T,_,_,rfl,TB (r1.tpOf R.dom R.vM),kt.ans _ (TC d),q _ H1 (.bl (Vf (WM d) T)) n1 e1 f1 rfl p⟩
section
variable {K:Frag}{X:Cx}
def UZ(d e:D)(P:D->Prop):Prop:=match d,e with
 | .int i,.int j=>P (.int (i+j))
 | .str i,.str j=>i.length+j.length<=sizeLine/\P (.str (i++j))
 | .tup i,.tup j=>i≠[]/\i.length+j.length<=sizeLine/\P (.tup (i++j))
 | .lst i,.lst j=>i.length+j.length<=sizeLine/\P (.lst (i++j))
 | _,_=>False
def US:R2:=λx y H Q=>∃l b xs zs,x=.ref l/\y=.ref b/\Rd H l (.lst xs)/\Rd H b (.lst zs)/\xs.length+zs.length<=sizeLine/\∀p,H p=none->Q (.ref p) (BG H p (.lst (xs++zs)))
def UR:R2:=λx y H Q=>∃i j,x=.str i/\y=.str j/\i.length+j.length<=sizeLine/\Q (.str (i++j)) H
def RZ(g:Str->Str->Bool):R2:=λx y H Q=>∃i j,x=.str i/\y=.str j/\Q (.bl (g i j)) H
def Rg(K:Frag):R2:=λx y H Q=>(Hl λi j=>.int (i+j)) x y H Q\/UR x y H Q\/Rf K x y H Q\/US x y H Q
theorem op_addU:OpR X (binaryOp .Add) (Rg X.K):=op_add.or ((show OpR X (binaryOp .Add) UR from OJ).or (op_catT.or (show OpR X (binaryOp .Add) US from Tc)))
theorem MD:EW X.K .sh (Rg X.K) UZ:=λU M H d e x y P Q dom vM hx hy w q=>by
 unfold UZ at w
 split at w
 ·exact .inl (Sy (K:=X.K) (g:=λi j=>i+j) U M H (.int _) (.int _) x y P Q dom vM hx hy w q)
 ·exact .inr (.inl (Q4 (K:=X.K) U M H (.str _) (.str _) x y P Q dom vM hx hy w q))
 ·exact .inr (.inr (.inl (Q3 (K:=X.K) U M H (.tup _) (.tup _) x y P Q dom vM hx hy w q)))
 ·exact .inr (.inr (.inr (Q5 (K:=X.K) U M H (.lst _) (.lst _) x y P Q dom vM hx hy w λv H' z g r p=>q v H' z g (r.shOf dom (by intro z; cases z)) p)))
 ·exact w.elim
def XB(d e:D)(P:D->Prop):Prop:=match d,e with
 | .int i,.int j=>P (.bl (decide (i<j)))
 | .str i,.str j=>P (.bl (decide (i.cps.toList<j.cps.toList)))
 | _,_=>False
def U9:R2:=λx y H Q=>(Hl λi j=>.bl (decide (i<j))) x y H Q\/RZ (λi j=>decide (i.cps.toList<j.cps.toList)) x y H Q
theorem op_ltU:OpR X (compareOp .Lt) U9:=op_lt.or QS
theorem Ug:EW X.K .sh U9 XB:=λU M H d e x y P Q dom vM hx hy w q=>by
 unfold XB at w
 split at w
 ·exact .inl (Oj (K:=X.K) (g:=λi j=>decide (i<j)) U M H (.int _) (.int _) x y P Q dom vM hx hy w q)
 ·exact .inr (Oi (K:=X.K) (g:=λi j=>decide (i.cps.toList<j.cps.toList)) U M H (.str _) (.str _) x y P Q dom vM hx hy w q)
 ·exact w.elim
def Qv(d e:D)(P:D->Prop):Prop:=match d,e with
 | .int i,.int j=>P (.bl (decide (i<=j)))
 | .str i,.str j=>P (.bl (!(decide (j.cps.toList<i.cps.toList))))
 | _,_=>False
def Wi:R2:=λx y H Q=>(Hl λi j=>.bl (decide (i<=j))) x y H Q\/RZ (λi j=>!(decide (j.cps.toList<i.cps.toList))) x y H Q
theorem La:OpR X (compareOp .LtE) Wi:=op_le.or QT
theorem Pw:EW X.K .sh Wi Qv:=λU M H d e x y P Q dom vM hx hy w q=>by
 unfold Qv at w
 split at w
 ·exact .inl (Oj (K:=X.K) (g:=λi j=>decide (i<=j)) U M H (.int _) (.int _) x y P Q dom vM hx hy w q)
 ·exact .inr (Oi (K:=X.K) (g:=λi j=>!(decide (j.cps.toList<i.cps.toList))) U M H (.str _) (.str _) x y P Q dom vM hx hy w q)
 ·exact w.elim
def Wo:R2:=Hl λi j=>.bl (decide (j<i))
theorem G2:OpR X (compareOp .Gt) Wo:=UW
theorem Kv:EW X.K .sh Wo (f2 λi j=>.bl (decide (j<i))):=Oj
def Wn:R2:=RZ λi j=>!(Builtin.Str.occurrences j i 0 j.length 1).isEmpty
theorem VO:OpR X (compareOp .In) Wn:=QV
theorem XM:EW X.K .sh Wn (WE λi j P=>P (.bl (!(Builtin.Str.occurrences j i 0 j.length 1).isEmpty))):=Oi
def Wa:V->Option Int->Option Int->Hp->VK->Prop:=λx lo hi H Q=>∃z,x=.str z/\z.length<=sizeLine/\Q (.str (Txt.slice z lo hi)) H
theorem sl_U:SlR X Wa:=U3
def Uq(w:DW):DW:=λn ρ P=>w n ρ λd n1=>∃i,d=.int i/\P (.int (-i)) n1
theorem Sk{a:Expr}{κ:Kd}{wa:DW}{pos:Pos}(h:DE X a κ wa):DE X (.UnaryOp .USub a pos) .sh (Uq wa):=by
 obtain⟨t,h1,h2⟩:=h
 refine⟨_,Wu Ur h1,λC M H n ρ σ P Q R w q=>?_⟩
 refine h2 C M H n ρ σ _ _ R w λv H1 d n1 e1 f1 r1 p=>?_
 obtain⟨i,rfl,p⟩:=p
 exact⟨i,Lr r1,q _ H1 (.int (-i)) n1 e1 f1 rfl p⟩
def Got(P:Program)(w:World)(K:Frag)(mg:Str->Option Value)(base:Heap)(x:Str)(k:Nat)(ps:List Str)(κ:Kd)(W:W2):Prop :=
 ∃f fd,BK P w K mg base DB k f fd ps (D_ K κ W ps.length)/\mg x=some (.ref f)/\keepIn K (.ref f)=true/\Binds K fd ps []/\∀ss n P,W ss n P->ss.length=ps.length
theorem AJ{e:Expr}{es:List Expr}{k:Nat}{ps:List Str}{κ:Kd}{W:W2}{x:Str}{p pos:Pos}{was:WB}(G:Got X.prog X.w X.K X.mg X.base x k ps κ W)
  (hr:Room k X.A) (hg:Gl X x) (ha:XZ X (e::es) was)
  (hdb:(x==("__debug__" : Str))=false:=by decide) (he:starEach (e::es) X.env=(false,eval e X.env)::starEach es X.env:=by rfl) (hpl:(backTo pos (starEach es X.env)).any (·.1)=false:=by rfl) :
  DE X (.Call (.Name x p) (e::es) [] pos) κ (Aa W was):=by
 obtain⟨f,fd,G,hm,hk,hb,hW⟩:=G
 exact T5 G hW hr hg hm hk hb ha hdb he hpl
def UU(np:Nat)(g:List D->D):W2:=λss n P=>∃ds:List D,ds.length=np/\ss=ds.map .sh/\P (g ds) n
theorem G1{np:Nat}{g:List D->D}{ss:List Slot}{n:Nat}{P:D->Nat->Prop}(h:UU np g ss n P):ss.length=np:=by
 obtain⟨ds,e,rfl,_⟩:=h
 rw [List.length_map]; exact e
theorem PP:S4 K "int":=⟨λt ht=>by
 simp only [List.mem_cons,List.not_mem_nil,or_false] at ht
 rcases ht with rfl | rfl | rfl | rfl | rfl | rfl | rfl <;> kernel_rfl⟩
theorem NE:S4 K "bool":=⟨λt ht=>by
 simp only [List.mem_cons,List.not_mem_nil,or_false] at ht
 rcases ht with rfl | rfl | rfl | rfl | rfl | rfl | rfl <;> kernel_rfl⟩
theorem Lp:S4 K "str":=⟨λt ht=>by
 simp only [List.mem_cons,List.not_mem_nil,or_false] at ht
 rcases ht with rfl | rfl | rfl | rfl | rfl | rfl | rfl <;> kernel_rfl⟩
theorem kit_tuple:S4 K "tuple":=⟨λt ht=>by
 simp only [List.mem_cons,List.not_mem_nil,or_false] at ht
 rcases ht with rfl | rfl | rfl | rfl | rfl | rfl | rfl <;> kernel_rfl⟩
end
theorem Fl{i:Nat}{te:DW}{P:List D->Nat->Prop}{g:D->D}(I:List Slot->Prop)(hI:∀d ρ,I ρ->I (ρ.set i (.sh d))) :
  ∀(ds acc:List D) (n:Nat) (ρ:List Slot),(∀d∈ds,∀ρ n P',I ρ->P' (g d) n->te n (ρ.set i (.sh d)) P')->I ρ->P (acc++ds.map g) n->CL (AX i) CM te P ds acc n ρ
 | [],acc,n,ρ,_,_,h=>by
  rw [List.map_nil,List.append_nil] at h
  exact h
 | d::ds,acc,n,ρ,ht,hρ,h=>by
  refine ht d List.mem_cons_self ρ n _ hρ ?_
  refine Fl I hI ds (acc++[g d]) n _ (λd hd=>ht d (List.mem_cons_of_mem _ hd)) (hI d ρ hρ) ?_
  rw [List.append_assoc]
  exact h
theorem Gd{α:Type}(p:α->Bool):∀l:List α,allB (l.map λc=>.bl (p c))=some (l.map p)
 | []=>rfl
 | a::l=>by
  rw [List.map_cons,List.map_cons]
  unfold allB
  rw [Gd p l]
  rfl
theorem Sv{b1 b2:Bool}{P:D->Nat->Prop}{n:Nat}{k:(D->Nat->Prop)->Prop}(hk:b1=true->P (.bl b2) n->k P)(h:P (.bl (b1&&b2)) n):(match (.bl b1:D) with | .bl true=>k P | .bl false=>P (.bl false) n | _=>False):=by
 cases b1 with
 | false=>exact h
 | true=>exact hk rfl h
theorem Aw{P:Program}{w:World}{K:Frag}{mg:Str->Option Value}{base:Heap}{x:Str}{st:Stmt}{f:Addr}{fd:FuncData}{k:Nat}{ps:List Str}{κ:Kd}{W:W2}(F:Fun K x x st f fd)(m:mg x=some (.ref f))(b:Binds K fd ps [])
  (hW:∀ss n P,W ss n P->ss.length=ps.length) (ok:BK P w K mg base DB k f fd ps (D_ K κ W ps.length)):Got P w K mg base x k ps κ W:=⟨f,fd,ok,m,F.kp,b,hW⟩
def MS(K:Frag):Sp:=λvs H Q _=>∃a ns,vs=[V.ref a]/\(List.length (α:=Int) ns<=63/\SqL K H a (ns.map V.int))/\∀H',Q (.bl true) H'
def K8(K:Frag):Sp:=λvs H Q _=>∃a ns,vs=[V.ref a]/\(List.length (α:=Int) ns<=63/\SqL K H a (ns.map V.int)) /\
 ∀(c f:Addr) (H':Hp),c≠f->H' c=some (.lst (ns.map V.int))->H' f=some (.lst [.ref c,.int 0,.int 0])->Q (.ref f) H'
theorem XH{ns:List Int}(h:ns.length<=63):J_ (ns.map V.int) none (some 63)=ns.map V.int:=by
 have e:HT.sIx (ns.map V.int).length (ns.map V.int).length (some 63)=ns.length:=by
  rw [show (63:Int)=((63:Nat):Int) from rfl,HT.sIx_nat,List.length_map,Nat.min_eq_right h]
 unfold J_
 rw [e,HT.sIx_none,List.drop_zero,Nat.sub_zero]
 exact List.take_of_length_le (by rw [List.length_map]; exact Nat.le_refl _)
theorem G7{b:BW}{body:Al}{D2:E2}(I:Nat->Nat->List Slot->Prop)(hend:∀n ρ,I 0 n ρ->D2.nx n ρ)
  (hstep:∀(k:Nat) (d:D) (n:Nat) (ρ:List Slot) (nx:Nat->List Slot->Prop),I (k+1) n ρ->(∀n' ρ',I k n' ρ'->nx n' ρ')->b d ρ λρ1=>body { D2 with nx:=nx,ct:=nx,bk:=D2.nx } n ρ1) :
  ∀(ds:List D) (n:Nat) (ρ:List Slot),I ds.length n ρ->Bj b body D2 ds n ρ
 | [],n,ρ,h=>hend n ρ h
 | d::ds,n,ρ,h=>hstep ds.length d n ρ (Bj b body D2 ds) h λn' ρ' h'=>G7 I hend hstep ds n' ρ' h'
theorem W9{P:Program}{w:World}{K:Frag}{mg:Str->Option Value}{base:Heap}{st s1:Stmt}{rest:List Stmt}{f:Addr}{fd:FuncData}{Nr:List Str}{k n0:Nat}{wb:Al}(F:Fun K "law" "law" st f fd)
  (S:Aj ("_law_script" :: "_law_feed_here"::Nr) ["_law_script"] (AG st)) (hbd:Ag st=s1::rest) (hn0:n0<=2 ^ 60)
  (h1:∀(cdv:Value) (A:Around) (outer:List Env) (s:Shared) (H:Hp) (E:XK),Room k (A.deeper (envOfC "law" (AG st) s.heap.objs.size f cdv)) ->
   PS (L3 DB P w K mg base ("_law_script" :: "_law_feed_here"::Nr) "law" (AG st) f cdv A outer s H E).nox s1 (MO (RQ (K8 K) [] E0 (Ox (CN 0) TJ)) (HV 1)))
  (h2:∀(cdv:Value) (A:Around) (outer:List Env) (s:Shared) (H:Hp) (E:XK),Room k (A.deeper (envOfC "law" (AG st) s.heap.objs.size f cdv)) ->
   S5 (L3 DB P w K mg base ("_law_script" :: "_law_feed_here"::Nr) "law" (AG st) f cdv A outer s H E).nox .sh rest wb)
  (hW:wb { nx:=λ_ _=>False,rt:=λd _=>d=.bl true } n0 (.no::.fd::List.replicate Nr.length .no)):BK P w K mg base DB (k+1) f fd ["_law_script"] (MS K):=by
 refine F.ok S (λvs H Q E h=>?_) (λcdv A outer s H vs Q E hr h=>?_)
 ·obtain⟨a,ns,rfl,_⟩:=h
  rfl
 ·obtain⟨a,ns,rfl,⟨hl,hS⟩,q⟩:=h
  obtain⟨t,t1,t2⟩:=h2 cdv A outer s H E hr
  refine⟨P9 (MO (RQ (K8 K) [] E0 (Ox (CN 0) TJ)) (HV 1)) t,by rw [hbd]; exact BU (h1 cdv A outer s H E hr) t1,?_⟩
  refine⟨_,rfl,a,ns,rfl,⟨hl,hS⟩,λc g H' hcg hc hg=>?_⟩
  have at_:∀(i:Nat) (sl:Slot),(Slot.no::Slot.fd::List.replicate Nr.length Slot.no)[i]?=some sl->Slot.no=sl\/(Slot.fd=sl/\i=1):=by
   intro i sl hs
   match i,hs with
   | 0,hs=>exact .inl (Option.some.inj hs)
   | 1,hs=>exact .inr ⟨Option.some.inj hs,rfl⟩
   | i+2,hs =>
    rw [List.getElem?_cons_succ,List.getElem?_cons_succ,List.getElem?_replicate] at hs
    split at hs
    ·exact .inl (Option.some.inj hs)
    ·cases hs
  have R:Rel K ⟨λb=>b=g,some (g,c),λb=>b=g,λb=>b=g,H',[],[]⟩ (λb=>b=g) H' n0 (.no::.fd::List.replicate Nr.length .no) ((start ("_law_script" :: "_law_feed_here"::Nr) [V.ref a]).set 1 (some (.ref g))):=by
   refine⟨by simp [L2.start],λ_ z=>z,λb z=>⟨_,(congrArg H' z).trans hg⟩,Ext.refl _ _,λb z=>by rw [← Option.some.inj z],λ_ z=>z,λ_ z=>z,λb z=>?_,λi sl hs=>?_,λp hp=>absurd hp (by simp),λi d b hs _=>?_,λi sl b hs o _=>?_,λi j sl t b hs o _ _ _ _=>?_,λp hp=>absurd hp (by simp)⟩
   ·have e:(g,c)=b:=Option.some.inj z
    subst e
    exact⟨0,0,ns,hg,hcg,⟨hcg,hc⟩,hl,by decide,by omega⟩
   ·rcases at_ i sl hs with e | ⟨e,rfl⟩
    ·rw [← e]; trivial
    ·rw [← e]
     exact⟨(g,c),by simp [L2.start],rfl⟩
   ·rcases at_ i _ hs with e | ⟨e,_⟩ <;> cases e
   ·rcases at_ i sl hs with e | ⟨e,_⟩ <;> (rw [← e] at o; cases o)
   ·rcases at_ i sl hs with e | ⟨e,_⟩ <;> (rw [← e] at o; cases o)
  refine t2 _ _ H' n0 _ _ { nx:=λ_ _=>False,rt:=λd _=>d=.bl true } _ R ⟨λ_ _ _ _ _ _ z=>z.elim,λv H2 d n' _ _ r p=>?_,λ_ _ _ _ _ _ z=>z.elim,λ_ _ _ _ _ _ z=>z.elim⟩ hW
  have e:d=.bl true:=p
  subst e
  have e2:v=.bl true:=r
  subst e2
  exact q H2
end Dp
namespace L2
open PySem PySem.Spec PyProof.Rows
section
variable {X:Cx}
theorem Ft:∀{us:List Value} {ys:List Str},StrsAre us ys->Vals (ys.map V.str) us
 | _,_,.nil=>.nil
 | _,_,.cons x t r=>.cons ⟨t,rfl⟩ (Ft r)
def Rb(K:Frag):List V->Hp->VK->Prop:=λxs H Q=>∃(p:Addr) (ss:List Str),xs=[.ref p]/\SqL K H p (ss.map V.str)/\ss.length<64/\∀(ss':List Str) (l:Addr),ss'.Perm ss->sortedS ss'=true->H l=none->Q (.ref l) (BG H l (.lst (ss'.map V.str)))
theorem JZ:EM X (.builtin "sorted") (Rb X.K):=by
 intro pins s σ H xs us Q I r h
 obtain⟨p,ss,rfl,hq,h64,q⟩:=h
 obtain⟨u,rfl,rx⟩:=vals1 r
 cases rx
 obtain⟨its,r',pl,hz⟩:=I.list hq
 have hlen:=r'.length
 rw [List.length_map] at hlen
 refine sorted_strs pl.isList (IS r') (by omega) λout ss' a1 a2 a3=>?_
 obtain⟨e,he⟩:=sortedAll_at s.heap its out
 have hl':ss'.length=ss.length:=a2.length_eq
 have hn:H (s.heap.objs.size+1)=none:=I.hok.fresh (Nat.le_succ _)
 refine⟨.ref (s.heap.objs.size+1),_,I.laid (t':=s.toks) (λb o z=>sortedAll_old z) (Nat.le_succ _) (show ObjOk X.prog X.w _ _ _ (.lst (ss'.map V.str)) from⟨?_,out.toList,e,Ft a1,?_⟩),rfl,q ss' _ a2 a3 hn⟩
 ·rw [List.length_map,sizeLine_eq]; omega
 ·exact he
def UM:R2:=λx y H Q=>∃z k,x=.str z/\y=.int k/\MulOk z k/\Q (.str (Txt.mul z k)) H
theorem Tb:OpR X (binaryOp .Mult) UM:=by
 intro pins s σ H x y v u Q I rx ry h
 obtain⟨z,k,rfl,rfl,hm,q⟩:=h
 obtain⟨t,rfl⟩:=rx
 obtain⟨t',rfl⟩:=ry
 exact SB.mul hm λt' k=>⟨.str _,H,I.tok _,⟨_,rfl⟩,q⟩
end
end L2
namespace Dp
open PySem PySem.Spec PyProof.Rows L2
section
variable {K:Frag}
def CU(ds:List D)(P:D->Prop):Prop:=match ds with
 | [.lst xs]=>P (.tup xs)
 | [.tup xs]=>P (.tup xs)
 | _=>False
theorem EL:Fe K .sh (λxs H Q=>∃p ys,xs=[.ref p]/\((SqL K H p ys/\∀l,H l=none->Q (.ref l) (BG H l (.tup ys)))\/(SqT K H p ys/\Q (.ref p) H))) CU:=by
 intro U M H ds vs P Q dom vM hp w q
 unfold CU at w
 split at w
 ·obtain⟨v,rfl,hx⟩:=GB hp
  obtain⟨a,us,rfl,_,ha,hs⟩:=hx
  exact⟨a,us,rfl,.inl ⟨.inl ha,λl hl=>q _ _ (.tup _) (A9 hl) (Dk dom hl hs) w⟩⟩
 ·obtain⟨v,rfl,hx⟩:=GB hp
  obtain⟨a,us,rfl,ha,hs⟩:=hx.tup
  exact⟨a,us,rfl,.inr ⟨ha.sq,q _ H (.tup _) .refl ⟨a,us,rfl,ha,hs⟩ w⟩⟩
 ·exact w.elim
theorem Ats.strs{M:Addr->Prop}{H:Hp}:∀{ss:List Str},(∀x∈ss,x.length<=sizeLine)->Ats K M H (ss.map D.str) (ss.map V.str)
 | [],_=>rfl
 | x::r,h=>⟨.str x,r.map V.str,rfl,⟨rfl,h x List.mem_cons_self⟩,Ats.strs λy hy=>h y (List.mem_cons_of_mem _ hy)⟩
theorem Ats.strs_le{M:Addr->Prop}{H:Hp}:∀{ss:List Str} {vs:List V},Ats K M H (ss.map D.str) vs->∀x∈ss,x.length<=sizeLine
 | [],_,_=>λx hx=>by cases hx
 | y::r,vs,h=>λx hx=>by
  obtain⟨v,t,e,h1,h2⟩:=h
  rcases List.mem_cons.mp hx with rfl | hx
  ·exact h1.2
  ·exact Ats.strs_le h2 x hx
def JL(ds:List D)(P:D->Prop):Prop:=∃(xs:List D) (ss:List Str),ds=[.lst xs]/\DH xs=some ss/\ss.length<64/\∀ss':List Str,ss'.Perm ss->sortedS ss'=true->P (.lst (ss'.map .str))
theorem Pq:∀{xs:List D} {ss:List Str},DH xs=some ss->xs=ss.map .str
 | [],ss,h=>by cases h; rfl
 | .str b::r,ss,h=>by
  unfold DH at h
  obtain⟨t,e,rfl⟩:=Option.map_eq_some_iff.mp h
  rw [List.map_cons,← Pq e]
 | .non::r,ss,h=>by unfold DH at h; cases h
 | .int _::r,ss,h=>by unfold DH at h; cases h
 | .bl _::r,ss,h=>by unfold DH at h; cases h
 | .tup _::r,ss,h=>by unfold DH at h; cases h
 | .lst _::r,ss,h=>by unfold DH at h; cases h
 | .dic _ _::r,ss,h=>by unfold DH at h; cases h
 | .fdi _ _::r,ss,h=>by unfold DH at h; cases h
 | .dit _ _::r,ss,h=>by unfold DH at h; cases h
theorem Pu:Fe K .fr (Rb K) JL:=by
 intro U M H ds vs P Q dom vM hp w q
 obtain⟨xs,ss,rfl,e,h64,w⟩:=w
 obtain⟨v,rfl,hx⟩:=GB hp
 obtain⟨a,us,rfl,_,ha,hs⟩:=hx
 have:=MA e hs
 subst this
 have e2:=Pq e
 subst e2
 refine⟨a,ss,rfl,.inl ha,h64,λss' l h1 h2 hl=>?_⟩
 exact q _ _ _ (A9 hl) (Ey hl (Ats.strs λx hx=>hs.strs_le x (h1.mem_iff.mp hx))) (w ss' h1 h2)
def Ci(d e:D)(P:D->Prop):Prop:=match d,e with
 | .int i,.int j=>CMul i j/\P (.int (i*j))
 | .str z,.int k=>MulOk z k/\(Txt.mul z k).length<=sizeLine/\P (.str (Txt.mul z k))
 | _,_=>False
def UN:R2:=λx y H Q=>(rI CMul λi j=>.int (i*j)) x y H Q\/UM x y H Q
theorem DC{X:Cx}:OpR X (binaryOp .Mult) UN:=op_mul.or Tb
theorem D7:EW K .sh UN Ci:=λU M H d e x y P Q dom vM hx hy w q=>by
 unfold Ci at w
 split at w
 ·exact .inl (D8 (K:=K) (C:=CMul) (g:=λi j=>i*j) U M H (.int _) (.int _) x y P Q dom vM hx hy w q)
 ·rename_i z k
  exact .inr ⟨z,k,hx.1,hy,w.1,q _ H (.str _) .refl ⟨rfl,w.2.1⟩ w.2.2⟩
 ·exact w.elim
end
section
variable {X:Cx}{tg e e2:Expr}{es:List Expr}{ws:FT}{p pos:Pos}
def RF(ws:FT):FT:=λn ρ P=>ws n ρ λds n1=>∃i j:Int,ds=[.int i,.int j]/\(-(2 ^ 62)<=i/\i<2 ^ 62/\-(2 ^ 62)<=j/\j<2 ^ 62)/\P (C2 i (j - i).toNat) n1
theorem Kj(hg:Gl X "range")(hm:X.mg "range"=none)(ha:T_ X [e,e2] ws)(hs:starEach [e,e2] X.env=[(false,eval e X.env),(false,eval e2 X.env)]:=by rfl)(hs2:starEach [e2] X.env=[(false,eval e2 X.env)]:=by rfl):DI X tg (.Call (.Name "range" p) [e,e2] [] pos) (RF ws):=by
 obtain⟨t,a1,a2⟩:=ha
 refine⟨_,QM hg hm a1 hs hs2,λC M H n ρ σ P Rr R w q=>?_⟩
 refine a2 C M H n ρ σ _ _ R w λvs H1 ds n1 e1 f1 r1 p=>?_
 obtain⟨i,j,rfl,hj,p⟩:=p
 cases r1 with
 | cons r rr =>
  cases rr with
  | cons r' rr =>
   cases rr
   have hv:_=V.int i:=r
   have hv':_=V.int j:=r'
   exact⟨i,j,by rw [hv,hv'],hj,q _ H1 _ n1 e1 f1 Fq p⟩
def Xm(X:Cx)(ts:List Expr)(b:List D->List Slot->(List Slot->Prop)->Prop):Prop:=∃g,XT X ts g/\∀(C:Fm) (M:Addr->Prop) (H:Hp) (n:Nat) (ρ:List Slot) (σ:L2.St) (ds:List D) (vs:List V) (P:List Slot->Prop) (Q:L2.St->Hp->Prop),Rel X.K C M H n ρ σ->Ats X.K M H ds vs->b ds ρ P ->
 (∀ρ' σ',Rel X.K C M H n ρ' σ'->P ρ'->Q σ' H)->g vs σ H Q
def CS:List D->List Slot->(List Slot->Prop)->Prop:=λds ρ P=>ds=[]/\P ρ
def Ao(b:BW)(bs:List D->List Slot->(List Slot->Prop)->Prop):List D->List Slot->(List Slot->Prop)->Prop:=λds ρ P=>match ds with
 | d::r=>b d ρ λρ1=>bs r ρ1 P
 | []=>False
theorem DD:Xm X [] CS:=⟨_,O9,λC M H n ρ σ ds vs P Q R h w q=>by
 obtain⟨rfl,w⟩:=w
 exact⟨h,q ρ σ R w⟩⟩
theorem Ax{b:BW}{bs:List D->List Slot->(List Slot->Prop)->Prop}(h1:DG X e b)(h2:Xm X es bs)(hs:(assignEach (e::es) X.env).map (·.2)=assign e X.env::(assignEach es X.env).map (·.2):=by rfl):Xm X (e::es) (Ao b bs):=by
 obtain⟨g,a1,a2⟩:=h1
 obtain⟨g',b1,b2⟩:=h2
 refine⟨_,Fz a1 b1 hs,λC M H n ρ σ ds vs P Q R h w q=>?_⟩
 cases ds with
 | nil=>exact w.elim
 | cons d r =>
  obtain⟨v,vr,e,hv,hr⟩:=h
  exact⟨v,vr,e,a2 C M H n ρ σ d v _ _ R hv w λρ' σ' R' w'=>b2 C M H n ρ' σ' r vr _ _ R' hr w' q⟩
def D6(k:Nat)(bs:List D->List Slot->(List Slot->Prop)->Prop):BW:=λd ρ P=>match d with
 | .tup ds=>ds.length=k/\bs ds ρ P
 | _=>False
theorem D5{bs:List D->List Slot->(List Slot->Prop)->Prop}{k:Nat}{j:Nat}(hc:X.calm=true)(h:Xm X es bs)(hn:(assignEach es X.env).length=k:=by rfl)(hst:(assignEach es X.env).findIdx? (·.1)=none:=by rfl):DG X (.Tuple es j pos) (D6 k bs):=by
 obtain⟨g,a1,a2⟩:=h
 refine⟨_,Ru hc a1 hn hst,λC M H n ρ σ d v P Q R h w q=>?_⟩
 cases d with
 | tup ds =>
  obtain⟨a,vs,rfl,hq,hs⟩:=h
  exact⟨a,vs,rfl,hq.sq,by rw [hs.length]; exact w.1,a2 C M H n ρ σ ds vs P Q R hs w.2 q⟩
 | _=>exact w.elim
def WL(wa:DW)(b:BW):Al:=λD2 n ρ=>wa n ρ λd n1=>b d ρ λρ1=>D2.nx n1 ρ1
theorem Vp{κ κe:Kd}{wa:DW}{b:BW}(he:DE X e κe wa)(hg:DG X tg b)(hk:κe≠.tp:=by intro z; cases z)(hs:swapsWithSole [tg] e pos.line X.env=pure false:=by rfl)(hw:swappedStores [tg] e X.env=pure none:=by rfl)
  (h1:(assignEach [tg] X.env).map (·.2)=[assign tg X.env]:=by rfl):DS X κ (.Assign [tg] e pos) (WL wa b):=by
 obtain⟨t,a1,a2⟩:=he
 obtain⟨g,g1,g2⟩:=hg
 refine⟨_,LU a1 g1 hs hw h1,λC M H n ρ σ D2 E R L w=>?_⟩
 refine a2 C M H n ρ σ _ _ R w λv H' d n' e1 f1 r1 p=>?_
 exact g2 C M H' n' ρ σ d v _ _ (R.step e1 f1) (r1.shOf R.dom hk) p λρ' σ' R' w'=>L.nx M H' n' ρ' σ' R' w'
end
end Dp
namespace L2
open PySem PySem.Spec PyProof.Rows
mutual
def RV(H:Hp):PyData->V->Prop
 | .none,v=>v=.non
 | .bool b,v=>v=.bl b
 | .int i,v=>v=.int i
 | .str x,v=>v=.str x
 | .tuple xs,v=>∃a vs,v=.ref a/\H a=some (.tup vs)/\RVs H xs vs
 | .list xs,v=>∃a vs,v=.ref a/\Rd H a (.lst vs)/\RVs H xs vs
 | .dict _,_=>False
def RVs(H:Hp):List PyData->List V->Prop
 | [],vs=>vs=[]
 | x::xs,vs=>∃v r,vs=v::r/\RV H x v/\RVs H xs r
end
section
variable {X:Cx}{pins:List (Addr×Obj)}{σ:L2.St}{H:Hp}{s:Shared}
mutual
theorem RV.reads(I:Inv X pins σ H s):∀{d:PyData} {v:V} {u:Value},RV H d v->RelV v u->∃as,Reads s.heap u d as
 | .none,v,u,h,r=>by
  cases (show v=.non from h)
  cases (show u=Value.none from r)
  exact⟨_,.none⟩
 | .bool b,v,u,h,r=>by
  cases (show v=.bl b from h)
  cases (show u=Value.bool b from r)
  exact⟨_,.bool b⟩
 | .int i,v,u,h,r=>by
  cases (show v=.int i from h)
  obtain⟨t,rfl⟩:=r
  exact⟨_,.int i t⟩
 | .str x,v,u,h,r=>by
  cases (show v=.str x from h)
  obtain⟨t,rfl⟩:=r
  exact⟨_,.str x t⟩
 | .tuple xs,v,u,h,r=>by
  obtain⟨a,vs,rfl,hq,hs⟩:=h
  cases r
  obtain⟨its,rv,⟨o,e,c,n,d⟩,_⟩:=I.tuple (X:=X) (xs:=vs) (.inl (.inl hq))
  obtain⟨as,ra⟩:=RVs.reads I hs rv
  exact⟨_,.tuple e c d ra⟩
 | .list xs,v,u,h,r=>by
  obtain⟨a,vs,rfl,hq,hs⟩:=h
  cases r
  obtain⟨its,rv,pl,_⟩:=I.list (X:=X) (xs:=vs) (.inl hq)
  obtain⟨o,e,c,n,d⟩:=pl.isList
  obtain⟨as,ra⟩:=RVs.reads I hs rv
  exact⟨_,.list e c d ra⟩
 | .dict _,v,u,h,r=>h.elim
theorem RVs.reads(I:Inv X pins σ H s):∀{ds:List PyData} {vs:List V} {us:List Value},RVs H ds vs->Vals vs us->∃as,ReadsAll s.heap us ds as
 | [],vs,us,h,r=>by
  cases (show vs=[] from h)
  cases r
  exact⟨_,.nil⟩
 | d::ds,vs,us,h,r=>by
  obtain⟨v,w,rfl,h1,h2⟩:=h
  cases r with
  | cons r1 r2 =>
   obtain⟨as,a1⟩:=RV.reads I h1 r1
   obtain⟨bs,a2⟩:=RVs.reads I h2 r2
   exact⟨_,.cons a1 a2⟩
end
end
theorem RV.noDict{H:Hp}:∀(d:PyData) (v:V),RV H d v->d.hasDict=false
 | d,v,h=>by
  have go:∀(n:Nat),(∀(d:PyData) (v:V),sizeOf d<=n->RV H d v->d.hasDict=false)/\∀(ds:List PyData) (vs:List V),sizeOf ds<=n->RVs H ds vs->PyData.hasDictAll ds=false:=by
   intro n
   induction n with
   | zero =>
    refine⟨λd v h _=>?_,λds vs h _=>?_⟩
    ·cases d <;> simp at h
    ·cases ds <;> simp at h
   | succ n ih =>
    refine⟨λd v h hr=>?_,λds vs h hr=>?_⟩
    ·cases d with
     | tuple xs =>
      obtain⟨a,vs,_,_,hs⟩:=hr
      simp only [PyData.hasDict]
      exact ih.2 xs vs (by simp at h; omega) hs
     | list xs =>
      obtain⟨a,vs,_,_,hs⟩:=hr
      simp only [PyData.hasDict]
      exact ih.2 xs vs (by simp at h; omega) hs
     | dict kvs=>exact(show False from hr).elim
     | none=>simp only [PyData.hasDict]
     | bool b=>simp only [PyData.hasDict]
     | int i=>simp only [PyData.hasDict]
     | str x=>simp only [PyData.hasDict]
    ·cases ds with
     | nil=>simp only [PyData.hasDictAll]
     | cons x xs =>
      obtain⟨v,w,_,h1,h2⟩:=hr
      simp only [PyData.hasDictAll,ih.1 x v (by simp at h; omega) h1,ih.2 xs w (by simp at h; omega) h2,Bool.or_false]
  exact(go (sizeOf d)).1 d v (Nat.le_refl _) h
section
variable {X:Cx}
def UL:List V->Hp->VK->Prop:=λxs H Q=>∃x d,xs=[x]/\RV H d x/\d.showable=true/\d.depth<=100/\d.shown.length<=sizeLine/\Q (.str d.shown) H
theorem Dc{k:Nat}(hr:Room k X.A):EM X (.builtin "repr") UL:=by
 intro pins s σ H xs us Q I r h
 obtain⟨x,d,rfl,hx,hs,hd,hz,q⟩:=h
 obtain⟨u,rfl,rx⟩:=vals1 r
 have hu:=hr.un
 cases d with
 | none =>
  cases (show x=.non from hx)
  cases (show u=Value.none from rx)
  exact PySem.P.repr_of_none ⟨.str _,H,I.tok _,⟨_,rfl⟩,q⟩
 | bool b =>
  cases (show x=.bl b from hx)
  cases (show u=Value.bool b from rx)
  refine PySem.P.repr_of_bool ⟨.str _,H,I.tok _,⟨_,rfl⟩,?_⟩
  have e:PyData.shown (.bool b)=if b then ("True" : Str) else "False":=by cases b <;> rfl
  rw [e] at q
  exact q
 | int i =>
  cases (show x=.int i from hx)
  obtain⟨t,rfl⟩:=rx
  refine PySem.P.repr_of_int (by simpa [PyData.showable] using hs) ⟨.str _,H,I.tok _,⟨_,rfl⟩,q⟩
 | str z =>
  cases (show x=.str z from hx)
  obtain⟨t,rfl⟩:=rx
  exact PySem.P.repr_of_str ⟨.str _,H,I.tok _,⟨_,rfl⟩,q⟩ hz
 | tuple ds =>
  obtain⟨as,ra⟩:=RV.reads I hx rx
  obtain⟨a,vs,rfl,_⟩:=id hx
  cases rx
  refine repr_of_reads' ra hs (PyData.noDict_hsm (RV.noDict _ _ hx)) hr.gd (by omega) (λ_ _ e=>e) (λh' u tk hk=>⟨.str _,H,I.kept (t':=tk) hk,⟨_,rfl⟩,q⟩) hz
 | list ds =>
  obtain⟨as,ra⟩:=RV.reads I hx rx
  obtain⟨a,vs,rfl,_⟩:=id hx
  cases rx
  refine repr_of_reads' ra hs (PyData.noDict_hsm (RV.noDict _ _ hx)) hr.gd (by omega) (λ_ _ e=>e) (λh' u tk hk=>⟨.str _,H,I.kept (t':=tk) hk,⟨_,rfl⟩,q⟩) hz
 | dict _=>exact(show False from hx).elim
def Wp:R2:=λx y H Q=>∃d e,RV H d x/\RV H e y/\d.canLay0=true/\e.canLay0=true/\d.depth<=100/\Q (.bl (PyData.eqv d e)) H
theorem R9{k:Nat}(hr:Room k X.A):OpR X (compareOp .Eq) Wp:=by
 intro pins s σ H x y v u Q I rx ry h
 obtain⟨d,e,hx,hy,h1,h2,hd,q⟩:=h
 obtain⟨as,ra⟩:=RV.reads I hx rx
 obtain⟨bs,rb⟩:=RV.reads I hy ry
 have hu:=hr.un
 have hm:min d.depth e.depth<=d.depth:=Nat.min_le_left _ _
 exact PySem.SeqAt.compareEq_reads ra rb h1 h2 (by omega) ⟨.bl _,H,I,rfl,q⟩
def VA(neg:Bool):R2:=λx y H Q=>∃d es,RV H d x/\(RV H (.list es) y\/RV H (.tuple es) y)/\d.canLay0=true/\PyData.canLayAll0 es=true/\d.depth<=100/\Q (.bl (if neg then !(es.any λy=>PyData.eqv y d) else es.any λy=>PyData.eqv y d)) H
theorem C3{k:Nat}(hr:Room k X.A):OpR X (compareOp .In) (VA false):=by
 intro pins s σ H x y v u Q I rx ry h
 obtain⟨d,es,hx,hy,h1,h2,hd,q⟩:=h
 obtain⟨as,ra⟩:=RV.reads I hx rx
 have hu:=hr.un
 have hm:min (PyData.depthAll es) d.depth<=d.depth:=Nat.min_le_right _ _
 rcases hy with hy | hy
 ·obtain⟨bs,rb⟩:=RV.reads I hy ry
  exact PySem.SeqAt.in_list_reads rb ra h2 h1 (by omega) ⟨.bl _,H,I,rfl,q⟩
 ·obtain⟨bs,rb⟩:=RV.reads I hy ry
  exact PySem.SeqAt.in_tuple_reads rb ra h2 h1 (by omega) ⟨.bl _,H,I,rfl,q⟩
theorem FG{k:Nat}(hr:Room k X.A):OpR X (compareOp .NotIn) (VA true):=by
 intro pins s σ H x y v u Q I rx ry h
 obtain⟨d,es,hx,hy,h1,h2,hd,q⟩:=h
 obtain⟨as,ra⟩:=RV.reads I hx rx
 have hu:=hr.un
 have hm:min (PyData.depthAll es) d.depth<=d.depth:=Nat.min_le_right _ _
 rcases hy with hy | hy
 ·obtain⟨bs,rb⟩:=RV.reads I hy ry
  exact PySem.SeqAt.notIn_list_reads rb ra h2 h1 (by omega) ⟨.bl _,H,I,rfl,q⟩
 ·obtain⟨bs,rb⟩:=RV.reads I hy ry
  exact PySem.SeqAt.notIn_tuple_reads rb ra h2 h1 (by omega) ⟨.bl _,H,I,rfl,q⟩
end
end L2
namespace Dp
open PySem PySem.Spec PyProof.Rows L2
mutual
def toPy:D->PyData
 | .non=>.none
 | .bl b=>.bool b
 | .int i=>.int i
 | .str x=>.str x
 | .tup ds=>.tuple (A1 ds)
 | .lst ds=>.list (A1 ds)
 | .dic _ _=>.dict []
 | .fdi _ _=>.dict []
 | .dit _ _=>.dict []
def A1:List D->List PyData
 | []=>[]
 | d::ds=>toPy d::A1 ds
end
mutual
def HP:D->Bool
 | .tup ds=>Df ds
 | .lst ds=>Df ds
 | .dic _ _=>false
 | .fdi _ _=>false
 | .dit _ _=>false
 | _=>true
def Df:List D->Bool
 | []=>true
 | d::ds=>HP d&&Df ds
end
theorem FF(ds:List D):A1 ds=ds.map toPy:=by
 induction ds with
 | nil=>rfl
 | cons d r ih=>rw [A1,ih,List.map_cons]
section
variable {K:Frag}{M:Addr->Prop}{H:Hp}
mutual
theorem At.rv:∀{d:D} {v:V},At K M H d v->HP d=true->RV H (toPy d) v
 | .non,v,h,_=>h
 | .bl b,v,h,_=>h
 | .int i,v,h,_=>h
 | .str x,v,h,_=>h.1
 | .tup ds,v,h,n=>by
  obtain⟨a,vs,e,hn,hs⟩:=h
  exact⟨a,vs,e,hn,Ats.rv hs n⟩
 | .lst ds,v,h,n=>by
  obtain⟨a,vs,e,hn,hs⟩:=h
  exact⟨a,vs,e,.inl hn.2,Ats.rv hs n⟩
 | .dic ks ds,v,h,n=>by cases n
 | .fdi ks ds,v,h,n=>by cases n
 | .dit ks ds,v,h,n=>by cases n
theorem Ats.rv:∀{ds:List D} {vs:List V},Ats K M H ds vs->Df ds=true->RVs H (A1 ds) vs
 | [],vs,h,_=>h
 | d::ds,vs,h,n=>by
  obtain⟨v,r,e,h1,h2⟩:=h
  have n':(HP d&&Df ds)=true:=n
  rw [Bool.and_eq_true] at n'
  exact⟨v,r,e,At.rv h1 n'.1,Ats.rv h2 n'.2⟩
end
theorem AtT.rv{U:Addr->Prop}{d:D}{v:V}(h:AtT K U M H d v)(n:HP d=true):RV H (toPy d) v:=by
 cases d with
 | lst ds =>
  obtain⟨a,vs,e,_,hq,hs⟩:=h
  exact⟨a,vs,e,hq,Ats.rv hs n⟩
 | dic ks ds=>cases n
 | fdi ks ds=>cases n
 | dit ks ds=>cases n
 | non=>exact h
 | bl b=>exact h
 | int i=>exact h
 | str x=>exact h.1
 | tup ds=>exact At.rv (K:=K) (M:=M) (d:=.tup ds) h n
def MT(d:D):Prop:=HP d=true/\(toPy d).showable=true/\(toPy d).depth<=100/\(toPy d).shown.length<=sizeLine
def BH(d:D):Str:=(toPy d).shown
def JM(ds:List D)(P:D->Prop):Prop:=∃d,ds=[d]/\MT d/\P (.str (BH d))
theorem HG:Fe K .sh UL JM:=by
 intro U M H ds vs P Q dom vM hp w q
 obtain⟨d,rfl,hd,w⟩:=w
 obtain⟨v,rfl,hx⟩:=GB hp
 exact⟨v,toPy d,rfl,hx.rv hd.1,hd.2.1,hd.2.2.1,hd.2.2.2,q _ H (.str (BH d)) .refl ⟨rfl,hd.2.2.2⟩ w⟩
def EH(d:D):Prop:=HP d=true/\(toPy d).canLay0=true/\(toPy d).depth<=100
def Eg(d e:D):Bool:=PyData.eqv (toPy d) (toPy e)
def Vl(d e:D)(P:D->Prop):Prop:=EH d/\EH e/\P (.bl (Eg d e))
theorem Uh:EW K .sh Wp Vl:=λU M H d e x y P Q dom vM hx hy w q =>
 ⟨toPy d,toPy e,hx.rv w.1.1,hy.rv w.2.1.1,w.1.2.1,w.2.1.2.1,w.1.2.2,q _ H (.bl (Eg d e)) .refl rfl w.2.2⟩
def Hg:D->Option (List D)
 | .lst ds=>some ds
 | .tup ds=>some ds
 | _=>none
def Dl(neg:Bool)(d e:D)(P:D->Prop):Prop:=EH d/\EH e/\∃es,Hg e=some es/\P (.bl (if neg then !(es.any λy=>Eg y d) else es.any λy=>Eg y d))
theorem DK{neg:Bool}:EW K .sh (VA neg) (Dl neg):=λU M H d e x y P Q dom vM hx hy w q=>by
 obtain⟨h1,h2,es,he,w⟩:=w
 have any_eq:∀es:List D,(es.map toPy).any (λy=>PyData.eqv y (toPy d))=es.any λy=>Eg y d:=λes=>by rw [List.any_map]; rfl
 cases e with
 | lst ds =>
  cases he
  refine⟨toPy d,A1 es,hx.rv h1.1,.inl (hy.rv h2.1),h1.2.1,by simpa [toPy,PyData.canLay0] using h2.2.1,h1.2.2,?_⟩
  rw [FF,any_eq]
  exact q _ H (.bl _) .refl rfl w
 | tup ds =>
  cases he
  refine⟨toPy d,A1 es,hx.rv h1.1,.inr (hy.rv h2.1),h1.2.1,by simpa [toPy,PyData.canLay0] using h2.2.1,h1.2.2,?_⟩
  rw [FF,any_eq]
  exact q _ H (.bl _) .refl rfl w
 | _=>cases he
def Vj(d e:D)(P:D->Prop):Prop:=EH d/\EH e/\P (.bl (!Eg d e))
end
end Dp
namespace L2
open PySem PySem.Spec PyProof.Rows
def Wf:R2:=λx y H Q=>∃d e,RV H d x/\RV H e y/\d.canLay0=true/\e.canLay0=true/\d.depth<=100/\Q (.bl (!PyData.eqv d e)) H
theorem R8{X:Cx}{k:Nat}(hr:Room k X.A):OpR X (compareOp .NotEq) Wf:=by
 intro pins s σ H x y v u Q I rx ry h
 obtain⟨d,e,hx,hy,h1,h2,hd,q⟩:=h
 obtain⟨as,ra⟩:=RV.reads I hx rx
 obtain⟨bs,rb⟩:=RV.reads I hy ry
 have hu:=hr.un
 have hm:min d.depth e.depth<=d.depth:=Nat.min_le_left _ _
 exact PySem.SeqAt.compareNe_reads ra rb h1 h2 (by omega) ⟨.bl _,H,I,rfl,q⟩
end L2
namespace Dp
open PySem PySem.Spec PyProof.Rows L2
theorem Ue{K:Frag}:EW K .sh Wf Vj:=λU M H d e x y P Q dom vM hx hy w q =>
 ⟨toPy d,toPy e,hx.rv w.1.1,hy.rv w.2.1.1,w.1.2.1,w.2.1.2.1,w.1.2.2,q _ H (.bl (!Eg d e)) .refl rfl w.2.2⟩
end Dp
namespace L2
open PySem PySem.Spec PyProof.Rows
def kOf:Key->V
 | .inl i=>.int i
 | .inr x=>.str x
def Xf:Key->Key->Bool
 | .inl i,.inl j=>decide (i<j)
 | .inr x,.inr y=>decide (x.cps.toList<y.cps.toList)
 | _,_=>false
def KU:Key->Key->Bool
 | .inl _,.inl _=>true
 | .inr _,.inr _=>true
 | _,_=>false
def ER:List Key->List Key->Bool
 | [],[]=>false
 | [],_::_=>true
 | _::_,[]=>false
 | x::xs,y::ys=>if x=y then ER xs ys else Xf x y
def CV:List Key->List Key->Bool
 | x::xs,y::ys=>KU x y&&CV xs ys
 | _,_=>true
theorem Sb{A:Around}{s:Shared}{x y:Key}{u v:Value}(rx:RelV (kOf x) u)(ry:RelV (kOf y) v):∃e,SeqAt.EqAt A s u v e/\(e=true↔x=y):=by
 cases x with
 | inl i =>
  cases y with
  | inl j=>exact⟨_,Lx rx ry rfl rfl,by simp [kOf,XC]⟩
  | inr z=>exact⟨_,Lx rx ry rfl rfl,by simp [kOf,XC]⟩
 | inr z =>
  cases y with
  | inl j=>exact⟨_,Lx rx ry rfl rfl,by simp [kOf,XC]⟩
  | inr z'=>exact⟨_,Lx rx ry rfl rfl,by simp [kOf,XC]⟩
theorem RY(A:Around)(s:Shared){x y:Key}{u v:Value}(rx:RelV (kOf x) u)(ry:RelV (kOf y) v)(hs:KU x y=true)(prog:Program)(w:World)(E:Value->Shared->Prop)(Q:Value->Shared->Prop)(h:Q (.bool (Xf x y)) s) :
  wpAny (model prog w) A (richCompare .Lt u v) Q E s:=by
 cases x with
 | inl i =>
  cases y with
  | inl j =>
   obtain⟨t,rfl⟩:=rx
   obtain⟨t',rfl⟩:=ry
   exact(PyProof.Rows.lt_int h:wpAny (model prog w) A (compareOp .Lt (.int i t) (.int j t')) Q E s)
  | inr z=>cases hs
 | inr z =>
  cases y with
  | inl j=>cases hs
  | inr z' =>
   obtain⟨t,rfl⟩:=rx
   obtain⟨t',rfl⟩:=ry
   exact(PySem.P.lt_str h:wpAny (model prog w) A (compareOp .Lt (.str z t) (.str z' t')) Q E s)
section
open PySem.SeqAt
open PySem.AutoSeq1 (wpAny_loadPart')
open PySem.MeetsSeq PySem.MeetsSeq2 PySem.MeetsSeq3
theorem FU(l b:Addr)(items items2:Array Value)(n n2:Nat)(dd dd2:Option Addr)(sl sl2:Array (Option Value))(ns ms:List Key)(hi:Vals (ns.map kOf) items.toList)(hj:Vals (ms.map kOf) items2.toList)(hsame:CV ns ms=true) :
  Meets (Builtin.«tuple.__lt__» ⟨[.ref l,.ref b],[]⟩)
   (λ_ R s=>s.heap.get? l=some { cls:=.type "tuple",dict:=dd,data:=.seq items n,slots:=sl }/\s.heap.get? b=some { cls:=.type "tuple",dict:=dd2,data:=.seq items2 n2,slots:=sl2 } /\
    R (.ok (.ret (.bool (ER ns ms)))) s) :=
 .of_wp λprog w A R s h=>by
  obtain⟨hp,g,d,tk,os⟩:=s; obtain⟨hl,hb,h⟩:=h
  have f2:=AutoSeq1.sub_tuple_tuple
  have z1:items.size=ns.length:=by have:=hi.length; rw [List.length_map] at this; rw [this]; simp
  have z2:items2.size=ms.length:=by have:=hj.length; rw [List.length_map] at this; rw [this]; simp
  wp_walk using wpAny_loadPart' hl,wpAny_loadPart' hb,wpAny_forIn_list _ (λrest b s'=>b.1=none/\s'=⟨hp,g,d,tk,os⟩/\∃(vs ws:List Value) (ns' ms':List Key),rest=vs.zip ws /\
   Vals (ns'.map kOf) vs/\Vals (ms'.map kOf) ws/\CV ns' ms'=true/\ns'.length+items2.size=ms'.length+items.size/\R (.ok (.ret (.bool (ER ns' ms')))) ⟨hp,g,d,tk,os⟩) _
  case turn =>
   rintro ⟨y,x⟩ rest b s' ⟨hb',rfl,vs,ws,ns',ms',hz,hvi,hwi,hsm,hlen,hR⟩
   cases ns' with
   | nil=>cases hvi; rw [List.zip_nil_left] at hz; cases hz
   | cons a ns' =>
    cases ms' with
    | nil=>cases hwi; rw [List.zip_nil_right] at hz; cases hz
    | cons c ms' =>
     rw [List.map_cons] at hvi hwi
     cases hvi with
     | cons ra hvi' =>
      cases hwi with
      | cons rc hwi' =>
       rw [List.zip_cons_cons] at hz
       injection hz with hyx hrest
       injection hyx with hy hx
       subst hy hx
       have hR':R (.ok (.ret (.bool (if a=c then ER ns' ms' else Xf a c)))) ⟨hp,g,d,tk,os⟩:=hR
       have hsm':(KU a c&&CV ns' ms')=true:=hsm
       rw [Bool.and_eq_true] at hsm'
       simp only [List.length_cons] at hlen
       obtain⟨e,he,hiff⟩:=Sb (A:=A.in1) (s:=⟨hp,g,d,tk,os⟩) ra rc
       refine wpAny_bind (he prog w _ _ ?_)
       cases e with
       | true =>
        rw [if_pos (hiff.mp rfl)] at hR'
        wp_walk
        exact⟨rfl,rfl,_,_,_,_,hrest,hvi',hwi',hsm'.2,by omega,hR'⟩
       | false =>
        rw [if_neg (λq=>absurd (hiff.mpr q) Bool.false_ne_true)] at hR'
        have hri:=RY A.in1 ⟨hp,g,d,tk,os⟩ ra rc hsm'.1 prog w
        wp_walk using hri
        exact⟨_,rfl,by simpa using hR'⟩
  case fin =>
   rintro ⟨b1,b2⟩ s' ⟨hb',rfl,vs,ws,ns',ms',hz,hvi,hwi,hsm,hlen,hR⟩
   simp only at hb'
   subst hb'
   have hv:ER ns' ms'=decide (items.size<items2.size):=by
    cases ns' with
    | nil =>
     cases ms' with
     | nil =>
      simp only [List.length_nil] at hlen
      exact(decide_eq_false (by omega)).symm
     | cons c u =>
      simp only [List.length_nil,List.length_cons] at hlen
      exact(decide_eq_true (by omega)).symm
    | cons a t =>
     cases ms' with
     | nil =>
      simp only [List.length_nil,List.length_cons] at hlen
      exact(decide_eq_false (by omega)).symm
     | cons c u =>
      rw [List.map_cons] at hvi hwi
      cases hvi
      cases hwi
      rw [List.zip_cons_cons] at hz
      cases hz
   rw [hv] at hR
   wp_walk
   exact⟨_,rfl,by simpa [Builtin.Tuple.tupleCompareSizes] using hR⟩
  case h =>
   exact⟨rfl,rfl,items.toList,items2.toList,ns,ms,rfl,hi,hj,hsame,by omega,h⟩
end
section
variable {X:Cx}
def Wg(K:Frag):R2:=λx y H Q=>∃a b ns ms,x=.ref a/\y=.ref b/\SqT K H a (ns.map kOf)/\SqT K H b (ms.map kOf)/\CV ns ms=true/\Q (.bl (ER ns ms)) H
theorem VN(hu:X.A.units<cLine):OpR X (compareOp .Lt) (Wg X.K):=by
 intro pins s σ H x y v u Q I rx ry h
 obtain⟨a,b,ns,ms,rfl,rfl,ha,hb,hsm,q⟩:=h
 cases rx
 cases ry
 obtain⟨its,r1,p1,_⟩:=I.tuple ha
 obtain⟨its2,r2,p2,_⟩:=I.tuple hb
 obtain⟨⟨cls,dd,data,sl⟩,ho,hc,n,hd⟩:=id p1
 obtain⟨⟨cls2,dd2,data2,sl2⟩,ho2,hc2,n2,hd2⟩:=id p2
 simp only at hc hd hc2 hd2
 subst hc hd hc2 hd2
 exact richCompare_meets_room (op:=.Lt) ⟨_,ho,rfl⟩ ⟨_,ho2,rfl⟩ PySem.F.slot_tuple_lt PySem.F.entry_tuple_lt (PySem.F.args_tuple_lt_2 _ _) (FU a b its.toArray its2.toArray n n2 dd dd2 sl sl2 ns ms r1 r2 hsm)
  ⟨ho,ho2,show Value.bool (ER ns ms)≠Value.notImplemented/\EP X pins σ Q (.bool (ER ns ms)) s from⟨(λx=>nomatch x),⟨.bl _,H,I,rfl,q⟩⟩⟩ hu
end
def ItAt(κ:Bool)(h:Heap)(it l:Addr)(k:Nat):Prop:=match κ with
 | true=>h.IsListIter it l k
 | false=>h.IsTupleIter it l k
def SqAt(κ:Bool)(h:Heap)(l:Addr)(items:Array Value):Prop:=match κ with
 | true=>h.IsList l items
 | false=>h.IsTuple l items
section
variable {κ:Bool}{h h':Heap}{it l b:Addr}{k:Nat}{items:Array Value}
theorem ItAt.mv(x:ItAt κ h it l k)(e:∀o,h.get? it=some o->h'.get? it=some o):ItAt κ h' it l k:=by
 cases κ with
 | true=>obtain⟨o,ho,r⟩:=x; exact⟨o,e o ho,r⟩
 | false=>obtain⟨o,ho,r⟩:=x; exact⟨o,e o ho,r⟩
theorem SqAt.mv(x:SqAt κ h l items)(e:∀o,h.get? l=some o->h'.get? l=some o):SqAt κ h' l items:=by
 cases κ with
 | true=>obtain⟨o,ho,r⟩:=x; exact⟨o,e o ho,r⟩
 | false=>obtain⟨o,ho,r⟩:=x; exact⟨o,e o ho,r⟩
theorem ItAt.eb(x:ItAt κ h it l k)(hs:Heap.ExtBut b h h')(n:it≠b):ItAt κ h' it l k:=x.mv λo e=>hs it o n e
theorem SqAt.eb(x:SqAt κ h l items)(hs:Heap.ExtBut b h h')(n:l≠b):SqAt κ h' l items:=x.mv λo e=>hs l o n e
theorem ItAt.lies(x:ItAt κ h it l k):∃o,h.get? it=some o/\∀v,o.data≠.cell v:=by
 cases κ with
 | true=>obtain⟨o,ho,_,d⟩:=x; exact⟨o,ho,λv z=>by rw [d] at z; cases z⟩
 | false=>obtain⟨o,ho,_,d⟩:=x; exact⟨o,ho,λv z=>by rw [d] at z; cases z⟩
theorem SqAt.lies(x:SqAt κ h l items):∃o,h.get? l=some o:=by
 cases κ with
 | true=>obtain⟨o,ho,_⟩:=x; exact⟨o,ho⟩
 | false=>obtain⟨o,ho,_⟩:=x; exact⟨o,ho⟩
end
section
variable {prog:Program}{w:World}{A:Around}{E:Value->Shared->Prop}{s:Shared}
theorem FJ{κ:Bool}{it l:Addr}{i:Nat}{items:Array Value}{x:Value}{Q:Value->Shared->Prop}(hit:ItAt κ s.heap it l i)(hl:SqAt κ s.heap l items)(hx:items[i]?=some x)
  (hQ:∀h',ItAt κ h' it l (i+1)->Heap.SameBut it s.heap h'->Q x { s with heap:=h' }):wpAny (model prog w) A (Builtin.SmallTypes.nextOf (.ref it)) Q E s:=by
 cases κ with
 | true=>exact wpAny_nextOf_list_item hit hl hx hQ
 | false =>
  have hit':s.heap.IsTupleIter it l i:=hit
  have hl':s.heap.IsTuple l items:=hl
  obtain⟨o,ho,hc,hd⟩:=id hit'; obtain⟨ol,hol,_,nl,hdl⟩:=hl'
  unfold Builtin.SmallTypes.nextOf
  refine wpAny_bind (wpAny_callSpecial?_slot (name:=Str.ofString "__next__") hit'.typeIs F.slot_tuple_iterator_next (wpAny_call_entry F.slot_tuple_iterator_next hit'.typeIs F.entry_tuple_iterator_next ?_ (F.args_tuple_iterator_next_1 _)))
  show wpAny (model prog w) _ (field (.ref it) 0 >>= _) _ _ s; refine wpAny_bind (wpAny_field ho hd (x:=.ref l) rfl ?_)
  show wpAny (model prog w) _ (if (Value.ref l==Value.none)=true then _ else _) _ _ s; rw [if_neg (show ¬((Value.ref l==Value.none)=true) from Bool.false_ne_true)]
  show wpAny (model prog w) _ (field (.ref it) 1 >>= _) _ _ s; refine wpAny_bind (wpAny_field ho hd (x:=.int i 0) rfl ?_)
  show wpAny (model prog w) _ (seqItems? (.ref l) >>= _) _ _ s; refine wpAny_bind (wpAny_seqItems hol hdl ?_); simp only [Int.toNat_natCast,hx]
  refine wpAny_bind (wpAny_setField ho hd (by simp) (wpAny_pure ⟨x,rfl,wpAny_pure (hQ _ (show Heap.IsTupleIter _ it l (i+1) from ?_) (Heap.SameBut.update ..))⟩))
  exact⟨_,Heap.get?_update_self _ ho (Obj.isFreed_of_fields (Obj.data_mapFields hd _)),(Obj.cls_mapFields ..).trans hc,by(rw [Obj.data_mapFields hd]; simp [rawInt])⟩
theorem GP{κ:Bool}{it l:Addr}{i:Nat}{items:Array Value}{Q:Value->Shared->Prop}(hh:A.handled=none)(hit:ItAt κ s.heap it l i)(hl:SqAt κ s.heap l items)(hx:items[i]?=none)
  (hE:∀h' e,Heap.ExtBut it s.heap h'->(∃o,h'.get? e=some o/\o.cls=.type "StopIteration")->E (.ref e) { s with heap:=h' }):wpAny (model prog w) A (Builtin.SmallTypes.nextOf (.ref it)) Q E s:=by
 cases κ with
 | true=>exact wpAny_nextOf_list_end hh hit hl hx hE
 | false =>
  have hit':s.heap.IsTupleIter it l i:=hit
  have hl':s.heap.IsTuple l items:=hl
  obtain⟨o,ho,hc,hd⟩:=id hit'; obtain⟨ol,hol,_,nl,hdl⟩:=hl'
  unfold Builtin.SmallTypes.nextOf
  refine wpAny_bind (wpAny_callSpecial?_slot (name:=Str.ofString "__next__") hit'.typeIs F.slot_tuple_iterator_next (wpAny_call_entry F.slot_tuple_iterator_next hit'.typeIs F.entry_tuple_iterator_next ?_ (F.args_tuple_iterator_next_1 _)))
  show wpAny (model prog w) _ (field (.ref it) 0 >>= _) _ _ s; refine wpAny_bind (wpAny_field ho hd (x:=.ref l) rfl ?_)
  show wpAny (model prog w) _ (if (Value.ref l==Value.none)=true then _ else _) _ _ s; rw [if_neg (show ¬((Value.ref l==Value.none)=true) from Bool.false_ne_true)]
  show wpAny (model prog w) _ (field (.ref it) 1 >>= _) _ _ s; refine wpAny_bind (wpAny_field ho hd (x:=.int i 0) rfl ?_)
  show wpAny (model prog w) _ (seqItems? (.ref l) >>= _) _ _ s; refine wpAny_bind (wpAny_seqItems hol hdl ?_); simp only [Int.toNat_natCast,hx]
  refine wpAny_bind (wpAny_rule (wpAny_bind (wpAny_setField ho hd (by simp) ?_))); show wpAny (model prog w) _ (newExc (.type "StopIteration") [] >>= _) _ _ _
  refine wpAny_bind ?_; simp only [newExc,newTuple]; refine wpAny_bind (wpAny_newObj_type ?_ (by size_fits))
  refine wpAny_bind (m:=firstArgMember _ _) (wpAny_of_eq (a:=Value.none) (by first | rfl | (simp only [firstArgMember]; rfl)) ?_); refine wpAny_newObj_type ?_ (by size_fits)
  simp only [raiseNew]; refine wpAny_bind (wpAny_handled ?_); first | rw [show A.in1.handled=none from hh] | rw [hh]
  refine wpAny_bind (wpAny_pure (wpAny_throw ?_)); exact hE _ _ (((Heap.SameBut.update ..).extBut.push _).push _) ⟨_,Heap.get?_push_size _ rfl,rfl⟩
structure WG (z TI TO i1 i2 l1 l2:Addr):Prop where
 TIz:TI≠z
 TOz:TO≠z
 i1z:i1≠z
 i2z:i2≠z
 TOi1:TO≠i1
 TOi2:TO≠i2
 i12:i1≠i2
 l1z:l1≠z
 l1TO:l1≠TO
 l1i1:l1≠i1
 l1i2:l1≠i2
 l2z:l2≠z
 l2TO:l2≠TO
 l2i1:l2≠i1
 l2i2:l2≠i2
theorem RB{κ1 κ2:Bool}{z TI TO i1 i2 l1 l2:Addr}{k:Nat}{xs ys:Array Value}{x y a b:Value}{Q:Value->Shared->Prop}(D:WG z TI TO i1 i2 l1 l2)
  (hz:IsZip s.heap z TI TO .none) (hTI:IsPair s.heap TI (.ref i1) (.ref i2)) (hTO:IsPair s.heap TO a b) (h1:ItAt κ1 s.heap i1 l1 k) (h2:ItAt κ2 s.heap i2 l2 k) (hl1:SqAt κ1 s.heap l1 xs) (hl2:SqAt κ2 s.heap l2 ys) (hx:xs[k]?=some x) (hy:ys[k]?=some y)
  (hQ:∀h',IsZip h' z TI TO (rawInt s.heap.objs.size)->IsPair h' TO x y->ItAt κ1 h' i1 l1 (k+1)->ItAt κ2 h' i2 l2 (k+1)->IsPair h' s.heap.objs.size x y->h'.objs.size=s.heap.objs.size+1->(∀c o,c≠z->c≠TO->c≠i1->c≠i2->s.heap.get? c=some o->h'.get? c=some o)->Q (.ref s.heap.objs.size) { s with heap:=h' }) :
  wpAny (model prog w) A (Builtin.«zip.__next__» ⟨[.ref z],[]⟩) (λfin s'=>∃v,fin=.done (.ret v)/\Q v s') E s:=by
 show wpAny (model prog w) A (field (.ref z) 2 >>= _) _ _ _; refine wpAny_bind (wpAny_field hz rfl (x:=.bool false) rfl ?_)
 show wpAny (model prog w) A (field (.ref z) 3 >>= _) _ _ _; refine wpAny_bind (wpAny_field hz rfl (x:=.ref TI) rfl ?_); refine wpAny_bind (wpAny_seqItems hTI rfl ?_)
 show wpAny (model prog w) A (Builtin.SmallTypes.ownedTupleIsFree (.ref z) >>= _) _ _ _; refine wpAny_bind ?_; unfold Builtin.SmallTypes.ownedTupleIsFree
 refine wpAny_bind (wpAny_field hz rfl (x:=.none) rfl (wpAny_pure ?_)); simp only [if_true]; refine wpAny_bind (wpAny_rule ?_); refine wpAny_bind (wpAny_field hz rfl (x:=.ref TO) rfl ?_)
 refine wpAny_bind (wpAny_setField_rec hz (by simp) λha hza hsa=>?_)
 replace hza:IsZip ha z TI TO .ellipsis:=hza
 refine wpAny_bind ?_; simp only [List.zipIdx_cons,List.zipIdx_nil,List.forIn_cons,List.forIn_nil]
 refine wpAny_bind (wpAny_bind (wpAny_onRaise ?_)); show wpAny (model prog w) _ (Builtin.SmallTypes.nextOf (.ref i1) >>= _) _ _ _
 refine wpAny_bind (FJ (h1.eb hsa.extBut D.i1z) (hl1.eb hsa.extBut D.l1z) hx λhb h1b hsb=>wpAny_pure ?_)
 have hTOb:IsPair hb TO a b:=hsb.extBut _ _ D.TOi1 (hsa.extBut _ _ D.TOz hTO)
 refine wpAny_bind (wpAny_seqItems hTOb rfl ?_); refine wpAny_bind (wpAny_updateSeq_pair hTOb λhc hTOc hsc=>?_)
 replace hTOc:IsPair hc TO x b:=hTOc
 refine wpAny_bind (wpAny_letGo (wpAny_pure ?_)); refine wpAny_bind (wpAny_bind (wpAny_onRaise ?_)); show wpAny (model prog w) _ (Builtin.SmallTypes.nextOf (.ref i2) >>= _) _ _ _
 refine wpAny_bind (FJ (((h2.eb hsa.extBut D.i2z).eb hsb.extBut D.i12.symm).eb hsc.extBut D.TOi2.symm) (((hl2.eb hsa.extBut D.l2z).eb hsb.extBut D.l2i1).eb hsc.extBut D.l2TO) hy λhd h2d hsd=>wpAny_pure ?_)
 have hTOd:IsPair hd TO x b:=hsd.extBut _ _ D.TOi2 hTOc
 refine wpAny_bind (wpAny_seqItems hTOd rfl ?_); refine wpAny_bind (wpAny_updateSeq_pair hTOd λhe hTOe hse=>?_)
 replace hTOe:IsPair he TO x y:=hTOe
 refine wpAny_bind (wpAny_letGo (wpAny_pure (wpAny_pure ?_))); refine wpAny_bind (wpAny_seqItems hTOe rfl ?_); refine wpAny_bind (wpAny_newTuple ?_)
 have hsz:he.objs.size=s.heap.objs.size:=by rw [hse.1,hsd.1,hsc.1,hsb.1,hsa.1]
 have hze:IsZip he z TI TO .ellipsis:=hse.extBut _ _ D.TOz.symm (hsd.extBut _ _ D.i2z.symm (hsc.extBut _ _ D.TOz.symm (hsb.extBut _ _ D.i1z.symm hza)))
 have hke:∀c o,c≠z->c≠TO->c≠i1->c≠i2->s.heap.get? c=some o->he.get? c=some o:=λc o c1 c2 c3 c4 e=>hse.extBut _ _ c2 (hsd.extBut _ _ c4 (hsc.extBut _ _ c2 (hsb.extBut _ _ c3 (hsa.extBut _ _ c1 e))))
 have h1e:ItAt κ1 he i1 l1 (k+1):=((h1b.eb hsc.extBut D.TOi1.symm).eb hsd.extBut D.i12).eb hse.extBut D.TOi1.symm
 have h2e:ItAt κ2 he i2 l2 (k+1):=h2d.eb hse.extBut D.TOi2.symm
 have hzlt:z<he.objs.size:=Heap.lt_size hze
 show wpAny (model prog w) _ (Builtin.SmallTypes.ownedTupleHandOut (.ref z) (.ref he.objs.size) >>= _) _ _ _; refine wpAny_bind ?_; unfold Builtin.SmallTypes.ownedTupleHandOut
 have hzf:IsZip (he.push { cls:=.type "tuple",data:=.seq #[x,y] }) z TI TO .ellipsis:=Heap.get?_push_of_some _ hze
 refine wpAny_bind (wpAny_setField_rec hzf (by simp) λhg hzg hsg=>?_)
 replace hzg:IsZip hg z TI TO (rawInt he.objs.size):=hzg
 refine wpAny_setField_rec hzg (by simp) λhi hzi hsi=>?_
 replace hzi:IsZip hi z TI TO (rawInt he.objs.size):=hzi
 have up:∀c o,c≠z->he.get? c=some o->hi.get? c=some o:=λc o c1 e=>hsi.extBut _ _ c1 (hsg.extBut _ _ c1 (Heap.get?_push_of_some _ e))
 have hTi:IsPair hi he.objs.size x y:=hsi.extBut _ _ (Nat.ne_of_gt hzlt) (hsg.extBut _ _ (Nat.ne_of_gt hzlt) (Heap.get?_push_size _ rfl))
 have hzs:hi.objs.size=he.objs.size+1:=by rw [hsi.1,hsg.1,Heap.size_push]
 rw [hsz] at hzi hTi hzs
 refine wpAny_pure ⟨_,rfl,?_⟩
 show Q (.ref he.objs.size) _; rw [hsz]
 exact hQ hi hzi (up _ _ D.TOz hTOe) (h1e.mv λo e=>up _ o D.i1z e) (h2e.mv λo e=>up _ o D.i2z e) hTi hzs λc o c1 c2 c3 c4 e=>up c o c1 (hke c o c1 c2 c3 c4 e)
theorem S9{κ1 κ2:Bool}{z TI TO i1 i2 l1 l2:Addr}{k:Nat}{xs ys:Array Value}{a b:Value}{Q:Fin->Shared->Prop}(hh:A.handled=none)(D:WG z TI TO i1 i2 l1 l2)
  (hz:IsZip s.heap z TI TO .none) (hTI:IsPair s.heap TI (.ref i1) (.ref i2)) (hTO:IsPair s.heap TO a b) (h1:ItAt κ1 s.heap i1 l1 k) (h2:ItAt κ2 s.heap i2 l2 k) (hl1:SqAt κ1 s.heap l1 xs) (hl2:SqAt κ2 s.heap l2 ys) (hend:xs[k]?=none\/ys[k]?=none)
  (hE:∀h' e,(∀c o,c≠z->c≠TO->c≠i1->c≠i2->s.heap.get? c=some o->h'.get? c=some o)->(∃o,h'.get? e=some o/\o.cls=.type "StopIteration")->E (.ref e) { s with heap:=h' }) :
  wpAny (model prog w) A (Builtin.«zip.__next__» ⟨[.ref z],[]⟩) Q E s:=by
 show wpAny (model prog w) A (field (.ref z) 2 >>= _) _ _ _; refine wpAny_bind (wpAny_field hz rfl (x:=.bool false) rfl ?_)
 show wpAny (model prog w) A (field (.ref z) 3 >>= _) _ _ _; refine wpAny_bind (wpAny_field hz rfl (x:=.ref TI) rfl ?_); refine wpAny_bind (wpAny_seqItems hTI rfl ?_)
 show wpAny (model prog w) A (Builtin.SmallTypes.ownedTupleIsFree (.ref z) >>= _) _ _ _; refine wpAny_bind ?_; unfold Builtin.SmallTypes.ownedTupleIsFree
 refine wpAny_bind (wpAny_field hz rfl (x:=.none) rfl (wpAny_pure ?_)); simp only [if_true]; refine wpAny_bind (wpAny_rule ?_); refine wpAny_bind (wpAny_field hz rfl (x:=.ref TO) rfl ?_)
 refine wpAny_bind (wpAny_setField_rec hz (by simp) λha hza hsa=>?_)
 replace hza:IsZip ha z TI TO .ellipsis:=hza
 refine wpAny_bind ?_; simp only [List.zipIdx_cons,List.zipIdx_nil,List.forIn_cons,List.forIn_nil]
 refine wpAny_bind (wpAny_bind (wpAny_onRaise ?_)); show wpAny (model prog w) _ (Builtin.SmallTypes.nextOf (.ref i1) >>= _) _ _ _
 cases hx:xs[k]? with
 | none =>
  refine wpAny_bind (GP hh (h1.eb hsa.extBut D.i1z) (hl1.eb hsa.extBut D.l1z) hx λhb e hsb he=>?_)
  obtain⟨oe,hoe,hce⟩:=he
  have hzb:IsZip hb z TI TO .ellipsis:=hsb _ _ D.i1z.symm hza
  have hez:e≠z:=λx=>by subst x; rw [hzb] at hoe; cases hoe; simp at hce
  exact wpAny_setField_rec hzb (by simp) λhc _ hsc=>hE hc e (λc o c1 _ c3 _ x=>hsc.extBut _ _ c1 (hsb _ _ c3 (hsa.extBut _ _ c1 x))) ⟨oe,hsc.extBut _ _ hez hoe,hce⟩
 | some x =>
  have hy:ys[k]?=none:=by
   rcases hend with h | h
   ·rw [hx] at h; cases h
   ·exact h
  refine wpAny_bind (FJ (h1.eb hsa.extBut D.i1z) (hl1.eb hsa.extBut D.l1z) hx λhb h1b hsb=>wpAny_pure ?_)
  have hTOb:IsPair hb TO a b:=hsb.extBut _ _ D.TOi1 (hsa.extBut _ _ D.TOz hTO)
  refine wpAny_bind (wpAny_seqItems hTOb rfl ?_); refine wpAny_bind (wpAny_updateSeq_pair hTOb λhc hTOc hsc=>?_)
  refine wpAny_bind (wpAny_letGo (wpAny_pure ?_)); refine wpAny_bind (wpAny_bind (wpAny_onRaise ?_)); show wpAny (model prog w) _ (Builtin.SmallTypes.nextOf (.ref i2) >>= _) _ _ _
  refine wpAny_bind (GP hh (((h2.eb hsa.extBut D.i2z).eb hsb.extBut D.i12.symm).eb hsc.extBut D.TOi2.symm) (((hl2.eb hsa.extBut D.l2z).eb hsb.extBut D.l2i1).eb hsc.extBut D.l2TO) hy λhd e hsd he=>?_)
  obtain⟨oe,hoe,hce⟩:=he
  have hzd:IsZip hd z TI TO .ellipsis:=hsd _ _ D.i2z.symm (hsc.extBut _ _ D.TOz.symm (hsb.extBut _ _ D.i1z.symm hza))
  have hez:e≠z:=λx=>by subst x; rw [hzd] at hoe; cases hoe; simp at hce
  exact wpAny_setField_rec hzd (by simp) λhf _ hsf=>hE hf e (λc o c1 c2 c3 c4 x=>hsf.extBut _ _ c1 (hsd _ _ c4 (hsc.extBut _ _ c2 (hsb.extBut _ _ c3 (hsa.extBut _ _ c1 x))))) ⟨oe,hsf.extBut _ _ hez hoe,hce⟩
end
def Ve(κ:Bool):String:=match κ with
 | true => "list_iterator"
 | false => "tuple_iterator"
def HU(κ:Bool)(l:Addr):Obj:={ cls:=.type (Ve κ),data:=.fields #[.ref l,.int 0 0] }
abbrev zA(κ1:Bool)(h:Heap)(l1:Addr):Heap:=h.push (HU κ1 l1)
abbrev zB(κ1 κ2:Bool)(h:Heap)(l1 l2:Addr):Heap:=(zA κ1 h l1).push (HU κ2 l2)
abbrev zC(κ1 κ2:Bool)(h:Heap)(l1 l2:Addr):Heap:=(zB κ1 κ2 h l1 l2).push { cls:=.type "tuple",data:=.seq #[.ref h.objs.size,.ref (zA κ1 h l1).objs.size] }
abbrev zD(κ1 κ2:Bool)(h:Heap)(l1 l2:Addr):Heap:=(zC κ1 κ2 h l1 l2).push { cls:=.type "tuple",data:=.seq #[.none,.none] }
abbrev zE(κ1 κ2:Bool)(h:Heap)(l1 l2:Addr):Heap:=(zD κ1 κ2 h l1 l2).push { cls:=.type "zip",data:=.fields #[.none,.bool false,.bool false,.ref (zB κ1 κ2 h l1 l2).objs.size,.ref (zC κ1 κ2 h l1 l2).objs.size] }
theorem Tg(κ1 κ2:Bool)(l1 l2:Addr)(xs ys:Array Value):Meets (Builtin.«zip.__new__» ⟨[.type "zip",.ref l1,.ref l2],[]⟩)
  (λ_ R s=>SqAt κ1 s.heap l1 xs/\SqAt κ2 s.heap l2 ys/\R (.ok (.ret (.ref (zD κ1 κ2 s.heap l1 l2).objs.size))) { s with heap:=zE κ1 κ2 s.heap l1 l2 }) :=
 .of_wp λprog w A R s h=>by
  obtain⟨hp,g,d,tk,os⟩:=s; obtain⟨hl1,hl2,h⟩:=h
  have hsub:=sub_zip
  have hL2:SqAt κ2 (zA κ1 hp l1) l2 ys:=hl2.mv λo e=>Heap.get?_push_of_some _ e
  cases κ1 with
  | true =>
   have g1:Heap.IsList (Shared.heap ⟨hp,g,d,tk,os⟩) l1 xs:=hl1
   cases κ2 with
   | true =>
    have g2:Heap.IsList (Shared.heap ⟨hp.push { cls:=.type "list_iterator",data:=.fields #[.ref l1,.int 0 0] },g,d,tk,os⟩) l2 ys:=hL2
    wp_walk using wpAny_pyIter_list g1,wpAny_pyIter_list g2
    exact⟨_,rfl,h⟩
   | false =>
    have g2:Heap.IsTuple (Shared.heap ⟨hp.push { cls:=.type "list_iterator",data:=.fields #[.ref l1,.int 0 0] },g,d,tk,os⟩) l2 ys:=hL2
    wp_walk using wpAny_pyIter_list g1,wpAny_pyIter_tuple g2
    exact⟨_,rfl,h⟩
  | false =>
   have g1:Heap.IsTuple (Shared.heap ⟨hp,g,d,tk,os⟩) l1 xs:=hl1
   cases κ2 with
   | true =>
    have g2:Heap.IsList (Shared.heap ⟨hp.push { cls:=.type "tuple_iterator",data:=.fields #[.ref l1,.int 0 0] },g,d,tk,os⟩) l2 ys:=hL2
    wp_walk using wpAny_pyIter_tuple g1,wpAny_pyIter_list g2
    exact⟨_,rfl,h⟩
   | false =>
    have g2:Heap.IsTuple (Shared.heap ⟨hp.push { cls:=.type "tuple_iterator",data:=.fields #[.ref l1,.int 0 0] },g,d,tk,os⟩) l2 ys:=hL2
    wp_walk using wpAny_pyIter_tuple g1,wpAny_pyIter_tuple g2
    exact⟨_,rfl,h⟩
theorem JE(κ:Bool)(h:Heap)(l:Addr):ItAt κ (h.push (HU κ l)) h.objs.size l 0:=by
 cases κ with
 | true=>exact⟨_,Heap.get?_push_size _ rfl,rfl,rfl⟩
 | false=>exact⟨_,Heap.get?_push_size _ rfl,rfl,rfl⟩
section
variable {prog:Program}{w:World}{A:Around}{E:Value->Shared->Prop}{s:Shared}
theorem L6{κ1 κ2:Bool}{l1 l2:Addr}{xs ys:Array Value}{Q:Value->Shared->Prop}(hl1:SqAt κ1 s.heap l1 xs)(hl2:SqAt κ2 s.heap l2 ys)
  (h:∀h',IsZip h' (s.heap.objs.size+4) (s.heap.objs.size+2) (s.heap.objs.size+3) .none->IsPair h' (s.heap.objs.size+2) (.ref s.heap.objs.size) (.ref (s.heap.objs.size+1))->IsPair h' (s.heap.objs.size+3) .none .none ->
   ItAt κ1 h' s.heap.objs.size l1 0->ItAt κ2 h' (s.heap.objs.size+1) l2 0->(∀c o,s.heap.get? c=some o->h'.get? c=some o)->Q (.ref (s.heap.objs.size+4)) { s with heap:=h' }) :
  wpAny (model prog w) A (call (.type "zip") [.ref l1,.ref l2]) Q E s:=by
 refine callType_new F.called_zip (by decide) (F.typeCall_zip_2 _ _) (F.newCall_zip_2 _ _) (λobj=>F.args_object_init_3 obj _ _) F.entry_zip_new (Tg κ1 κ2 l1 l2 xs ys) ⟨hl1,hl2,?_⟩
 have z1:(zA κ1 s.heap l1).objs.size=s.heap.objs.size+1:=Heap.size_push ..
 have z2:(zB κ1 κ2 s.heap l1 l2).objs.size=s.heap.objs.size+2:=by rw [Heap.size_push,z1]
 have z3:(zC κ1 κ2 s.heap l1 l2).objs.size=s.heap.objs.size+3:=by rw [Heap.size_push,z2]
 have z4:(zD κ1 κ2 s.heap l1 l2).objs.size=s.heap.objs.size+4:=by rw [Heap.size_push,z3]
 have g5:(zE κ1 κ2 s.heap l1 l2).get? (zD κ1 κ2 s.heap l1 l2).objs.size=some _:=Heap.get?_push_size _ rfl
 have g4:(zE κ1 κ2 s.heap l1 l2).get? (zC κ1 κ2 s.heap l1 l2).objs.size=some _:=Heap.get?_push_of_some _ (Heap.get?_push_size _ rfl)
 have g3:(zE κ1 κ2 s.heap l1 l2).get? (zB κ1 κ2 s.heap l1 l2).objs.size=some _:=Heap.get?_push_of_some _ (Heap.get?_push_of_some _ (Heap.get?_push_size _ rfl))
 have i2:ItAt κ2 (zE κ1 κ2 s.heap l1 l2) (zA κ1 s.heap l1).objs.size l2 0:=(JE κ2 (zA κ1 s.heap l1) l2).mv λo e=>Heap.get?_push_of_some _ (Heap.get?_push_of_some _ (Heap.get?_push_of_some _ e))
 have i1:ItAt κ1 (zE κ1 κ2 s.heap l1 l2) s.heap.objs.size l1 0:=(JE κ1 s.heap l1).mv λo e=>Heap.get?_push_of_some _ (Heap.get?_push_of_some _ (Heap.get?_push_of_some _ (Heap.get?_push_of_some _ e)))
 rw [z4] at g5
 rw [z3] at g4
 rw [z2] at g3
 rw [z1] at i2
 have fin:=h (zE κ1 κ2 s.heap l1 l2) (by rw [IsZip,g5,z2,z3]) (by rw [IsPair,g3,z1]) g4 i1 i2 (λc o e=>Heap.get?_push_of_some _ (Heap.get?_push_of_some _ (Heap.get?_push_of_some _ (Heap.get?_push_of_some _ (Heap.get?_push_of_some _ e)))))
 refine⟨⟨_,by rw [z4]; exact g5,rfl⟩,?_⟩
 rw [z4]
 exact fin
theorem J7{κ1 κ2:Bool}{z TI TO i1 i2 l1 l2:Addr}{k:Nat}{xs ys:Array Value}{x y a b:Value}{Q:Option Value->Shared->Prop}(D:WG z TI TO i1 i2 l1 l2)
  (hz:IsZip s.heap z TI TO .none) (hTI:IsPair s.heap TI (.ref i1) (.ref i2)) (hTO:IsPair s.heap TO a b) (h1:ItAt κ1 s.heap i1 l1 k) (h2:ItAt κ2 s.heap i2 l2 k) (hl1:SqAt κ1 s.heap l1 xs) (hl2:SqAt κ2 s.heap l2 ys) (hx:xs[k]?=some x) (hy:ys[k]?=some y)
  (hQ:∀h',IsZip h' z TI TO (rawInt s.heap.objs.size)->IsPair h' TO x y->ItAt κ1 h' i1 l1 (k+1)->ItAt κ2 h' i2 l2 (k+1)->IsPair h' s.heap.objs.size x y->h'.objs.size=s.heap.objs.size+1->(∀c o,c≠z->c≠TO->c≠i1->c≠i2->s.heap.get? c=some o->h'.get? c=some o)->Q (some (.ref s.heap.objs.size)) { s with heap:=h' }) :
  wpAny (model prog w) A (pyNext (.ref z)) Q E s:=by
 have hT:s.TypeIs (.ref z) "zip":=⟨_,hz,rfl⟩
 unfold pyNext
 exact wpAny_bind (wpAny_attempt (wpAny_callSpecial?_slot (name:=Str.ofString "__next__") hT F.slot_zip_next (wpAny_call_entry F.slot_zip_next hT F.entry_zip_next
  (RB D hz hTI hTO h1 h2 hl1 hl2 hx hy λh' a1 a2 a3 a4 a5 a6 a7=>wpAny_pure (hQ h' a1 a2 a3 a4 a5 a6 a7)) (F.args_zip_next_1 _))))
theorem Lk{κ1 κ2:Bool}{z TI TO i1 i2 l1 l2:Addr}{k:Nat}{xs ys:Array Value}{a b:Value}{Q:Option Value->Shared->Prop}(hh:A.handled=none)(D:WG z TI TO i1 i2 l1 l2)
  (hz:IsZip s.heap z TI TO .none) (hTI:IsPair s.heap TI (.ref i1) (.ref i2)) (hTO:IsPair s.heap TO a b) (h1:ItAt κ1 s.heap i1 l1 k) (h2:ItAt κ2 s.heap i2 l2 k) (hl1:SqAt κ1 s.heap l1 xs) (hl2:SqAt κ2 s.heap l2 ys) (hend:xs[k]?=none\/ys[k]?=none)
  (hQ:∀h',(∀c o,c≠z->c≠TO->c≠i1->c≠i2->s.heap.get? c=some o->h'.get? c=some o)->Q none { s with heap:=h' }):wpAny (model prog w) A (pyNext (.ref z)) Q E s:=by
 have hT:s.TypeIs (.ref z) "zip":=⟨_,hz,rfl⟩
 unfold pyNext
 refine wpAny_bind (wpAny_attempt (wpAny_callSpecial?_slot (name:=Str.ofString "__next__") hT F.slot_zip_next (wpAny_call_entry F.slot_zip_next hT F.entry_zip_next (S9 hh D hz hTI hTO h1 h2 hl1 hl2 hend λh' e hk he=>?_) (F.args_zip_next_1 _))))
 obtain⟨o,ho,hc⟩:=he
 exact wpAny_bind (wpAny_isInstance (T := "StopIteration") (b:=true) ⟨o,ho,hc⟩ isSubtype_stop (wpAny_pure (hQ _ hk)))
end
section
variable {X:Cx}{pins:List (Addr×Obj)}{σ:L2.St}{H:Hp}{s:Shared}{h':Heap}
theorem Inv.turnedL{t':Nat}{ch:List Addr}(I:Inv X pins σ H s)(hf:∀b∈ch,Gm X pins H b)(k:∀b o,b∉ch->s.heap.get? b=some o->h'.get? b=some o):Inv X pins σ H { s with heap:=h',toks:=t' }:=by
 have nit:∀b u,H b=some u->b∉ch:=λb u e z=>by rw [(hf b z).1] at e; cases e
 refine I.step (g':=s.gens) (d':=s.drawn) (ch:=ch) (λb hb=>?_) (λb o _ _ hc e _=>k b o hc e) (λb o _ _ hc e _=>⟨o.slots,k b o hc e⟩) (λ_ _ _ _ n=>n) (λb o hc e=>⟨o,k b o hc e⟩) (λ_ _ e=>e) (λ_ _ _ e=>e) (λb ps e=>⟨#[],by rw [e]; simp⟩) (λm hm=>?_) (λb u e=>?_) I.bare
 ·obtain⟨f0,f1,f2,f3,f4,f5⟩:=hf b hb
  exact⟨f3,f1,f4,f5⟩
 ·obtain⟨o,es,ep,ho,r⟩:=hm
  exact⟨o,es,ep,k _ o (λz=>(hf _ z).2.1 rfl) ho,r⟩
 ·exact(I.hok b u e).stay (λc v hc q=>k c v (hc.elim (λz=>by rw [z]; exact nit b u e) λz=>nit c _ z) q) (λ_ q=>q) λ_ _ q=>q
theorem Inv.turnLaid{t':Nat}{ch:List Addr}{a:Addr}{o:HO}(I:Inv X pins σ H s)(hf:∀b∈ch,Gm X pins H b)(k:∀b o,b∉ch->s.heap.get? b=some o->h'.get? b=some o)(ha:s.heap.objs.size<=a)(new:ObjOk X.prog X.w (BG H a o) h' a o) :
  Inv X pins σ (BG H a o) { s with heap:=h',toks:=t' }:=by
 have nit:∀b u,H b=some u->b∉ch:=λb u e z=>by rw [(hf b z).1] at e; cases e
 have hn:H a=none:=I.hok.fresh ha
 have up:∀b u,H b=some u->BG H a o b=some u:=λb u e=>by rw [AT (Ar e hn)]; exact e
 refine I.step (g':=s.gens) (d':=s.drawn) (ch:=ch) (λb hb=>?_) (λb o _ _ hc e _=>k b o hc e) (λb o _ _ hc e _=>⟨o.slots,k b o hc e⟩) (λb u _ e n=>?_) (λb o hc e=>⟨o,k b o hc e⟩) (λb xs e=>up _ _ e) (λb o u e=>up _ _ e) (λb ps e=>⟨#[],by rw [up _ _ e]; simp⟩) (λm hm=>?_) (λb u e=>?_) I.bare
 ·obtain⟨f0,f1,f2,f3,f4,f5⟩:=hf b hb
  exact⟨f3,f1,f4,f5⟩
 ·rw [AT (Nat.ne_of_lt (Nat.lt_of_lt_of_le (Heap.lt_size e) ha))]; exact n
 ·obtain⟨o,es,ep,ho,r⟩:=hm
  exact⟨o,es,ep,k _ o (λz=>(hf _ z).2.1 rfl) ho,r⟩
 ·by_cases hb:b=a
  ·subst hb; rw [Ak] at e; cases e; exact new
  ·rw [AT hb] at e
   exact(I.hok b u e).stay (λc v hc q=>k c v (hc.elim (λz=>by rw [z]; exact nit b u e) λz=>nit c _ z) q) (λc q=>up _ _ q) λc xs q=>up _ _ q
end
def SqK(κ:Bool)(K:Frag)(H:Hp)(a:Addr)(xs:List V):Prop:=match κ with
 | true=>SqL K H a xs
 | false=>SqT K H a xs
theorem SqK.at{κ:Bool}{X:Cx}{pins:List (Addr×Obj)}{σ:L2.St}{H:Hp}{s:Shared}{a:Addr}{xs:List V}(I:Inv X pins σ H s)(h:SqK κ X.K H a xs):∃its:List Value,Vals xs its/\SqAt κ s.heap a its.toArray:=by
 cases κ with
 | true=>obtain⟨its,r,pl,_⟩:=I.list h; exact⟨its,r,pl.isList⟩
 | false=>obtain⟨its,r,p,_⟩:=I.tuple h; exact⟨its,r,p⟩
def WH (K : Frag) (κ1 κ2 : Bool) (a b : Addr) (xs ys : List V) : It :=
  ⟨λi H => SqK κ1 K H a xs ∧ SqK κ2 K H b ys ∧ i < xs.length ∧ i < ys.length, λi H x H' => ∃ T p q, x = .ref T ∧ H T = none ∧ H' = BG H T (.tup [p, q]) ∧ xs[i]? = some p ∧ ys[i]? = some q,
   λi H => SqK κ1 K H a xs ∧ SqK κ2 K H b ys ∧ (xs.length ≤ i ∨ ys.length ≤ i)⟩
structure XO (κ1 κ2:Bool) (z TI TO i1 i2 a b:Addr) (k:Nat) (h:Heap):Prop where
 z:IsZip h z TI TO .none
 ti:IsPair h TI (.ref i1) (.ref i2)
 to:∃a b,IsPair h TO a b
 i1:ItAt κ1 h i1 a k
 i2:ItAt κ2 h i2 b k
theorem RL{P:Program}{w:World}{K:Frag}{es:List Expr}{j:Nat}{pos:Pos}(κ1 κ2:Bool)(z TI TO i1 i2 a b:Addr)(xs ys:List V)(D:WG z TI TO i1 i2 a b)(hTI:TI∉[z,TO,i1,i2]) :
  Turn P w K (.Tuple es j pos) (WH K κ1 κ2 a b xs ys) [z,TI,TO,i1,i2] z (XO κ1 κ2 z TI TO i1 i2 a b) where
 mem:=by simp
 obj:=λi h st c hc=>by
  simp only [List.mem_cons,List.not_mem_nil,or_false] at hc
  rcases hc with rfl | rfl | rfl | rfl | rfl
  ·exact⟨_,st.z,λv q=>by cases q⟩
  ·exact⟨_,st.ti,λv q=>by cases q⟩
  ·obtain⟨a,b,e⟩:=st.to
   exact⟨_,e,λv q=>by cases q⟩
  ·exact st.i1.lies
  ·exact st.i2.lies
 keep:=λi h h' st k=>by
  obtain⟨p,q,e⟩:=st.to
  exact⟨k z (by simp) _ st.z,k TI (by simp) _ st.ti,⟨p,q,k TO (by simp) _ e⟩,st.i1.mv λo e=>k i1 (by simp) o e,st.i2.mv λo e=>k i2 (by simp) o e⟩
 item:=by
  intro X hP hw hK hc i pins s σ H E I hf st hg
  subst hP hw hK
  obtain⟨ha,hb,hi,hj⟩:=hg
  obtain⟨us,r1,q1⟩:=ha.at I
  obtain⟨ws,r2,q2⟩:=hb.at I
  obtain⟨u,hu,ru⟩:=r1.get (List.getElem?_eq_getElem hi)
  obtain⟨v,hv,rv⟩:=r2.get (List.getElem?_eq_getElem hj)
  obtain⟨p,q,e⟩:=st.to
  refine J7 D st.z st.ti e st.i1 st.i2 q1 q2 (x:=u) (y:=v) (by simpa using hu) (by simpa using hv) λh' a1 a2 a3 a4 a5 a6 a7=>⟨_,rfl,?_⟩
  refine wpAny_letOwnedTupleGo_zip a1 λh2 b1 b2=>?_
  have hT:H s.heap.objs.size=none:=I.hok.fresh (Nat.le_refl _)
  have kk:∀c o,c∉[z,TO,i1,i2]->s.heap.get? c=some o->h2.get? c=some o:=λc o hc e=>by
   simp only [List.mem_cons,List.not_mem_nil,or_false,not_or] at hc
   exact b2.extBut _ _ hc.1 (a7 c o hc.1 hc.2.1 hc.2.2.1 hc.2.2.2 e)
  have I2:Inv X pins σ (BG H s.heap.objs.size (.tup [xs[i],ys[i]])) { s with heap:=h2 }:=by
   refine I.turnLaid (t':=s.toks) (ch:=[z,TO,i1,i2]) (λc hc=>hf c ?_) kk (Nat.le_refl _) ?_
   ·simp only [List.mem_cons,List.not_mem_nil,or_false] at hc ⊢
    rcases hc with rfl | rfl | rfl | rfl <;> simp
   ·have nT:s.heap.objs.size≠z:=Nat.ne_of_gt (Heap.lt_size st.z)
    exact⟨by show 2<=sizeLine; decide,[u,v],.cons ru (.cons rv .nil),⟨_,b2.extBut _ _ nT a5,rfl,_,rfl,rfl,rfl⟩⟩
  have ti2:IsPair h2 TI (.ref i1) (.ref i2):=kk _ _ hTI st.ti
  refine⟨.ref s.heap.objs.size,_,I2,rfl,⟨_,_,_,rfl,hT,rfl,List.getElem?_eq_getElem hi,List.getElem?_eq_getElem hj⟩,⟨b1,ti2,⟨_,_,b2.extBut _ _ D.TOz a2⟩,a3.eb b2.extBut D.i1z,a4.eb b2.extBut D.i2z⟩,λc hc=>?_⟩
  have hcn:H c=none:=(hf c hc).1
  have hlt:c≠s.heap.objs.size:=λz=>by
   obtain⟨o,ho,_⟩:∃o,s.heap.get? c=some o/\True:=by
    simp only [List.mem_cons,List.not_mem_nil,or_false] at hc
    rcases hc with rfl | rfl | rfl | rfl | rfl
    ·exact⟨_,st.z,trivial⟩
    ·exact⟨_,st.ti,trivial⟩
    ·exact⟨_,e,trivial⟩
    ·obtain⟨o,q,_⟩:=st.i1.lies; exact⟨o,q,trivial⟩
    ·obtain⟨o,q,_⟩:=st.i2.lies; exact⟨o,q,trivial⟩
   rw [z] at ho
   exact Nat.lt_irrefl _ (Heap.lt_size ho)
  rw [AT hlt]; exact hcn
 done:=by
  intro X hP hw hK hc i pins s σ H E I hf st hg
  subst hP hw hK
  obtain⟨ha,hb,hi⟩:=hg
  obtain⟨us,r1,q1⟩:=ha.at I
  obtain⟨ws,r2,q2⟩:=hb.at I
  obtain⟨p,q,e⟩:=st.to
  have l1:=r1.length
  have l2:=r2.length
  refine Lk (I.ok.hd hc) D st.z st.ti e st.i1 st.i2 q1 q2 (hi.imp (λhi=>by simp; omega) λhi=>by simp; omega) λh' kk=>⟨rfl,?_⟩
  refine I.turnedL (t':=s.toks) (ch:=[z,TO,i1,i2]) (λc hc=>hf c ?_) λc o hc e=>?_
  ·simp only [List.mem_cons,List.not_mem_nil,or_false] at hc ⊢
   rcases hc with rfl | rfl | rfl | rfl <;> simp
  ·simp only [List.mem_cons,List.not_mem_nil,or_false,not_or] at hc
   exact kk c o hc.1 hc.2.1 hc.2.2.1 hc.2.2.2 e
 self:=λA i s Q E st h=>wpAny_pyIter_zip st.z h
section
variable {X:Cx}
theorem Ul(n a b:Nat)(h1:a<n)(h2:b<n):WG (n+4) (n+2) (n+3) n (n+1) a b:=by
 constructor <;> (show (_:Nat)≠(_:Nat); omega)
theorem Uk(n:Nat):(n+2)∉[n+4,n+3,n,n+1]:=by
 simp only [List.mem_cons,List.not_mem_nil,or_false,not_or]
 omega
theorem Um(n c:Nat)(h:c∈[n+4,n+2,n+3,n,n+1]):n<=c:=by
 simp only [List.mem_cons,List.not_mem_nil,or_false] at h
 omega
def X4(K:Frag)(ta:TA):TI:=λσ H R=>ta σ H λvs H1=>∃κ1 κ2 a b xs ys,vs=[.ref a,.ref b]/\SqK κ1 K H1 a xs/\SqK κ2 K H1 b ys/\R (WH K κ1 κ2 a b xs ys) H1
theorem Rp{e1 e2:Expr}{es:List Expr}{j:Nat}{tpos:Pos}{ta:TA}{p pos:Pos}(hg:Gl X "zip")(hm:X.mg "zip"=none)(ha:PA X [e1,e2] ta)(hs:starEach [e1,e2] X.env=[(false,eval e1 X.env),(false,eval e2 X.env)]:=by rfl)(hs2:starEach [e2] X.env=[(false,eval e2 X.env)]:=by rfl) :
  PI X (.Tuple es j tpos) (.Call (.Name "zip" p) [e1,e2] [] pos) (X4 X.K ta):=by
 intro pins s σ H R I h
 refine Call_ (Dz I hg hm boot_zip (PyProof.Rows.callWith_type1 (thn (ha pos pins s σ H _ I h) λus s1 ⟨vs,H1,I1,r1,q1⟩=>?_) (by rw [hs,hs2]) (by rw [hs2]; rfl)))
 obtain⟨κ1,κ2,a,b,xs,ys,e,h1,h2,q⟩:=q1
 subst e
 obtain⟨u,v,rfl,ru,rv⟩:=vals2 r1
 cases ru
 cases rv
 obtain⟨us,r1',q1⟩:=h1.at I1
 obtain⟨ws,r2',q2⟩:=h2.at I1
 have la:a<s1.heap.objs.size:=by obtain⟨o,e⟩:=q1.lies; exact Heap.lt_size e
 have lb:b<s1.heap.objs.size:=by obtain⟨o,e⟩:=q2.lies; exact Heap.lt_size e
 refine L6 q1 q2 λh' hz hTI hTO hi1 hi2 hk=>?_
 refine wpAny_pyIter_zip hz ?_
 have D:=Ul s1.heap.objs.size a b la lb
 refine⟨s1.heap.objs.size+4,[s1.heap.objs.size+4,s1.heap.objs.size+2,s1.heap.objs.size+3,s1.heap.objs.size,s1.heap.objs.size+1],_,WH X.K κ1 κ2 a b xs ys,H1,rfl,I1.kept (t':=s1.toks) hk,RL κ1 κ2 _ _ _ _ _ a b xs ys D (Uk s1.heap.objs.size),⟨hz,hTI,⟨_,_,hTO⟩,hi1,hi2⟩,λc hc=>?_,q⟩
 have hge:s1.heap.objs.size<=c:=Um s1.heap.objs.size c hc
 exact I1.fpOk hge (I1.hok.fresh hge)
end
end L2
namespace Dp
open PySem PySem.Spec PyProof.Rows L2
def EA(ds es:List D):List D:=List.zipWith (λd e=>.tup [d,e]) ds es
section
variable {K:Frag}
theorem LC{U V' M:Addr->Prop}{H:Hp}{d:D}{v:V}{ds:List D}(h:AtT K V' M H d v)(e:Hg d=some ds)(uV:∀a,U a->V' a)(vM:∀a,V' a->M a):∃κ a vs,v=.ref a/\Ats K M H ds vs/\∀M' H',Pres M H M' H'->Ext U H H'->SqK κ K H' a vs:=by
 cases d with
 | lst xs =>
  cases e
  obtain⟨a,vs,e1,n1,hq,hs⟩:=h
  refine⟨true,a,vs,e1,hs,λM' H' _ ex=>?_⟩
  rcases hq with hq | ⟨o,hq⟩
  ·exact .inl (.inl (ex.keep hq λz=>n1 (uV a z)))
  ·exact .inl (.inr ⟨o,ex.keep hq λz=>n1 (uV a z)⟩)
 | tup xs =>
  cases e
  obtain⟨a,vs,e1,hq,hs⟩:=h
  exact⟨false,a,vs,e1,hs,λM' H' pr _=>(hq.pres pr).sq⟩
 | _=>cases e
theorem N7{M:Addr->Prop}{H:Hp}{d:D}{v:V}{ds:List D}(h:At K M H d v)(e:Hg d=some ds):∃κ a vs,v=.ref a/\Ats K M H ds vs/\∀M' H',Pres M H M' H'->SqK κ K H' a vs:=by
 cases d with
 | lst xs =>
  cases e
  obtain⟨a,vs,e1,hq,hs⟩:=h
  exact⟨true,a,vs,e1,hs,λM' H' pr=>(hq.pres pr).sq⟩
 | tup xs =>
  cases e
  obtain⟨a,vs,e1,hq,hs⟩:=h
  exact⟨false,a,vs,e1,hs,λM' H' pr=>(hq.pres pr).sq⟩
 | _=>cases e
theorem IG{M:Addr->Prop}{H:Hp}{κ1 κ2:Bool}{a b:Addr}{vs us:List V}{ds es:List D}(hs:Ats K M H ds vs)(ht:Ats K M H es us){i:Nat}{M':Addr->Prop}{H':Hp}(pr:Pres M H M' H')(h1:SqK κ1 K H' a vs)(h2:SqK κ2 K H' b us)(dom:∀a,M' a->∃o,H' a=some o) :
  (∀d,(EA ds es)[i]?=some d->(WH K κ1 κ2 a b vs us).go i H'/\∀x H2,(WH K κ1 κ2 a b vs us).yld i H' x H2->Grow H' H2/\At K M' H2 d x)/\((EA ds es).length<=i->(WH K κ1 κ2 a b vs us).stop i H'):=by
 have l1:=hs.length
 have l2:=ht.length
 refine⟨λd hd=>?_,λhl=>⟨h1,h2,?_⟩⟩
 ·unfold EA at hd
  rw [List.getElem?_zipWith] at hd
  cases q1:ds[i]? with
  | none=>rw [q1] at hd; simp at hd
  | some d1 =>
   cases q2:es[i]? with
   | none=>rw [q1,q2] at hd; simp at hd
   | some d2 =>
    rw [q1,q2] at hd
    have hd':D.tup [d1,d2]=d:=Option.some.inj hd
    have i1:i<ds.length:=(List.getElem?_eq_some_iff.mp q1).1
    have i2:i<es.length:=(List.getElem?_eq_some_iff.mp q2).1
    refine⟨⟨h1,h2,by omega,by omega⟩,λx H2 y=>?_⟩
    obtain⟨T,p,q,rfl,hT,rfl,e1,e2⟩:=y
    obtain⟨v1,f1,a1⟩:=(hs.pres pr).get q1
    obtain⟨v2,f2,a2⟩:=(ht.pres pr).get q2
    rw [e1] at f1
    rw [e2] at f2
    cases f1
    cases f2
    subst hd'
    exact⟨A9 hT,Dk dom hT ⟨p,[q],rfl,a1,q,[],rfl,a2,rfl⟩⟩
 ·unfold EA at hl
  rw [List.length_zipWith] at hl
  omega
end
section
variable {X:Cx}{e1 e2:Expr}{es:List Expr}{j:Nat}{tpos p pos:Pos}{ws:FT}
def S_(ws:FT):FT:=λn ρ P=>ws n ρ λds n1=>∃d e xs ys,ds=[d,e]/\Hg d=some xs/\Hg e=some ys/\P (EA xs ys) n1
theorem T2(hg:Gl X "zip")(hm:X.mg "zip"=none)(ha:T_ X [e1,e2] ws)(hs:starEach [e1,e2] X.env=[(false,eval e1 X.env),(false,eval e2 X.env)]:=by rfl)(hs2:starEach [e2] X.env=[(false,eval e2 X.env)]:=by rfl) :
  WC X (.Tuple es j tpos) (.Call (.Name "zip" p) [e1,e2] [] pos) (S_ ws):=by
 obtain⟨t,a1,a2⟩:=ha
 refine⟨_,Rp hg hm a1 hs hs2,λC M H n ρ σ P Rr R w q=>?_⟩
 refine a2 C M H n ρ σ _ _ R w λvs H1 ds n1 ee f1 r1 p=>?_
 obtain⟨d,e,xs,ys,rfl,hd,he,p⟩:=p
 cases r1 with
 | cons r rr =>
  cases rr with
  | cons r' rr =>
   cases rr
   have R1:=R.step ee f1
   obtain⟨κ1,a,us,rfl,h1,s1⟩:=LC (U:=C.U) r hd R.uV R1.vM
   obtain⟨κ2,b,us',rfl,h2,s2⟩:=LC (U:=C.U) r' he R.uV R1.vM
   refine⟨κ1,κ2,a,b,us,us',rfl,s1 M H1 (Pres.refl _ _) (Ext.refl _ _),s2 M H1 (Pres.refl _ _) (Ext.refl _ _),q _ H1 _ n1 ee f1 (λi M' H' pr ex dom=>IG h1 h2 pr (s1 M' H' pr ex) (s2 M' H' pr ex) dom) p⟩
theorem Vq(hg:Gl X "zip")(hm:X.mg "zip"=none)(ha:WD X [e1,e2] ws)(hs:starEach [e1,e2] X.env=[(false,eval e1 X.env),(false,eval e2 X.env)]:=by rfl)(hs2:starEach [e2] X.env=[(false,eval e2 X.env)]:=by rfl) :
  DI X (.Tuple es j tpos) (.Call (.Name "zip" p) [e1,e2] [] pos) (S_ ws):=by
 obtain⟨t,a1,a2⟩:=ha
 refine⟨_,Rp hg hm a1 hs hs2,λC M H n ρ σ P Rr R w q=>?_⟩
 refine a2 C M H n ρ σ _ _ R w λvs H1 ds n1 ee f1 r1 p=>?_
 obtain⟨d,e,xs,ys,rfl,hd,he,p⟩:=p
 obtain⟨v,r,rfl,r1,v',r',rfl,r2,rr⟩:=r1
 cases (show r'=[] from rr)
 obtain⟨κ1,a,us,rfl,h1,s1⟩:=N7 r1 hd
 obtain⟨κ2,b,us',rfl,h2,s2⟩:=N7 r2 he
 exact⟨κ1,κ2,a,b,us,us',rfl,s1 M H1 (Pres.refl _ _),s2 M H1 (Pres.refl _ _),q _ H1 _ n1 ee f1 (λi M' H' pr dom=>IG h1 h2 pr (s1 M' H' pr) (s2 M' H' pr) dom) p⟩
def X3:D->Option Key
 | .int i=>some (.inl i)
 | .str x=>some (.inr x)
 | _=>none
def GK:List D->Option (List Key)
 | []=>some []
 | d::ds=>match X3 d,GK ds with
  | some k,some ks=>some (k::ks)
  | _,_=>none
theorem GJ{K:Frag}{M:Addr->Prop}{H:Hp}:∀{ds:List D} {vs:List V} {ks:List Key},GK ds=some ks->Ats K M H ds vs->vs=ks.map kOf
 | [],vs,ks,e,h=>by cases e; exact h
 | d::ds,vs,ks,e,h=>by
  obtain⟨v,r,e1,h1,h2⟩:=h
  unfold GK at e
  split at e
  ·rename_i k ks' hk hks
   cases e
   rw [e1,GJ hks h2,List.map_cons]
   congr 1
   cases d with
   | int i=>cases hk; exact h1
   | str x=>cases hk; exact h1.1
   | _=>cases hk
  ·cases e
def Du(d e:D)(P:D->Prop):Prop:=match d,e with
 | .int i,.int j=>P (.bl (decide (i<j)))
 | .str i,.str j=>P (.bl (decide (i.cps.toList<j.cps.toList)))
 | .tup xs,.tup ys=>∃ks ls,GK xs=some ks/\GK ys=some ls/\CV ks ls=true/\P (.bl (ER ks ls))
 | _,_=>False
def Wh(K:Frag):R2:=λx y H Q=>U9 x y H Q\/Wg K x y H Q
theorem De{k:Nat}(hr:Room k X.A):OpR X (compareOp .Lt) (Wh X.K):=op_ltU.or (VN hr.units0)
theorem FC:EW X.K .sh (Wh X.K) Du:=λU M H d e x y P Q dom vM hx hy w q=>by
 unfold Du at w
 split at w
 ·exact .inl (Ug (X:=X) U M H (.int _) (.int _) x y P Q dom vM hx hy w q)
 ·exact .inl (Ug (X:=X) U M H (.str _) (.str _) x y P Q dom vM hx hy w q)
 ·obtain⟨ks,ls,h1,h2,h3,w⟩:=w
  obtain⟨a,vs,rfl,ha,hs⟩:=hx.tup
  obtain⟨b,us,rfl,hb,ht⟩:=hy.tup
  have e1:=GJ h1 hs
  have e2:=GJ h2 ht
  subst e1 e2
  exact .inr ⟨a,b,ks,ls,rfl,rfl,ha.sq,hb.sq,h3,q _ H (.bl _) .refl rfl w⟩
 ·exact w.elim
end
end Dp
namespace L2
open PySem PySem.Spec PyProof.Rows
section
variable {prog:Program}{w:World}{A:Around}{E:Value->Shared->Prop}{s:Shared}
theorem MK{t sl:Addr}{items:Array Value}{vl vu:Value}{lo hi:Option Int}{Q:Value->Shared->Prop}(ht:IsTup s.heap t items)(hs:s.heap.IsSliceOf sl vl vu .none)(pl:IsPart vl lo)(pu:IsPart vu hi)
  (hw:HT.sIx items.size 0 lo=0/\HT.sIx items.size items.size hi=items.size) (h:Q (.ref t) s):wpAny (model prog w) A (getItem (.ref t) (.ref sl)) Q E s:=by
 obtain⟨os,hos,hcs,hds⟩:=id hs
 have hTs:s.TypeIs (.ref sl) "slice":=⟨os,hos,hcs⟩
 unfold getItem
 (try with_reducible refine wpAny_holding ?_); (first | refine wpAny_bind (wpAny_pure ?_) | skip)
 refine wpAny_bind (wpAny_sequenceKey ht.typeIs (by decide) (wpAny_bind (wpAny_callSpecial?_slot (name:=Str.ofString "__getitem__") ht.typeIs PyProof.Rows.slot_tuple_getitem (wpAny_call_entry PyProof.Rows.slot_tuple_getitem ht.typeIs entry_tuple_getitem ?_ (args_tuple_getitem _ _)))))
 show wpAny (model prog w) _ (Builtin.Tuple.tupleItemsOf (.ref t) >>= _) _ _ s
 refine wpAny_bind (tupleItemsOf_ ht (wpAny_bind (wpAny_typeOf hTs ?_))); rw [if_pos (by decide)]
 refine wpAny_bind (HT.sliceApplied_gen hs pl pu ?_)
 have hyes:(((HT.sIx items.size 0 lo:Nat):Int)==0&&(1:Int)==1&&(HT.sIx items.size items.size hi - HT.sIx items.size 0 lo)==items.size)=true:=by rw [hw.1,hw.2]; simp
 show wpAny (model prog w) _ (if (((HT.sIx items.size 0 lo:Nat):Int)==0&&(1:Int)==1&&(HT.sIx items.size items.size hi - HT.sIx items.size 0 lo)==items.size)=true then _ else _) _ _ s
 rw [if_pos hyes]
 refine wpAny_bind (m:=Builtin.Tuple.tupleIsExact _) ?_
 unfold Builtin.Tuple.tupleIsExact
 refine wpAny_bind (wpAny_typeOf ht.typeIs (wpAny_pure ?_))
 show wpAny (model prog w) _ (if ((Value.type "tuple"==Value.type "tuple")=true) then _ else _) _ _ s
 rw [if_pos (by decide)]
 first
  | exact wpAny_bind (wpAny_rule (wpAny_bind (wpAny_pure (wpAny_pure ⟨_,rfl,wpAny_pure h⟩))))
  | exact wpAny_bind (wpAny_rule (wpAny_pure ⟨_,rfl,wpAny_pure h⟩))
  | exact wpAny_bind (wpAny_bind (wpAny_rule (wpAny_pure (wpAny_pure ⟨_,rfl,wpAny_pure h⟩))))
end
section
variable {X:Cx}{e st:Expr}{te tst:TE}{pos p2:Pos}
def UJ(K:Frag):V->Option Int->Option Int->Hp->VK->Prop:=λx lo hi H Q=>∃a xs,x=.ref a/\SqT K H a xs/\(HT.sIx xs.length 0 lo=0/\HT.sIx xs.length xs.length hi=xs.length)/\Q (.ref a) H
theorem TL:SlR X (UJ X.K):=by
 intro pins s σ H x v vl vu lo hi sl Q I rx hs pl pu h
 obtain⟨a,xs,rfl,hx,hw,q⟩:=h
 cases rx
 obtain⟨its,r,ht,hz⟩:=I.tuple hx
 have hlen:its.toArray.size=xs.length:=by rw [List.size_toArray]; exact r.length.symm
 exact⟨"tuple",_,PyProof.Rows.slot_tuple_getitem.lookup,ht.typeIs,MK ht hs pl pu (by rw [hlen]; exact hw) ⟨.ref a,H,I,rfl,q⟩⟩
end
section
variable {X:Cx}
def Rc(K:Frag):R2:=λx y H Q=>∃a b ys,x=.ref a/\y=.ref b/\SqT K H a []/\SqT K H b ys/\Q (.ref b) H
theorem R_:OpR X (binaryOp .Add) (Rc X.K):=by
 intro pins s σ H x y v u Q I rx ry h
 obtain⟨a,b,ys,rfl,rfl,ha,hb,q⟩:=h
 cases rx
 cases ry
 obtain⟨its,r1,p1,_⟩:=I.tuple ha
 obtain⟨its2,r2,p2,_⟩:=I.tuple hb
 cases r1
 obtain⟨⟨cls,dd,data,sl⟩,ho,hc,n,hd⟩:=id p1
 obtain⟨⟨cls2,dd2,data2,sl2⟩,ho2,hc2,n2,hd2⟩:=id p2
 simp only at hc hd hc2 hd2
 subst hc hd hc2 hd2
 exact concat_meets ⟨_,ho,rfl⟩ ⟨_,ho2,rfl⟩ noFill_tuple_add seq_tuple_add PySem.F.slot_tuple_add PySem.F.entry_tuple_add (PySem.F.args_tuple_add_2 _ _) (tuple_addW0 a b _ its2.toArray n n2 dd dd2 sl sl2 (by simp)) ⟨ho,ho2,⟨.ref b,H,I,rfl,q⟩⟩
def bI(b:Bool):Int:=if b=true then 1 else 0
def Xd(g:Int->Int->Int):R2:=λx y H Q=>∃k j,x=.bl k/\y=.int j/\Q (.int (g (bI k) j)) H
def YN(g:Int->Int->Int):R2:=λx y H Q=>∃i k,x=.int i/\y=.bl k/\Q (.int (g i (bI k))) H
theorem op_add_bi:OpR X (binaryOp .Add) (Xd λi j=>i+j):=by
 intro pins s σ H x y v u Q I rx ry h
 obtain⟨k,j,rfl,rfl,q⟩:=h
 cases rx
 obtain⟨t,rfl⟩:=ry
 exact PySem.IntBool.add_bool_int ⟨.int _,H,I.tok _,⟨_,rfl⟩,q⟩
theorem op_sub_bi:OpR X (binaryOp .Sub) (Xd λi j=>i - j):=by
 intro pins s σ H x y v u Q I rx ry h
 obtain⟨k,j,rfl,rfl,q⟩:=h
 cases rx
 obtain⟨t,rfl⟩:=ry
 exact PySem.IntBool.sub_bool_int ⟨.int _,H,I.tok _,⟨_,rfl⟩,q⟩
theorem QQ:OpR X (binaryOp .Sub) (YN λi j=>i - j):=by
 intro pins s σ H x y v u Q I rx ry h
 obtain⟨i,k,rfl,rfl,q⟩:=h
 obtain⟨t,rfl⟩:=rx
 cases ry
 exact PySem.IntBool.sub_int_bool ⟨.int _,H,I.tok _,⟨_,rfl⟩,q⟩
def Wm(neg:Bool):R2:=λx y H Q=>∃a b,x=.bl a/\y=.bl b/\Q (.bl (if neg then !(a==b) else a==b)) H
theorem QU:OpR X (compareOp .IsNot) (Wm true):=by
 intro pins s σ H x y v u Q I rx ry h
 obtain⟨a,b,rfl,rfl,q⟩:=h
 cases rx
 cases ry
 exact isnot_bool ⟨.bl _,H,I,rfl,q⟩
end
end L2
namespace Dp
open PySem PySem.Spec PyProof.Rows L2
section
variable {K:Frag}{X:Cx}
def A8(d e:D)(P:D->Prop):Prop:=match d,e with
 | .int i,.int j=>P (.int (i+j))
 | .bl k,.int j=>P (.int (bI k+j))
 | .str i,.str j=>i.length+j.length<=sizeLine/\P (.str (i++j))
 | .tup i,.tup j=>i.length+j.length<=sizeLine/\P (.tup (i++j))
 | .lst i,.lst j=>i.length+j.length<=sizeLine/\P (.lst (i++j))
 | _,_=>False
def UT(K:Frag):R2:=λx y H Q=>Rg K x y H Q\/(Xd λi j=>i+j) x y H Q\/Rc K x y H Q
theorem BI:OpR X (binaryOp .Add) (UT X.K):=op_addU.or (op_add_bi.or R_)
theorem Bi:EW X.K .sh (UT X.K) A8:=λU M H d e x y P Q dom vM hx hy w q=>by
 unfold A8 at w
 split at w
 ·exact .inl (MD (X:=X) U M H (.int _) (.int _) x y P Q dom vM hx hy w q)
 ·rename_i k j
  exact .inr (.inl ⟨k,j,hx,hy,q _ H (.int _) .refl rfl w⟩)
 ·exact .inl (MD (X:=X) U M H (.str _) (.str _) x y P Q dom vM hx hy w q)
 ·rename_i i j
  cases i with
  | nil =>
   obtain⟨a,vs,rfl,ha,hs⟩:=hx.tup
   obtain⟨b,us,rfl,hb,ht⟩:=hy.tup
   cases (show vs=[] from hs)
   exact .inr (.inr ⟨a,b,us,rfl,rfl,ha.sq,hb.sq,q _ H (.tup j) .refl ⟨b,us,rfl,hb,ht⟩ (by have:=w.2; rw [List.nil_append] at this; exact this)⟩)
  | cons i0 i=>exact .inl (MD (X:=X) U M H (.tup (i0::i)) (.tup j) x y P Q dom vM hx hy ⟨(by intro z; cases z),w⟩ q)
 ·exact .inl (MD (X:=X) U M H (.lst _) (.lst _) x y P Q dom vM hx hy w q)
 ·exact w.elim
def NJ(d e:D)(P:D->Prop):Prop:=match d,e with
 | .int i,.int j=>P (.int (i - j))
 | .bl k,.int j=>P (.int (bI k - j))
 | .int i,.bl k=>P (.int (i - bI k))
 | _,_=>False
def UI:R2:=λx y H Q=>(Hl λi j=>.int (i - j)) x y H Q\/(Xd λi j=>i - j) x y H Q\/(YN λi j=>i - j) x y H Q
theorem LZ:OpR X (binaryOp .Sub) UI:=op_sub.or (op_sub_bi.or QQ)
theorem Oh:EW K .sh UI NJ:=λU M H d e x y P Q dom vM hx hy w q=>by
 unfold NJ at w
 split at w
 ·exact .inl (Sy (K:=K) (g:=λi j=>i - j) U M H (.int _) (.int _) x y P Q dom vM hx hy w q)
 ·rename_i k j
  exact .inr (.inl ⟨k,j,hx,hy,q _ H (.int _) .refl rfl w⟩)
 ·rename_i i k
  exact .inr (.inr ⟨i,k,hx,hy,q _ H (.int _) .refl rfl w⟩)
 ·exact w.elim
def Vk(neg:Bool)(d e:D)(P:D->Prop):Prop:=match d,e with
 | .bl a,.bl b=>P (.bl (if neg then !(a==b) else a==b))
 | _,_=>False
theorem XJ{neg:Bool}:EW K .sh (Wm neg) (Vk neg):=λU M H d e x y P Q dom vM hx hy w q=>by
 unfold Vk at w
 split at w
 ·rename_i a b
  exact⟨a,b,hx,hy,q _ H (.bl _) .refl rfl w⟩
 ·exact w.elim
def FR(d:D)(lo hi:Option Int)(P:D->Prop):Prop:=match d with
 | .str z=>P (.str (Txt.slice z lo hi))
 | .lst xs=>P (.lst (cutD xs lo hi))
 | .tup xs=>P (.tup (cutD xs lo hi))
 | _=>False
def We(K:Frag):V->Option Int->Option Int->Hp->VK->Prop:=λx lo hi H Q=>Wa x lo hi H Q\/Wd K x lo hi H Q\/Wc K x lo hi H Q\/UJ K x lo hi H Q
theorem K_:SlR X (We X.K):=sl_U.or (sl_list.or (sl_tup.or TL))
theorem Pn{M:Addr->Prop}{H:Hp}{ds:List D}{vs:List V}(lo hi:Option Int)(h:Ats K M H ds vs):Ats K M H (cutD ds lo hi) (J_ vs lo hi):=by
 unfold cutD J_
 rw [h.length]
 exact(h.drop _).take _
theorem Ge:YR K .sh (We K) FR:=by
 intro U M H d x lo hi P Q dom vM hx w q
 unfold FR at w
 split at w
 ·rename_i z
  exact .inl ⟨z,hx.str.1,hx.str.2,q _ H (.str (Txt.slice z lo hi)) .refl ⟨rfl,Nat.le_trans (Txt.slice_le z lo hi) hx.str.2⟩ w⟩
 ·rename_i xs
  obtain⟨a,vs,rfl,_,ha,hs⟩:=hx
  exact .inr (.inl ⟨a,vs,rfl,.inl ha,λp hp=>q _ _ (.lst _) (A9 hp) ((Ey (U:=U) hp (Pn lo hi hs)).shOf dom (by intro z; cases z)) w⟩)
 ·rename_i xs
  obtain⟨a,vs,rfl,ha,hs⟩:=hx.tup
  by_cases hw:HT.sIx vs.length 0 lo=0/\HT.sIx vs.length vs.length hi=vs.length
  ·refine .inr (.inr (.inr ⟨a,vs,rfl,ha.sq,hw,?_⟩))
   have e:cutD xs lo hi=xs:=by
    unfold cutD
    rw [← hs.length,hw.1,hw.2,List.drop_zero,Nat.sub_zero,hs.length,List.take_length]
   rw [e] at w
   exact q _ H (.tup xs) .refl ⟨a,vs,rfl,ha,hs⟩ w
  ·exact .inr (.inr (.inl ⟨a,vs,rfl,ha.sq,hw,λp hp=>q _ _ (.tup _) (A9 hp) (Dk dom hp (Pn lo hi hs)) w⟩))
 ·exact w.elim
end
end Dp
namespace Nt
open PySem PySem.Spec PyProof.Rows L2 Dp
def BF:W2:=λss n P=>∃m:Int,ss=[.fd,.sh (.int m)]/\1<=m/\m<1073741824/\1<=n/\∀r:Int,0<=r->r<m->P (.int r) (n - 1)
def S2:W2:=λss n P=>∃s:Int,ss=[.fd,.sh (.int s)]/\1<=n/\∀r:Int,1<=r->r<=1000000->P (.int r) (n - 1)
def Fc:Al:=(Ae (BD (AO (AS (Gp false) (AA 1) (wC (D.int 0)))) (As (AS A8 (wC (D.int 1)) (Aa BF (AD (BE 0) (AD (AK (wC (D.int 3))) Ac))))) Au)
 (Ae (BD (AO (AS (Gp false) (AA 1) (wC (D.int 1)))) (As (AS A8 (wC (D.int 1)) (Aa BF (AD (BE 0) (AD (AK (wC (D.int 12))) Ac))))) Au)
 (As (WK (AO (AS (Gp false) (AA 1) (wC (D.int 2)))) (AS NJ (AS (Pc KI λi j=>D.int (i ^ j.toNat)) (wC (D.int 10)) (wC (D.int 6))) (Aa BF (AD (BE 0) (AD (AK (wC (D.int 5))) Ac)))) (AS A8 (wC (D.int 1)) (Aa BF (AD (BE 0) (AD (AK (AS (Pc KI λi j=>D.int (i ^ j.toNat)) (wC (D.int 10)) (wC (D.int 6)))) Ac))))))))
def Fb:Al:=(Ae (A0 2 (Aa BF (AD (BE 0) (AD (AK (wC (D.int 3))) Ac))))
 (Ae (A0 3 (Ff (AF (wC (D.str "a")) (AF (wC (D.str "aa")) (AF (wC (D.str "ab")) (AF (wC (D.str "b")) (AF (wC (D.str "far")) (AF (wC (D.str "in")) (AF (wC (D.str "near")) (AF (wC (D.str "out")) (AF (wC (D.str "place")) (AF (wC (D.str "tie")) (AF (wC (D.str "ties")) (AF (wC (D.str "way")) AZ))))))))))))))
 (Ae (BD (HL (AO (AS (Gp false) (AA 2) (wC (D.int 0)))) (AO (AS Du (AA 1) (wC (D.int 13))))) (Ae (A0 4 (Aa BF (AD (BE 0) (AD (AK (wC (D.int 12))) Ac))))
 (As (DQ JL (AF (BY [some 3,some 4,none] (EB (AF (AA 1) AZ)) (AX 2) CM (AS A5 (AA 0) (AS (Pc (λ_ j=>0<j) λi j=>D.int (i % j)) (AS A8 (AA 1) (AA 2)) (wC (D.int 12))))) AZ)))) Au)
 (Ae (A0 5 (wC (D.str "abcdefghijklmnopqrstuvwxyz")))
 (Ae (A0 6 (Xo "str" Sa (wC (D.str "")) (AF (BY [some 5,some 0,none] (EB (AF (wC (D.int 8)) AZ)) (AX 2) CM (AS A5 (AA 0) (Aa BF (AD (BE 1) (AD (AK (wC (D.int 26))) Ac))))) AZ)))
 (Ae (BD (HL (AO (AS (Gp false) (AA 2) (wC (D.int 1)))) (AO (AS Du (AA 1) (wC (D.int 9))))) (As (BY [some 6,none] (EB (AF (AA 1) AZ)) (AX 1) CM (Nx FR (AA 0) Co (Ck (AS A8 (wC (D.int 1)) (AA 1)))))) Au)
 (Ae (A0 7 (Aa BF (AD (BE 0) (AD (AK (wC (D.int 7))) Ac))))
 (Ae (A0 4 (Aa BF (AD (BE 0) (AD (AK (wC (D.int 26))) Ac))))
 (Ae (EX 8 (Ff AZ))
 (Ae (Ek (EB (AF (AA 1) AZ)) (AX 9) (Ae (A0 10 (AS A5 (AA 5) (AS (Pc (λ_ j=>0<j) λi j=>D.int (i % j)) (AS A8 (AA 4) (AA 9)) (wC (D.int 26)))))
 (P4 8 "list" Hr (AF (AS A8 (AS A8 (AS A8 (Nx FR (AA 6) Co (Ck (AA 7))) (AA 10)) (Nx FR (AA 6) (Ck (AS A8 (AA 7) (wC (D.int 1)))) (Ck (wC (D.int 7))))) (AS Ci (wC (D.str "z")) (AS (Pc (λ_ j=>0<j) λi j=>D.int (i % j)) (AA 9) (wC (D.int 2))))) AZ))))
 (As (DQ JL (AF (A7 8) AZ)))))))))))))
def cs(x:Str):List Nat:=x.cps.toList
theorem Do(x:Str):(cs x).length=x.length:=Array.length_toList
theorem JT{x y:Str}(h:cs x=cs y):x=y:=by
 obtain⟨a⟩:=x
 obtain⟨b⟩:=y
 unfold cs at h
 exact congrArg Str.mk (Array.ext' h)
theorem DA(x y:Str):cs (x++y)=cs x++cs y:=PySem.W.KT.app_list x y
theorem Uc{x:Str}{j:Int}(h0:0<=j)(h1:j<=(x.length:Int)):cs (Txt.slice x none (some j))=(cs x).take j.toNat:=by
 have e:(x.cps.toList.length:Int)=(x.length:Int):=by rw [show x.cps.toList.length=x.length from Do x]
 have h:=eq_of_beq (slice_closes_to (x:=x) (j:=j) ⟨h0,by omega⟩)
 rw [h]
 show ((x.cps.toList.drop (0:Int).toNat).take (j - 0).toNat)=(x.cps.toList).take j.toNat
 rw [Int.sub_zero]
 rfl
theorem Vv{x:Str}{i j:Int}(h0:0<=i)(h1:i<=j)(h2:j<=(x.length:Int)):cs (Txt.slice x (some i) (some j))=((cs x).drop i.toNat).take (j - i).toNat:=by
 have e:(x.cps.toList.length:Int)=(x.length:Int):=by rw [show x.cps.toList.length=x.length from Do x]
 have h:=eq_of_beq (slice_closes (x:=x) (i:=i) (j:=j) ⟨h0,h1,by omega⟩)
 rw [h]
 rfl
def D1(x:Str):Prop:=1<=x.length/\x.length<=8/\∀c∈cs x,97<=c/\c<=122
def rising(xs:List Str):Prop:=xs.Pairwise λx y=>cs x<cs y
theorem SJ(a b:List Nat):ltCps a b=decide (a<b):=ltCps_eq a b
theorem HN:∀(l:List Str) (p:Str),risingS p l=true->(p::l).Pairwise λa b=>¬cs b<cs a
 | [],p,_=>List.pairwise_singleton _ _
 | x::r,p,h=>by
  have h':(!ltCps x.cps.toList p.cps.toList&&risingS x r)=true:=h
  rw [Bool.and_eq_true,Bool.not_eq_true',SJ,decide_eq_false_iff_not] at h'
  have ih:=HN r x h'.2
  refine List.pairwise_cons.mpr ⟨λy hy=>?_,ih⟩
  rcases List.mem_cons.mp hy with rfl | hy
  ·exact h'.1
  ·have h2:=(List.pairwise_cons.mp ih).1 y hy
   exact List.le_trans (l₁:=cs p) (l₂:=cs x) (l₃:=cs y) h'.1 h2
theorem FV{l:List Str}(h:sortedS l=true)(nd:l.Nodup):rising l:=by
 have hp:l.Pairwise λa b=>¬cs b<cs a:=by
  cases l with
  | nil=>exact List.Pairwise.nil
  | cons x r=>exact HN r x h
 refine(hp.and nd).imp λ{a b} ⟨h1,h2⟩=>?_
 exact Classical.byContradiction λh3=>h2 (JT (List.le_antisymm (as:=cs a) (bs:=cs b) h1 h3))
theorem Ov:∀(l:List Nat) (i j:Nat),i<j->i<l.length->l.take i<l.take j
 | [],_,_,_,h=>absurd h (Nat.not_lt_zero _)
 | c::r,0,j+1,_,_=>List.nil_lt_cons _ _
 | c::r,i+1,j+1,h1,h2=>by
  rw [List.take_succ_cons,List.take_succ_cons]
  exact List.cons_lt_cons_iff.mpr (.inr ⟨rfl,Ov r i j (by omega) (by simpa using h2)⟩)
theorem KY{b:BW}{te:DW}{P:List D->Nat->Prop}(I:Nat->Nat->List D->List Slot->Prop)(hend:∀n acc ρ,I 0 n acc ρ->P acc n)
  (hstep:∀(k:Nat) (d:D) (n:Nat) (acc:List D) (ρ:List Slot) (nx:List D->Nat->List Slot->Prop),I (k+1) n acc ρ->(∀acc' n' ρ',I k n' acc' ρ'->nx acc' n' ρ')->b d ρ λρ1=>te n ρ1 λy n2=>nx (acc++[y]) n2 ρ1) :
  ∀(ds acc:List D) (n:Nat) (ρ:List Slot),I ds.length n acc ρ->CL b CM te P ds acc n ρ
 | [],acc,n,ρ,h=>hend n acc ρ h
 | d::ds,acc,n,ρ,h=>hstep ds.length d n acc ρ (λacc n ρ=>CL b CM te P ds acc n ρ) h λacc' n' ρ' h'=>KY I hend hstep ds acc' n' ρ' h'
theorem B_(lo:Int)(n:Nat):(C2 lo n).length=n:=by unfold C2; rw [List.length_map,List.length_range]
theorem Ie{lo:Int}{n:Nat}{d:D}(h:d∈C2 lo n):∃k:Nat,k<n/\d=.int (lo+k):=by
 unfold C2 at h
 obtain⟨k,hk,rfl⟩:=List.mem_map.mp h
 exact⟨k,List.mem_range.mp hk,rfl⟩
theorem QK{ss:List Slot}{n:Nat}{Pd:D->Nat->Prop}(h:S2 ss n Pd):Fc { nx:=λn _=>Kd.sh=.sh/\Pd .non n,rt:=Pd } n (ss++List.replicate 0 .no):=by
 obtain⟨s,rfl,hn,p⟩:=h
 unfold Fc
 refine CW (λ_=>⟨3,rfl,by decide,by decide,by omega,λr h0 h1=>p _ (by omega) (by omega)⟩) λ_=>?_
 refine CW (λ_=>⟨12,rfl,by decide,by decide,by omega,λr h0 h1=>p _ (by omega) (by omega)⟩) λ_=>?_
 refine CW (λ_=>⟨⟨by decide,by decide,by decide⟩,5,rfl,by decide,by decide,by omega,λr h0 h1=>?_⟩) λ_=>⟨⟨by decide,by decide,by decide⟩,_,rfl,by decide,by decide,by omega,λr h0 h1=>?_⟩
 ·have e:((10:Int) ^ (6:Int).toNat)=1000000:=by decide
  exact p _ (by rw [e]; omega) (by rw [e]; omega)
 ·have e:((10:Int) ^ (6:Int).toNat)=1000000:=by decide
  rw [e] at h1
  exact p _ (by omega) (by omega)
end Nt
namespace K13
open PySem PySem.Spec PyProof.Rows L2 Dp Nt
def top(i:Nat):Stmt:=PySem.Challenge.pw_thinnet_k13_papers_of_ways_told.main.body.getD i (.Pass ⟨0,0,0,0⟩)
abbrev C0:Stmt:=top 1
abbrev Bx:Stmt:=top 2
abbrev Ce:Stmt:=top 3
abbrev DV:Stmt:=top 4
abbrev Cw:Stmt:=top 5
abbrev Cv:Stmt:=top 6
abbrev Cd:Stmt:=top 7
abbrev DX:Stmt:=top 8
abbrev Cz:Stmt:=top 9
abbrev Cb:Stmt:=top 11
abbrev BR:Stmt:=top 12
abbrev CF:Stmt:=top 13
abbrev CG:Stmt:=top 14
abbrev EC:Stmt:=top 15
abbrev Cc:Stmt:=top 17
abbrev Cy:Stmt:=top 18
abbrev CD:Stmt:=top 19
abbrev CY:Stmt:=top 24
abbrev CZ:Stmt:=top 25
abbrev Cg:Stmt:=top 27
abbrev B9:Stmt:=top 28
abbrev CH:Stmt:=top 29
abbrev Bz:Stmt:=top 30
abbrev B0:Stmt:=top 31
abbrev C1:Stmt:=top 32
abbrev CI:Stmt:=top 33
abbrev Bc:Stmt:=top 34
abbrev CJ:Stmt:=top 35
abbrev Bn:Stmt:=top 36
abbrev Bp:Stmt:=top 37
abbrev B3:Stmt:=top 38
abbrev Cf:Stmt:=top 39
abbrev B4:Stmt:=top 40
abbrev Bo:Stmt:=top 41
abbrev By:Stmt:=top 42
abbrev Bb:Stmt:=top 43
abbrev BS:Stmt:=top 44
abbrev CK:Stmt:=top 45
abbrev Fw:Stmt:=top 46
structure Txt (K:Frag) (mg:Str->Option Value):Prop where
 n_all:mg "all"=none
 n_bool:mg "bool"=none
 n_enumerate:mg "enumerate"=none
 n_int:mg "int"=none
 n_isinstance:mg "isinstance"=none
 n_len:mg "len"=none
 n_list:mg "list"=none
 n_min:mg "min"=none
 n_range:mg "range"=none
 n_repr:mg "repr"=none
 n_reversed:mg "reversed"=none
 n_sorted:mg "sorted"=none
 n_str:mg "str"=none
 n_tuple:mg "tuple"=none
 n_zip:mg "zip"=none
section
variable {P:Program}{w:World}{K:Frag}{mg:Str->Option Value}{base:Heap}
theorem sc__law_next:Aj ["_law_feed_here","_law_many","_law_digit","_law_at","_law_cell","_law_first"] ["_law_feed_here","_law_many"] (AG B9):=⟨rfl,rfl,rfl,by decide +kernel,rfl,by decide +kernel,by decide +kernel⟩
theorem Te{f:Addr}{fd:FuncData}(F:Fun K "_law_next" "_law_next" B9 f fd)(ml:mg "len"=none):BK P w K mg base DB 1 f fd ["_law_feed_here","_law_many"] (D_ K .sh BF 2):=by
 refine F.ok sc__law_next (λvs H Q E h=>h.1) (λcdv A outer s H vs Q E hr h=>?_)
 obtain⟨hl,F0,U,V',M,n,ss,Pd,ra,⟨m,rfl,hm1,hm2,hn,hP⟩,q⟩:=h
 obtain⟨dom,fU,uV,vM,fd0,pa⟩:=ra
 cases pa with
 | cons r1 pa =>
 cases pa with
 | cons r2 pa =>
 cases pa
 obtain⟨⟨f0,c⟩,e0,hF⟩:=r1.1
 cases e0
 obtain⟨v2,e2,h2⟩:=r2.1
 cases e2
 cases (show _=V.int m from h2)
 obtain⟨a,r,cells,hf,hcf,hc,hcl,ha0,han⟩:=fd0 (f0,c) hF
 have fin:∀(a' r' z:Int) (H':Hp),(∀b o,H b=some o->b≠f0->H' b=some o)->H' f0=some (.lst [.ref c,.int a',.int r'])->0<=a'->a'<=a+1->0<=z->z<m->Q (.int z) H':=by
  intro a' r' z H' hk hf' h0 h1 hz0 hz1
  refine q (.int z) H' (.int z) (n - 1) (λb o e=>?_) (λg hg=>?_) rfl (hP z hz0 hz1)
  ·by_cases hb:b=f0
   ·subst hb
    exact⟨_,hf',λnu=>absurd (fU (b,c) hF) nu,λvs z=>by rw [z,hf] at e; cases e⟩
   ·exact⟨o,hk b o e hb,λ_=>rfl,λ_ _=>rfl⟩
  ·have:g=(f0,c):=Option.some.inj (hg.symm.trans hF)
   subst this
   exact⟨a',r',cells,hf',hcf,⟨hc.1,hk c _ hc.2 hcf⟩,hcl,h0,by omega⟩
 have hu:(A.deeper (envOfC "_law_next" (AG B9) s.heap.objs.size f cdv)).units<cLine:=hr.units0
 have hsq:∀{H':Hp} {xs:List V},H' f0=some (.lst xs)->SqL K H' f0 xs:=λh=>SqL.of h
 have ed:∀z:Int,0<=z % m/\z % m<m:=λz=>⟨Int.emod_nonneg _ (by omega),Int.emod_lt_of_pos _ (by omega)⟩
 refine⟨_,BU (Rm (Fy UW (EY ix_list (pv 0) A2 (λ_ _=>rfl)) A2 (Ah _))
   (BU (Eo (i:=2) sc__law_next.nd rfl (Or.inl rfl) (CA Dy (EY ix_list (pv 0) A2 (λ_ _=>rfl)) (pv 1)))
   (BU (LU (CA Lb (EY ix_list (pv 0) A2 (λ_ _=>rfl)) (pv 1)) (OH (pv 0) A2 set_list))
   (Dw (Fh (pv 2))))) LR)
  (BU (Eo (i:=3) sc__law_next.nd rfl (Or.inl rfl) (EY ix_list (pv 0) A2 (λ_ _=>rfl)))
  (BU (LU (CA op_add (pv 3) A2) (OH (pv 0) A2 set_list))
  (BU (Eo (i:=4) sc__law_next.nd rfl (Or.inl rfl) (Mf (Fy (QR hu) (EY ix_list (pv 0) A2 (λ_ _=>rfl)) (OI DL) (Ah _))
   (EY ix_list (EY ix_list (pv 0) A2 (λ_ _=>rfl)) (CA Dy (pv 3) (GA BA rfl ml PySem.boot_len (B7 (EY ix_list (pv 0) A2 (λ_ _=>rfl)) DL))) (λ_ _=>rfl)) A2))
  (BU (Rm (PW.pt (Rh (Fy Wx (pv 4) (CA Fj A2 A2) (Ah _)) (O2 (Fy op_lt (pv 3) (GA BA rfl ml PySem.boot_len (B7 (EY ix_list (pv 0) A2 (λ_ _=>rfl)) DL)) (Ah _)))))
   (BU (LU (CA Lb (pv 4) (pv 1)) (OH (pv 0) A2 set_list))
   (Dw (Fh (CA Dy (pv 4) (pv 1))))) LR)
  (BU (Eo (i:=5) sc__law_next.nd rfl (Or.inl rfl) (CA Dy (CA op_mul (CA op_add (CA op_add (CA op_add (CA Dy (pv 4) A2) (CA op_mul (CA op_mul A2 (pv 3)) (pv 3))) (CA op_mul A2 (pv 3))) A2) A2) A2))
  (Dw (Fh (CA Dy (CA Lb (CA Dy (CA op_mul (CA op_add (pv 5) (CA op_mul A2 (pv 3))) A2) A2) A2) (pv 1))))))))),?_⟩
 refine⟨_,rfl,f0,_,2,_,rfl,rfl,hsq hf,rfl,_,_,rfl,rfl,_,rfl,?_⟩
 refine CW (λc1=>?_) (λc1=>?_)
 ·refine⟨_,rfl,f0,_,2,_,rfl,rfl,hsq hf,rfl,_,rfl,_,_,rfl,rfl,(by show (0:Int)<m; omega),?_⟩
  refine⟨_,rfl,f0,_,2,_,rfl,rfl,hsq hf,rfl,_,rfl,_,_,rfl,rfl,⟨(by show (0:Int)<m; omega),hm2⟩,_,rfl,f0,_,2,2,rfl,rfl,hf,rfl,?_⟩
  refine⟨_,rfl,?_⟩
  exact fin a _ _ _ (λb o e hb=>by rw [AT hb]; exact e) Ak ha0 (by omega) (ed _).1 (ed _).2
 ·-- at=feed[1]; feed[1]=at+1
  refine⟨_,rfl,f0,_,1,_,rfl,rfl,hsq hf,rfl,?_⟩
  refine⟨_,rfl,_,_,rfl,rfl,_,rfl,f0,_,1,1,rfl,rfl,hf,rfl,?_⟩
  generalize hH1:BG H f0 (.lst ([V.ref c,V.int a,V.int r].set 1 (V.int (a+1))))=H1
  have f1:H1 f0=some (.lst [.ref c,.int (a+1),.int r]):=by rw [← hH1]; exact Ak
  have k1:∀b o,H b=some o->b≠f0->H1 b=some o:=λb o e hb=>by rw [← hH1,AT hb]; exact e
  have c1':H1 c=some (.lst (cells.map V.int)):=k1 c _ hc.2 hcf
  have rest:∀(z:Int) (H2:Hp),(∀b o,H1 b=some o->H2 b=some o) ->
    (P9 (WS (WX (Ow (D9 (Hl λi j=>V.bl (decide (j<=i))) (CN 4) (D9 (rI KI λi j=>V.int (i ^ j.toNat)) (tC (V.int 10)) (tC (V.int 18))))) (Ow (D9 (Hl λi j=>V.bl (decide (i<j))) (CN 3) (Xc (λxs H Q=>∃x n,xs=[x]/\V9 K x H n/\Q (V.int n) H) (Ox (D9 (U_ K) (CN 0) (tC (V.int 0))) TJ))))) (P9 (MO (D9 (rI UA λi j=>V.int (i / j)) (CN 4) (CN 1)) (W6 (CN 0) (tC (V.int 2)) UK)) (TF (D9 (rI (λ_ j=>0<j) λi j=>V.int (i % j)) (CN 4) (CN 1)))) UG) (P9 (MO (D9 (rI (λ_ j=>0<j) λi j=>V.int (i % j)) (D9 (rI CMul λi j=>V.int (i*j)) (D9 (Hl λi j=>V.int (i+j)) (D9 (Hl λi j=>V.int (i+j)) (D9 (Hl λi j=>V.int (i+j)) (D9 (rI (λ_ j=>0<j) λi j=>V.int (i % j)) (CN 4) (tC (V.int 1000003))) (D9 (rI CMul λi j=>V.int (i*j)) (D9 (rI CMul λi j=>V.int (i*j)) (tC (V.int 41)) (CN 3)) (CN 3))) (D9 (rI CMul λi j=>V.int (i*j)) (tC (V.int 17)) (CN 3))) (tC (V.int 3))) (tC (V.int 51749))) (tC (V.int 999917))) (HV 5)) (TF (D9 (rI (λ_ j=>0<j) λi j=>V.int (i % j)) (D9 (rI UA λi j=>V.int (i / j)) (D9 (rI (λ_ j=>0<j) λi j=>V.int (i % j)) (D9 (rI CMul λi j=>V.int (i*j)) (D9 (Hl λi j=>V.int (i+j)) (CN 5) (D9 (rI CMul λi j=>V.int (i*j)) (tC (V.int 8111)) (CN 3))) (tC (V.int 39373))) (tC (V.int 2097143))) (tC (V.int 3))) (CN 1)))))
     { nx:=λ_ H'=>Q .non H',rt:=Q } [some (.ref f0),some (.int m),none,some (.int a),some (.int z),none] H2:=by
   intro z H2 k2
   have f2:=k2 _ _ f1
   have c2:=k2 _ _ c1'
   have lastWay:∀H3:Hp,H3=H2->(P9 (MO (D9 (rI (λ_ j=>0<j) λi j=>V.int (i % j)) (D9 (rI CMul λi j=>V.int (i*j)) (D9 (Hl λi j=>V.int (i+j)) (D9 (Hl λi j=>V.int (i+j)) (D9 (Hl λi j=>V.int (i+j)) (D9 (rI (λ_ j=>0<j) λi j=>V.int (i % j)) (CN 4) (tC (V.int 1000003))) (D9 (rI CMul λi j=>V.int (i*j)) (D9 (rI CMul λi j=>V.int (i*j)) (tC (V.int 41)) (CN 3)) (CN 3))) (D9 (rI CMul λi j=>V.int (i*j)) (tC (V.int 17)) (CN 3))) (tC (V.int 3))) (tC (V.int 51749))) (tC (V.int 999917))) (HV 5)) (TF (D9 (rI (λ_ j=>0<j) λi j=>V.int (i % j)) (D9 (rI UA λi j=>V.int (i / j)) (D9 (rI (λ_ j=>0<j) λi j=>V.int (i % j)) (D9 (rI CMul λi j=>V.int (i*j)) (D9 (Hl λi j=>V.int (i+j)) (CN 5) (D9 (rI CMul λi j=>V.int (i*j)) (tC (V.int 8111)) (CN 3))) (tC (V.int 39373))) (tC (V.int 2097143))) (tC (V.int 3))) (CN 1))))
     { nx:=λ_ H'=>Q .non H',rt:=Q } [some (.ref f0),some (.int m),none,some (.int a),some (.int z),none] H3:=by
    intro H3 e3
    subst e3
    have hb:CMul (41*a) a:=.inr ⟨by omega,by omega⟩
    refine⟨_,rfl,_,_,rfl,rfl,(by show (0:Int)<1000003; decide),_,rfl,_,_,rfl,rfl,.inl ⟨by decide,by decide⟩,_,rfl,_,_,rfl,rfl,hb,_,_,rfl,rfl,_,rfl,_,_,rfl,rfl,.inl ⟨by decide,by decide⟩,_,_,rfl,rfl,_,_,rfl,rfl,_,_,rfl,rfl,.inr ⟨by decide,by decide⟩,_,_,rfl,rfl,(by show (0:Int)<999917; decide),?_⟩
    refine⟨_,rfl,_,rfl,_,_,rfl,rfl,.inl ⟨by decide,by decide⟩,_,_,rfl,rfl,_,_,rfl,rfl,.inr ⟨by decide,by decide⟩,_,_,rfl,rfl,(by show (0:Int)<2097143; decide),_,_,rfl,rfl,⟨by decide,by decide⟩,_,rfl,_,_,rfl,rfl,(by show (0:Int)<m; omega),?_⟩
    exact fin (a+1) r _ _ (λb o e hb=>k2 b o (k1 b o e hb)) f2 (by omega) (by omega) (ed _).1 (ed _).2
   refine⟨_,rfl,_,_,rfl,rfl,⟨by decide,by decide,by decide⟩,_,_,rfl,rfl,_,rfl,?_⟩
   refine CW (λc3=>?_) (λc3=>?_)
   ·refine⟨_,rfl,_,rfl,f0,_,0,_,rfl,rfl,hsq f2,rfl,_,_,rfl,.inl ⟨_,SqL.of c2,rfl⟩,_,_,rfl,rfl,_,rfl,?_⟩
    refine CW (λc4=>?_) (λc4=>lastWay H2 rfl)
    refine⟨_,rfl,_,rfl,_,_,rfl,rfl,⟨(by show (0:Int)<m; omega),hm2⟩,_,rfl,f0,_,2,2,rfl,rfl,f2,rfl,?_⟩
    refine⟨_,rfl,_,rfl,_,_,rfl,rfl,(by show (0:Int)<m; omega),?_⟩
    exact fin (a+1) _ _ _ (λb o e hb=>by rw [AT hb]; exact k2 b o (k1 b o e hb)) Ak (by omega) (by omega) (ed _).1 (ed _).2
   ·refine CW (λc4=>absurd c4 (by simp)) (λ_=>lastWay H2 rfl)
  refine⟨_,rfl,f0,_,0,_,rfl,rfl,hsq f1,rfl,(by show 0<=sizeLine; decide),λp hp=>?_⟩
  have kp:∀b o,H1 b=some o->BG H1 p (.lst []) b=some o:=λb o e=>by rw [AT (Ar e hp)]; exact e
  refine⟨c,p,_,rfl,rfl,SqL.of (kp _ _ c1'),SqL.of Ak,_,rfl,?_⟩
  cases cells with
  | nil=>exact Bk (rest 0 _ kp)
  | cons z0 cs =>
   refine B6 ?_
   have hlen:(((z0::cs).map V.int).length:Int)=(cs.length:Int)+1:=by simp
   have hpos:(0:Int)<(((z0::cs).map V.int).length:Int):=by omega
   obtain⟨z,hz⟩:∃z,atI ((z0::cs).map V.int) (a % (((z0::cs).map V.int).length:Int))=some (.int z):=by
    have h1:=Int.emod_nonneg a (show (((z0::cs).map V.int).length:Int)≠0 by omega)
    have h2:=Int.emod_lt_of_pos a hpos
    generalize a % (((z0::cs).map V.int).length:Int)=j at h1 h2
    obtain⟨k,rfl⟩:∃k:Nat,j=(k:Int):=⟨j.toNat,by omega⟩
    have hk:k<(z0::cs).length:=by rw [List.length_map] at h2; omega
    refine⟨(z0::cs)[k],AL ?_⟩
    rw [List.getElem?_map,List.getElem?_eq_getElem hk]
    rfl
   refine⟨_,rfl,f0,_,0,_,rfl,rfl,hsq (kp _ _ f1),rfl,_,rfl,_,rfl,f0,_,0,_,rfl,rfl,hsq (kp _ _ f1),rfl,_,_,rfl,.inl ⟨_,SqL.of (kp _ _ c1'),rfl⟩,_,_,rfl,rfl,hpos,c,_,_,_,rfl,rfl,SqL.of (kp _ _ c1'),hz,?_⟩
   exact rest z _ kp
end
end K13
namespace Nt
open PySem PySem.Spec PyProof.Rows L2 Dp
def Gh:W2:=λss n P=>∃m:Nat,ss=[.fd,.sh (.int m)]/\1<=m/\m<=26/\11<=n/\∀(xs:List Str) (n':Nat),xs.length=m->(∀x∈xs,D1 x)->rising xs->n - 11<=n'->P (.lst (xs.map .str)) n'
def words:List Str:=["a","aa","ab","b","far","in","near","out","place","tie","ties","way"]
def wordAt(i:Nat):Str:=words.getD i "a"
theorem Nw:∀i,i<12->D1 (wordAt i):=by
 have h:∀i∈List.range 12,1<=(wordAt i).length/\(wordAt i).length<=8/\∀c∈cs (wordAt i),97<=c/\c<=122:=by decide +kernel
 exact λi hi=>h i (List.mem_range.mpr hi)
theorem P1:∀i j,i<12->j<12->wordAt i=wordAt j->i=j:=by
 have h:∀i∈List.range 12,∀j∈List.range 12,cs (wordAt i)=cs (wordAt j)->i=j:=by decide +kernel
 exact λi j hi hj e=>h i (List.mem_range.mpr hi) j (List.mem_range.mpr hj) (congrArg cs e)
def letters:Str := "abcdefghijklmnopqrstuvwxyz"
theorem JB(i:Nat)(h:i<26):(cs letters)[i]?=some (97+i):=by
 have h2:∀i∈List.range 26,(cs letters)[i]?=some (97+i):=by decide +kernel
 exact h2 i (List.mem_range.mpr h)
theorem G5{α β:Type}{f:α->β}:∀{l:List α},l.Nodup->(∀a∈l,∀b∈l,f a=f b->a=b)->(l.map f).Nodup
 | [],_,_=>List.nodup_nil
 | a::l,h,hf=>by
  rw [List.nodup_cons] at h
  rw [List.map_cons,List.nodup_cons]
  refine⟨λhm=>?_,G5 h.2 λx hx y hy=>hf x (List.mem_cons_of_mem _ hx) y (List.mem_cons_of_mem _ hy)⟩
  obtain⟨b,hb,e⟩:=List.mem_map.mp hm
  exact h.1 (hf a List.mem_cons_self b (List.mem_cons_of_mem _ hb) e.symm▸hb)
theorem PD{f m j k:Nat}{M:Nat}(hM:m<=M)(hj:j<m)(hk:k<m)(e:(f+j) % M=(f+k) % M):j=k:=by
 have h:∀a b:Nat,a<=b->b<m->(f+a) % M=(f+b) % M->a=b:=λa b h1 h2 e=>by
  have:(f+b - (f+a)) % M=0:=Nat.sub_mod_eq_zero_of_mod_eq e.symm
  have e2:f+b - (f+a)=b - a:=by omega
  rw [e2,Nat.mod_eq_of_lt (by omega)] at this
  omega
 rcases Nat.le_total j k with h1 | h1
 ·exact h j k h1 hk e
 ·exact(h k j h1 hj e.symm).symm
theorem Gc(ss:List Str):DH (ss.map .str)=some ss:=by
 induction ss with
 | nil=>rfl
 | cons y r ih =>
  rw [List.map_cons]
  unfold DH
  rw [ih]
  rfl
theorem To:∀(zs:List Str),cs (Txt.join (Str.ofString "") zs)=zs.flatMap cs:=by
 intro zs
 show cs (Builtin.Str.glued (Str.ofString "") zs)=_
 rw [StrLaws.glued_eq_join]
 induction zs with
 | nil=>rfl
 | cons x r ih =>
  cases r with
  | nil=>rw [List.flatMap_cons,List.flatMap_nil,List.append_nil]; rfl
  | cons y r =>
   show cs (x++Str.ofString ""++Str.join (Str.ofString "") (y::r))=_
   rw [DA,DA,ih]
   show cs x++[]++_=_
   rw [List.append_nil]
   simp only [List.flatMap_cons]
theorem SA{zs:List Str}(h:∀z∈zs,z.length=1):(zs.flatMap cs).length=zs.length:=by
 induction zs with
 | nil=>rfl
 | cons x r ih =>
  rw [List.flatMap_cons,List.length_append,ih λz hz=>h z (List.mem_cons_of_mem _ hz),Do,h x List.mem_cons_self,List.length_cons]
  omega
theorem MQ:∀(ys:List Str),(∀y∈ys,y.length=1)->(ys.map (·.length)).sum=ys.length
 | [],_=>rfl
 | y::r,h=>by
  rw [List.map_cons,List.sum_cons,MQ r λz hz=>h z (List.mem_cons_of_mem _ hz),h y List.mem_cons_self,List.length_cons]
  omega
theorem drawn{P:List D->Nat->Prop}{m n:Nat}{s:Slot}(hn:m<=n)(h:∀zs:List Str,zs.length=m->(∀z∈zs,z.length=1/\∀c∈cs z,97<=c/\c<=122)->P (zs.map .str) (n - m)) :
  CL (AX 2) CM (AS A5 (AA 0) (Aa BF (AD (BE 1) (AD (AK (wC (D.int 26))) Ac)))) P (C2 0 m) [] n [.sh (.str letters),.fd,s]:=by
 refine KY (λk n' acc ρ=>k<=m/\n'=n - (m - k)/\(∃zs:List Str,acc=zs.map .str/\zs.length=m - k/\∀z∈zs,z.length=1/\∀c∈cs z,97<=c/\c<=122)/\∃s,ρ=[.sh (.str letters),.fd,s]) ?_ ?_ _ _ _ _ ?_
 ·rintro n' acc ρ ⟨_,rfl,⟨zs,rfl,hl,hz⟩,_⟩
  exact h zs hl hz
 ·rintro k d n' acc ρ nx ⟨hk,rfl,⟨zs,rfl,hl,hz⟩,s,rfl⟩ hnx
  refine⟨26,rfl,by decide,by decide,by omega,λr h0 h1=>?_⟩
  obtain⟨q,rfl⟩:∃q:Nat,r=(q:Int):=⟨r.toNat,by omega⟩
  have hq:q<26:=by omega
  refine⟨97+q,AL (JB q hq),hnx _ _ _ ⟨by omega,by omega,⟨zs++[⟨#[97+q]⟩],by rw [List.map_append]; rfl,by rw [List.length_append,List.length_singleton]; omega,λz hz'=>?_⟩,_,rfl⟩⟩
  rcases List.mem_append.mp hz' with hz' | hz'
  ·exact hz z hz'
  ·rw [List.mem_singleton.mp hz']
   refine⟨rfl,λc hc=>?_⟩
   have:c=97+q:=by simpa [cs] using hc
   omega
 ·rw [B_]
  exact⟨Nat.le_refl _,by omega,⟨[],rfl,by simp,λz hz=>by cases hz⟩,_,rfl⟩
theorem RC(i:Nat)(h:i<12):words[i]?=some (wordAt i):=by
 have hl:i<words.length:=h
 unfold wordAt
 rw [List.getD_eq_getElem?_getD,List.getElem?_eq_getElem hl]
 rfl
theorem ED{b:BW}{body:Al}{D2:E2}{all:List D}(I:List D->Nat->List Slot->Prop)(hend:∀n ρ,I all n ρ->D2.nx n ρ)
  (hstep:∀(pre:List D) (d:D) (post:List D) (n:Nat) (ρ:List Slot) (nx:Nat->List Slot->Prop),all=pre++d::post->I pre n ρ->(∀n' ρ',I (pre++[d]) n' ρ'->nx n' ρ')->b d ρ λρ1=>body { D2 with nx:=nx,ct:=nx,bk:=D2.nx } n ρ1) :
  ∀(ds pre:List D) (n:Nat) (ρ:List Slot),all=pre++ds->I pre n ρ->Bj b body D2 ds n ρ
 | [],pre,n,ρ,e,h=>by
  rw [List.append_nil] at e
  subst e
  exact hend n ρ h
 | d::ds,pre,n,ρ,e,h=>hstep pre d ds n ρ (Bj b body D2 ds) e h λn' ρ' h'=>ED I hend hstep ds (pre++[d]) n' ρ' (by rw [e,List.append_assoc]; rfl) h'
theorem Hw{lo:Int}{n:Nat}{pre post:List D}{d:D}(h:C2 lo n=pre++d::post):d=.int (lo+(pre.length:Int))/\pre.length<n:=by
 have hl:=congrArg List.length h
 rw [B_,List.length_append,List.length_cons] at hl
 have e:(C2 lo n)[pre.length]?=some d:=by rw [h,List.getElem?_append_right (Nat.le_refl _),Nat.sub_self]; rfl
 unfold C2 at e
 rw [List.getElem?_map,List.getElem?_range (by omega)] at e
 exact⟨(Option.some.inj e).symm,by omega⟩
theorem W1{r:Int}(h:r=0\/r=1):MulOk "z" r/\(Txt.mul "z" r).length<=1/\∀c∈cs (Txt.mul "z" r),97<=c/\c<=122:=by
 rcases h with rfl | rfl
 ·exact⟨⟨rfl,⟨λh=>absurd (by decide) h,λh=>absurd (by decide) h⟩⟩,by decide,by decide⟩
 ·exact⟨⟨rfl,⟨λ_ h=>absurd h (by decide),λ_ h=>absurd h (by decide)⟩⟩,by decide,by decide⟩
def nameAt(x:Str)(a f k:Nat):Str:=Txt.slice x none (some (a:Int))++⟨#[97+(f+k) % 26]⟩++Txt.slice x (some ((a:Int)+1)) (some 7)++Txt.mul "z" ((k:Int) % 2)
theorem G6{x:Str}{a f k:Nat}(hx:x.length=8)(ha:a<7):cs (nameAt x a f k)=(cs x).take a++(97+(f+k) % 26)::(((cs x).drop (a+1)).take (6 - a)++cs (Txt.mul "z" ((k:Int) % 2))):=by
 unfold nameAt
 rw [DA,DA,DA,Uc (by omega) (by omega),Vv (by omega) (by omega) (by omega)]
 have e1:((a:Int)).toNat=a:=by omega
 have e2:((a:Int)+1).toNat=a+1:=by omega
 have e3:(7 - ((a:Int)+1)).toNat=6 - a:=by omega
 rw [e1,e2,e3,List.append_assoc,List.append_assoc]
 rfl
theorem Mv{x:Str}{a f k:Nat}(hx:x.length=8)(hc:∀c∈cs x,97<=c/\c<=122)(ha:a<7):D1 (nameAt x a f k):=by
 have e:=G6 (f:=f) (k:=k) hx ha
 obtain⟨_,hz1,hz2⟩:=W1 (r:=(k:Int) % 2) (by omega)
 have hl:(nameAt x a f k).length=7+(Txt.mul "z" ((k:Int) % 2)).length:=by
  rw [← Do,e,List.length_append,List.length_cons,List.length_append,List.length_take,List.length_take,List.length_drop,Do,Do,hx]
  omega
 refine⟨by omega,by omega,λc h=>?_⟩
 rw [e] at h
 rcases List.mem_append.mp h with h | h
 ·exact hc c (List.mem_of_mem_take h)
 ·rcases List.mem_cons.mp h with rfl | h
  ·have:=Nat.mod_lt (f+k) (show 0<26 by decide)
   omega
  ·rcases List.mem_append.mp h with h | h
   ·exact hc c (List.mem_of_mem_drop (List.mem_of_mem_take h))
   ·exact hz2 c h
theorem OO{x:Str}{a f m j k:Nat}(hx:x.length=8)(ha:a<7)(hm:m<=26)(hj:j<m)(hk:k<m)(e:nameAt x a f j=nameAt x a f k):j=k:=by
 have e1:=congrArg cs e
 rw [G6 hx ha,G6 hx ha] at e1
 have hl:((cs x).take a).length=a:=by rw [List.length_take,Do,hx]; omega
 have e2:=congrArg (λl:List Nat=>l[a]?) e1
 have e2:((cs x).take a++(97+(f+j) % 26)::(((cs x).drop (a+1)).take (6 - a)++cs (Txt.mul "z" ((j:Int) % 2))))[a]?=((cs x).take a++(97+(f+k) % 26)::(((cs x).drop (a+1)).take (6 - a)++cs (Txt.mul "z" ((k:Int) % 2))))[a]?:=e2
 rw [List.getElem?_append_right (by omega),List.getElem?_append_right (by omega),hl,Nat.sub_self] at e2
 have e3:97+(f+j) % 26=97+(f+k) % 26:=Option.some.inj e2
 exact PD (f:=f) (M:=26) hm hj hk (by omega)
theorem QJ{ss:List Slot}{n:Nat}{Pd:D->Nat->Prop}(h:Gh ss n Pd):Fb { nx:=λn _=>Kd.fr=.sh/\Pd .non n,rt:=Pd } n (ss++List.replicate 9 .no):=by
 obtain⟨m,rfl,hm1,hm2,hn,p⟩:=h
 unfold Fb
 refine⟨3,rfl,by decide,by decide,by omega,λway hw0 hw1=>⟨(by decide:12<=sizeLine),?_⟩⟩
 have last:∀(n':Nat),n - 1<=n'->(Ae (A0 5 (wC (D.str "abcdefghijklmnopqrstuvwxyz")))
 (Ae (A0 6 (Xo "str" Sa (wC (D.str "")) (AF (BY [some 5,some 0,none] (EB (AF (wC (D.int 8)) AZ)) (AX 2) CM (AS A5 (AA 0) (Aa BF (AD (BE 1) (AD (AK (wC (D.int 26))) Ac))))) AZ)))
 (Ae (BD (HL (AO (AS (Gp false) (AA 2) (wC (D.int 1)))) (AO (AS Du (AA 1) (wC (D.int 9))))) (As (BY [some 6,none] (EB (AF (AA 1) AZ)) (AX 1) CM (Nx FR (AA 0) Co (Ck (AS A8 (wC (D.int 1)) (AA 1)))))) Au)
 (Ae (A0 7 (Aa BF (AD (BE 0) (AD (AK (wC (D.int 7))) Ac))))
 (Ae (A0 4 (Aa BF (AD (BE 0) (AD (AK (wC (D.int 26))) Ac))))
 (Ae (EX 8 (Ff AZ))
 (Ae (Ek (EB (AF (AA 1) AZ)) (AX 9) (Ae (A0 10 (AS A5 (AA 5) (AS (Pc (λ_ j=>0<j) λi j=>D.int (i % j)) (AS A8 (AA 4) (AA 9)) (wC (D.int 26)))))
 (P4 8 "list" Hr (AF (AS A8 (AS A8 (AS A8 (Nx FR (AA 6) Co (Ck (AA 7))) (AA 10)) (Nx FR (AA 6) (Ck (AS A8 (AA 7) (wC (D.int 1)))) (Ck (wC (D.int 7))))) (AS Ci (wC (D.str "z")) (AS (Pc (λ_ j=>0<j) λi j=>D.int (i % j)) (AA 9) (wC (D.int 2))))) AZ))))
 (As (DQ JL (AF (A7 8) AZ)))))))))) { nx:=λn _=>Kd.fr=.sh/\Pd .non n,rt:=Pd } n' [.fd,.sh (.int m),.sh (.int way),.sh (.lst (words.map .str)),.no,.no,.no,.no,.no,.no,.no]:=by
  intro n' hn'
  refine⟨rfl,8,rfl,⟨by decide,by decide⟩,by rw [B_]; decide,?_⟩
  refine drawn (m:=8) (by omega) λzs hz1 hz2=>?_
  have hone:∀z∈zs,z.length=1:=λz hz=>(hz2 z hz).1
  have hj:=To zs
  have hl8:(Txt.join (Str.ofString "") zs).length=8:=by rw [← Do,hj,SA hone,hz1]
  have hc:∀c∈cs (Txt.join (Str.ofString "") zs),97<=c/\c<=122:=λc hc=>by
   rw [hj] at hc
   obtain⟨z,hz,hcz⟩:=List.mem_flatMap.mp hc
   exact(hz2 z hz).2 c hcz
  refine⟨_,_,zs,rfl,rfl,Gc zs,by rw [MQ zs hone,show (Str.ofString "").length=0 from rfl]; omega,by omega,?_⟩
  generalize Txt.join (Str.ofString "") zs=x at hl8 hc
  have hx8:(cs x).length=8:=by rw [Do,hl8]
  have tail:∀(n2:Nat),n' - 8<=n2->(Ae (A0 7 (Aa BF (AD (BE 0) (AD (AK (wC (D.int 7))) Ac))))
 (Ae (A0 4 (Aa BF (AD (BE 0) (AD (AK (wC (D.int 26))) Ac))))
 (Ae (EX 8 (Ff AZ))
 (Ae (Ek (EB (AF (AA 1) AZ)) (AX 9) (Ae (A0 10 (AS A5 (AA 5) (AS (Pc (λ_ j=>0<j) λi j=>D.int (i % j)) (AS A8 (AA 4) (AA 9)) (wC (D.int 26)))))
 (P4 8 "list" Hr (AF (AS A8 (AS A8 (AS A8 (Nx FR (AA 6) Co (Ck (AA 7))) (AA 10)) (Nx FR (AA 6) (Ck (AS A8 (AA 7) (wC (D.int 1)))) (Ck (wC (D.int 7))))) (AS Ci (wC (D.str "z")) (AS (Pc (λ_ j=>0<j) λi j=>D.int (i % j)) (AA 9) (wC (D.int 2))))) AZ))))
 (As (DQ JL (AF (A7 8) AZ))))))) { nx:=λn _=>Kd.fr=.sh/\Pd .non n,rt:=Pd } n2 [.fd,.sh (.int m),.sh (.int way),.sh (.lst (words.map .str)),.no,.sh (.str letters),.sh (.str x),.no,.no,.no,.no]:=by
   intro n2 hn2
   refine⟨7,rfl,by decide,by decide,by omega,λa ha0 ha1=>⟨26,rfl,by decide,by decide,by omega,λfirst hf0 hf1=>⟨(by decide:0<=sizeLine),(m:Int),rfl,⟨by omega,by omega⟩,?_⟩⟩⟩
   obtain⟨a,rfl⟩:∃q:Nat,a=(q:Int):=⟨a.toNat,by omega⟩
   obtain⟨f,rfl⟩:∃q:Nat,first=(q:Int):=⟨first.toNat,by omega⟩
   have ha7:a<7:=by omega
   refine ED (all:=C2 0 ((m:Int)).toNat) (λpre n3 ρ=>n3=n2 - 1 - 1/\∃s9 s10,ρ=[.fd,.sh (.int m),.sh (.int way),.sh (.lst (words.map .str)),.sh (.int f),.sh (.str letters),.sh (.str x),.sh (.int a),.ow (.lst (((List.range pre.length).map λk=>nameAt x a f k).map .str)),s9,s10]) ?_ ?_ _ [] _ _ rfl ⟨rfl,_,_,rfl⟩
   ·rintro n3 ρ ⟨rfl,s9,s10,rfl⟩
    have el:(C2 0 ((m:Int)).toNat).length=m:=by rw [B_]; omega
    refine⟨_,_,rfl,Gc _,by rw [List.length_map,List.length_range,el]; omega,λss' hp hs=>p ss' _ ?_ ?_ ?_ (by omega)⟩
    ·rw [hp.length_eq,List.length_map,List.length_range,el]
    ·intro y hy
     obtain⟨k,_,rfl⟩:=List.mem_map.mp (hp.mem_iff.mp hy)
     exact Mv hl8 hc ha7
    ·refine FV hs (hp.nodup_iff.mpr (G5 List.nodup_range λj hj k hk e=>?_))
     rw [el] at hj hk
     exact OO hl8 ha7 hm2 (List.mem_range.mp hj) (List.mem_range.mp hk) e
   ·rintro pre d post n3 ρ nx hall ⟨rfl,s9,s10,rfl⟩ hnx
    obtain⟨rfl,hk⟩:=Hw hall
    have epre:(pre++[D.int (0+(pre.length:Int))]).length=pre.length+1:=by rw [List.length_append,List.length_singleton]
    rw [epre] at hnx
    generalize pre.length=k at hk hnx ⊢
    have hlt:(f+k) % 26<26:=Nat.mod_lt _ (by decide)
    have ei:((f:Int)+(0+(k:Int))) % 26=(((f+k) % 26:Nat):Int):=by omega
    have ek:(0+(k:Int)) % 2=(k:Int) % 2:=by omega
    obtain⟨hz0,hz1,_⟩:=W1 (r:=(0+(k:Int)) % 2) (by omega)
    have l1:=Txt.slice_le x none (some (a:Int))
    have l2:=Txt.slice_le x (some ((a:Int)+1)) (some 7)
    have la:=Str.length_append (Txt.slice x none (some (a:Int))) ⟨#[97+(f+k) % 26]⟩
    have lb:=Str.length_append (Txt.slice x none (some (a:Int))++⟨#[97+(f+k) % 26]⟩) (Txt.slice x (some ((a:Int)+1)) (some 7))
    have ls:(⟨#[97+(f+k) % 26]⟩:Str).length=1:=rfl
    have hsz:=PySem.sizeLine_eq
    refine⟨by show (0:Int)<26; decide,97+(f+k) % 26,by rw [ei]; exact AL (JB _ hlt),?_⟩
    refine⟨_,rfl,rfl,by omega,by omega,by show (0:Int)<2; decide,hz0,by omega,by omega,?_⟩
    refine⟨_,_,rfl,rfl,by rw [List.length_map,List.length_map,List.length_range]; omega,hnx _ _ ⟨rfl,.sh (.int (0+(k:Int))),.sh (.str ⟨#[97+(f+k) % 26]⟩),?_⟩⟩
    rw [ek,List.range_succ,List.map_append,List.map_append]
    rfl
  refine CW (λc1=>CW (λc2=>?_) λc2=>tail _ (Nat.le_refl _)) λc1=>CW (λc2=>absurd c2 (by decide)) λ_=>tail _ (Nat.le_refl _)
  have hm9:m<9:=by
   have:(m:Int)<9:=of_decide_eq_true c2
   omega
  refine⟨(m:Int),rfl,⟨by omega,by omega⟩,by rw [B_]; omega,?_⟩
  refine Fl (g:=λd=>match d with | .int k=>.str (Txt.slice x none (some (1+k))) | _=>.non) (λρ=>∃s,ρ=[.sh (.str x),s]) ?_ _ _ _ _ ?_ ⟨_,rfl⟩ ?_
  ·rintro d ρ ⟨s,rfl⟩
   exact⟨_,rfl⟩
  ·rintro d hd ρ n' P' ⟨s,rfl⟩ hp
   obtain⟨k,hk,rfl⟩:=Ie hd
   exact hp
  ·have e:[]++(C2 0 ((m:Int)).toNat).map (λd=>match d with | .int k=>D.str (Txt.slice x none (some (1+k))) | _=>.non)=((List.range m).map λk:Nat=>Txt.slice x none (some (1+(k:Int)))).map .str:=by
    unfold C2
    rw [List.nil_append,List.map_map,List.map_map,Int.toNat_natCast]
    refine List.map_congr_left λk _=>?_
    have:(0+(k:Int))=k:=by omega
    simp only [Function.comp,this]
   have ct:∀k:Nat,k<m->cs (Txt.slice x none (some (1+(k:Int))))=(cs x).take (1+k):=λk hk=>by
    rw [Uc (by omega) (by omega),show (1+(k:Int)).toNat=1+k by omega]
   rw [e]
   refine p _ _ (by rw [List.length_map,List.length_range]) ?_ ?_ (by omega)
   ·intro y hy
    obtain⟨k,hk,rfl⟩:=List.mem_map.mp hy
    have hk:=List.mem_range.mp hk
    have hl:(Txt.slice x none (some (1+(k:Int)))).length=1+k:=by
     rw [← Do,ct k hk,List.length_take,hx8]; omega
    exact⟨by omega,by omega,λc h=>hc c (List.mem_of_mem_take (by rw [← ct k hk]; exact h))⟩
   ·unfold rising
    rw [List.pairwise_map]
    refine List.Pairwise.imp_of_mem ?_ List.pairwise_lt_range
    intro i j hi hj hij
    rw [ct i (List.mem_range.mp hi),ct j (List.mem_range.mp hj)]
    exact Ov _ _ _ (by omega) (by rw [hx8]; have:=List.mem_range.mp hj; omega)
 refine CW (λc1=>CW (λc2=>?_) λc2=>last _ (Nat.le_refl _)) λc1=>CW (λc2=>absurd c2 (by decide)) λ_=>last _ (Nat.le_refl _)
 have hm13:m<13:=by
  have:(m:Int)<13:=of_decide_eq_true c2
  omega
 refine⟨12,rfl,by decide,by decide,by omega,λfirst h0 h1=>?_⟩
 obtain⟨f,rfl⟩:∃f:Nat,first=(f:Int):=⟨first.toNat,by omega⟩
 refine⟨(m:Int),rfl,⟨by omega,by omega⟩,by rw [B_]; omega,?_⟩
 refine Fl (g:=λd=>match d with | .int k=>.str (wordAt ((f+k.toNat) % 12)) | _=>.non) (λρ=>∃s,ρ=[.sh (.lst (words.map .str)),.sh (.int f),s]) ?_ _ _ _ _ ?_ ⟨_,rfl⟩ ?_
 ·rintro d ρ ⟨s,rfl⟩
  exact⟨_,rfl⟩
 ·rintro d hd ρ n' P' ⟨s,rfl⟩ hp
  obtain⟨k,hk,rfl⟩:=Ie hd
  refine⟨by show (0:Int)<12; decide,D.str (wordAt ((f+k) % 12)),?_,?_⟩
  ·have hlt:(f+k) % 12<12:=Nat.mod_lt _ (by decide)
   have ei:((f:Int)+(0+(k:Int))) % 12=(((f+k) % 12:Nat):Int):=by omega
   rw [ei]
   exact AL (by rw [List.getElem?_map,RC _ hlt]; rfl)
  ·have e:(0+(k:Int)).toNat=k:=by omega
   simp only [e] at hp
   exact hp
 ·have e:[]++(C2 0 ((m:Int)).toNat).map (λd=>match d with | .int k=>D.str (wordAt ((f+k.toNat) % 12)) | _=>.non)=((List.range m).map λk=>wordAt ((f+k) % 12)).map .str:=by
   unfold C2
   rw [List.nil_append,List.map_map,List.map_map,Int.toNat_natCast]
   refine List.map_congr_left λk _=>?_
   have:(0+(k:Int)).toNat=k:=by omega
   simp only [Function.comp,this]
  refine⟨_,(List.range m).map λk=>wordAt ((f+k) % 12),rfl,by rw [e]; exact Gc _,by rw [List.length_map,List.length_range]; omega,λss' hp hs=>p ss' _ ?_ ?_ ?_ (by omega)⟩
  ·rw [hp.length_eq,List.length_map,List.length_range]
  ·intro x hx
   obtain⟨k,_,rfl⟩:=List.mem_map.mp (hp.mem_iff.mp hx)
   exact Nw _ (Nat.mod_lt _ (by decide))
  ·refine FV hs (hp.nodup_iff.mpr (G5 List.nodup_range λj hj k hk e=>?_))
   exact PD (M:=12) (by omega) (List.mem_range.mp hj) (List.mem_range.mp hk) (P1 _ _ (Nat.mod_lt _ (by decide)) (Nat.mod_lt _ (by decide)) e)
structure BC where
 a:Str
 b:Str
 len:Int
structure Net where
 ps:List Str
 ts:List BC
def AW(t:BC):D:=.tup [.str t.a,.str t.b,.int t.len]
def enc(N:Net):D:=.tup [.tup (N.ps.map .str),.tup (N.ts.map AW)]
def Bv(s t:BC):Prop:=cs s.a<cs t.a\/(s.a=t.a/\cs s.b<cs t.b)
structure Net.Ok (N:Net):Prop where
 names:∀x∈N.ps,D1 x
 rise:rising N.ps
 tin:∀t∈N.ts,t.a∈N.ps/\t.b∈N.ps/\cs t.a<cs t.b/\1<=t.len/\t.len<=1000000
 trise:N.ts.Pairwise Bv
def S1:W2:=λss n P=>∃most ties:Nat,ss=[.fd,.sh (.int most),.sh (.int ties)]/\1<=most/\most<=26/\1500<=n/\∀(N:Net) (n':Nat),N.Ok->1<=N.ps.length->N.ps.length<=most->N.ts.length<=ties->n - 1500<=n'->P (enc N) n'
def Jc:Al:=(Ae (A0 3 (Aa Gh (AD (BE 0) (AD (AK (AS A8 (wC (D.int 1)) (Aa BF (AD (BE 0) (AD (AK (AA 1)) Ac))))) Ac))))
 (Ae (A0 4 (AS A8 (wC (D.int 1)) (Aa BF (AD (BE 0) (AD (AK (wC (D.int 3))) Ac)))))
 (Ae (A0 5 (Aa BF (AD (BE 0) (AD (AK (wC (D.int 4))) Ac))))
 (Ae (EX 6 (Ff AZ))
 (Ae (Ek (EB (AF (DQ Ee (AF (AA 3) AZ)) AZ)) (AX 7) (Ek (RF (AF (AS A8 (AA 7) (wC (D.int 1))) (AF (DQ Ee (AF (AA 3) AZ)) AZ))) (AX 8) (BD (HL (AO (AS Qv (Aa BF (AD (BE 0) (AD (AK (wC (D.int 4))) Ac))) (AA 4))) (AO (AS Du (DQ Ee (AF (A7 6) AZ)) (AA 2)))) (P4 6 "list" Hr (AF (Bt (AF (AS A5 (AA 3) (AA 7)) (AF (AS A5 (AA 3) (AA 8)) (AF (Aa S2 (AD (BE 0) (AD (AK (AA 5)) Ac))) AZ)))) AZ)) Au)))
 (As (Bt (AF (DQ CU (AF (AA 3) AZ)) (AF (DQ CU (AF (A7 6) AZ)) AZ)))))))))
structure Ix where
 i:Nat
 j:Nat
 len:Int
def Ix.tie(xs:List Str)(t:Ix):BC:=⟨xs.getD t.i "",xs.getD t.j "",t.len⟩
def Vd(s t:Ix):Prop:=s.i<t.i\/(s.i=t.i/\s.j<t.j)
theorem getD_at{xs:List Str}{i:Nat}(h:i<xs.length):xs[i]?=some (xs.getD i ""):=by
 rw [List.getD_eq_getElem?_getD,List.getElem?_eq_getElem h]
 rfl
theorem getD_mem{xs:List Str}{i:Nat}(h:i<xs.length):xs.getD i ""∈xs:=List.mem_of_getElem? (getD_at h)
theorem LK{xs:List Str}(h:rising xs){i j:Nat}(hij:i<j)(hj:j<xs.length):cs (xs.getD i "")<cs (xs.getD j ""):=by
 have h2:=List.pairwise_iff_getElem.mp h i j (by omega) hj hij
 have e1:xs.getD i ""=xs[i]:=by rw [List.getD_eq_getElem?_getD,List.getElem?_eq_getElem (by omega)]; rfl
 have e2:xs.getD j ""=xs[j]:=by rw [List.getD_eq_getElem?_getD,List.getElem?_eq_getElem hj]; rfl
 rw [e1,e2]
 exact h2
theorem VS{xs:List Str}{ts:List Ix}(hn:∀x∈xs,D1 x)(hr:rising xs)(ht:∀t∈ts,t.i<t.j/\t.j<xs.length/\1<=t.len/\t.len<=1000000)(hp:ts.Pairwise Vd):Net.Ok ⟨xs,ts.map (Ix.tie xs)⟩:=by
 refine⟨hn,hr,λt h=>?_,?_⟩
 ·obtain⟨u,hu,rfl⟩:=List.mem_map.mp h
  obtain⟨h1,h2,h3,h4⟩:=ht u hu
  exact⟨getD_mem (show u.i<xs.length by omega),getD_mem h2,LK hr h1 h2,h3,h4⟩
 ·show (ts.map (Ix.tie xs)).Pairwise Bv
  rw [List.pairwise_map]
  refine List.Pairwise.imp_of_mem (λ{s t} hs ht' h=>?_) hp
  obtain⟨h1,h2,_⟩:=ht s hs
  obtain⟨g1,g2,_⟩:=ht t ht'
  rcases h with h | ⟨h,h'⟩
  ·exact .inl (LK hr h (by omega))
  ·refine .inr ⟨?_,LK hr h' g2⟩
   show xs.getD s.i ""=xs.getD t.i ""
   rw [h]
theorem U7{ss:List Slot}{n:Nat}{Pd:D->Nat->Prop}(h:S1 ss n Pd):Jc { nx:=λn _=>Kd.sh=.sh/\Pd .non n,rt:=Pd } n (ss++List.replicate 6 .no):=by
 obtain⟨most,ties,rfl,hm1,hm2,hn,p⟩:=h
 unfold Jc
 refine⟨_,rfl,by omega,by omega,by omega,λr h0 h1=>?_⟩
 refine⟨(1+r).toNat,by rw [show (((1+r).toNat:Nat):Int)=1+r by omega],by omega,by omega,by omega,λxs n1 hl hx hr hn1=>?_⟩
 refine⟨3,rfl,by decide,by decide,by omega,λfew f0 f1=>⟨4,rfl,by decide,by decide,by omega,λscale s0 s1=>⟨(by decide:0<=sizeLine),?_⟩⟩⟩
 have hxl:(xs.map D.str).length=xs.length:=List.length_map ..
 refine⟨_,_,rfl,rfl,_,rfl,⟨by omega,by omega⟩,?_⟩
 refine ED (all:=C2 0 (((xs.map D.str).length:Int)).toNat) (λpre m ρ=>n1 - 1 - 1 - 52*pre.length<=m/\∃(ts:List Ix) (s7 s8:Slot),(∀t∈ts,t.i<t.j/\t.j<xs.length/\1<=t.len/\t.len<=1000000)/\ts.Pairwise Vd/\ts.length<=ties/\(∀t∈ts,t.i<pre.length)/\ts.length<=26*pre.length /\
  ρ=[.fd,.sh (.int most),.sh (.int ties),.sh (.lst (xs.map .str)),.sh (.int (1+few)),.sh (.int scale),.ow (.lst ((ts.map (Ix.tie xs)).map AW)),s7,s8]) ?_ ?_ _ [] _ _ rfl ⟨by simp,[],_,_,(λ_ h=>by cases h),List.Pairwise.nil,Nat.zero_le _,(λ_ h=>by cases h),Nat.zero_le _,rfl⟩
 ·rintro m ρ ⟨hm,ts,s7,s8,h1,h2,h3,h4,h5,rfl⟩
  have el:(C2 0 (((xs.map D.str).length:Int)).toNat).length=xs.length:=by rw [B_]; omega
  rw [el] at hm
  refine⟨(by decide:2<=sizeLine),p ⟨xs,ts.map (Ix.tie xs)⟩ m (VS hx hr h1 h2) (by show 1<=xs.length; omega) (by show xs.length<=most; omega) (by show (ts.map (Ix.tie xs)).length<=ties; rw [List.length_map]; exact h3) (by omega)⟩
 ·rintro pre d post m ρ nx hall ⟨hm,ts,s7,s8,h1,h2,h3,h4,h5,rfl⟩ hnx
  obtain⟨rfl,hk⟩:=Hw hall
  have epre:(pre++[D.int (0+(pre.length:Int))]).length=pre.length+1:=by rw [List.length_append,List.length_singleton]
  rw [epre] at hnx
  generalize pre.length=one at hk hnx hm h4 h5 ⊢
  rw [hxl] at hk
  refine⟨_,_,rfl,rfl,_,_,rfl,⟨by omega,by omega,by omega,by omega⟩,?_⟩
  refine ED (all:=C2 (0+(one:Int)+1) ((((xs.map D.str).length:Int)) - (0+(one:Int)+1)).toNat) (λpre m ρ=>n1 - 1 - 1 - 52*one - 2*pre.length<=m/\∃(ts:List Ix) (s8:Slot),(∀t∈ts,t.i<t.j/\t.j<xs.length/\1<=t.len/\t.len<=1000000)/\ts.Pairwise Vd/\ts.length<=ties/\(∀t∈ts,t.i<one\/(t.i=one/\t.j<one+1+pre.length))/\ts.length<=26*one+pre.length /\
   ρ=[.fd,.sh (.int most),.sh (.int ties),.sh (.lst (xs.map .str)),.sh (.int (1+few)),.sh (.int scale),.ow (.lst ((ts.map (Ix.tie xs)).map AW)),.sh (.int (0+(one:Int))),s8]) ?_ ?_ _ [] _ _ rfl ⟨by simpa using hm,ts,_,h1,h2,h3,λt ht=>.inl (h4 t ht),by simpa using h5,rfl⟩
  ·rintro m ρ ⟨hm,ts,s8,h1,h2,h3,h4,h5,rfl⟩
   rw [B_] at hm h5
   refine hnx _ _ ⟨by omega,ts,_,_,h1,h2,h3,λt ht=>?_,by omega,rfl⟩
   rcases h4 t ht with h | h <;> omega
  ·rintro pre2 d2 post2 m ρ nx2 hall2 ⟨hm,ts,s8,h1,h2,h3,h4,h5,rfl⟩ hnx2
   obtain⟨rfl,hk2⟩:=Hw hall2
   rw [List.length_append,List.length_singleton] at hnx2
   generalize pre2.length=q at hk2 hnx2 hm h4 h5 ⊢
   have hq:one+1+q<xs.length:=by omega
   have skip:nx2 (m - 1) [.fd,.sh (.int most),.sh (.int ties),.sh (.lst (xs.map .str)),.sh (.int (1+few)),.sh (.int scale),.ow (.lst ((ts.map (Ix.tie xs)).map AW)),.sh (.int (0+(one:Int))),.sh (.int (0+(one:Int)+1+(q:Int)))]:=by
    refine hnx2 _ _ ⟨by omega,ts,_,h1,h2,h3,λt ht=>?_,by omega,rfl⟩
    rcases h4 t ht with h | h
    ·exact .inl h
    ·exact .inr (by omega)
   refine⟨4,rfl,by decide,by decide,by omega,λdr d0 d1=>?_⟩
   refine CW (λc1=>⟨_,_,rfl,rfl,CW (λc2=>?_) λc2=>skip⟩) λc1=>CW (λc2=>absurd c2 (by decide)) λ_=>skip
   have hlt:ts.length<ties:=by
    have:(((ts.map (Ix.tie xs)).map AW).length:Int)<(ties:Int):=of_decide_eq_true c2
    rw [List.length_map,List.length_map] at this
    omega
   refine⟨_,rfl,rfl,D.str (xs.getD one ""),?_,D.str (xs.getD (one+1+q) ""),?_,scale,rfl,by omega,λlen l1 l2=>⟨(by decide:3<=sizeLine),_,_,rfl,rfl,?_,?_⟩⟩
   ·rw [show (0+(one:Int))=((one:Nat):Int) by omega]
    exact AL (by rw [List.getElem?_map,getD_at hk]; rfl)
   ·rw [show (0+(one:Int)+1+(q:Int))=((one+1+q:Nat):Int) by omega]
    exact AL (by rw [List.getElem?_map,getD_at hq]; rfl)
   ·rw [List.length_map,List.length_map,PySem.sizeLine_eq]; omega
   ·refine hnx2 _ _ ⟨by omega,ts++[⟨one,one+1+q,len⟩],.sh (.int (0+(one:Int)+1+(q:Int))),λt ht=>?_,?_,by rw [List.length_append,List.length_singleton]; omega,λt ht=>?_,by rw [List.length_append,List.length_singleton]; omega,?_⟩
    ·rcases List.mem_append.mp ht with ht | ht
     ·exact h1 t ht
     ·rw [List.mem_singleton.mp ht]
      exact⟨by show one<one+1+q; omega,hq,l1,l2⟩
    ·rw [List.pairwise_append]
     refine⟨h2,List.pairwise_singleton _ _,λs hs t ht=>?_⟩
     rw [List.mem_singleton.mp ht]
     rcases h4 s hs with h | h
     ·exact .inl h
     ·exact .inr h
    ·rcases List.mem_append.mp ht with ht | ht
     ·rcases h4 t ht with h | h
      ·exact .inl h
      ·exact .inr (by omega)
     ·rw [List.mem_singleton.mp ht]
      exact .inr ⟨rfl,by show one+1+q<one+1+(q+1); omega⟩
    ·rw [List.map_append,List.map_append]
     rfl
abbrev EE(Pd:D->Nat->Prop):E2:={ nx:=λn _=>Kd.sh=.sh/\Pd .non n,rt:=Pd }
theorem BB{b:BW}{te:DW}{P:List D->Nat->Prop}(g:D->D)(I:List Slot->Prop):∀(ds acc:List D) (n:Nat) (ρ:List Slot),
  (∀d∈ds,∀(ρ:List Slot) (n:Nat) (nx:D->Nat->List Slot->Prop),I ρ->(∀ρ',I ρ'->nx (g d) n ρ')->b d ρ λρ1=>te n ρ1 λy n2=>nx y n2 ρ1)->I ρ->P (acc++ds.map g) n->CL b CM te P ds acc n ρ
 | [],acc,n,ρ,_,_,h=>by rw [List.map_nil,List.append_nil] at h; exact h
 | d::ds,acc,n,ρ,ht,hρ,h=>ht d List.mem_cons_self ρ n (λy n2 ρ1=>CL b CM te P ds (acc++[y]) n2 ρ1) hρ λρ' hρ' =>
  BB g I ds (acc++[g d]) n ρ' (λd hd=>ht d (List.mem_cons_of_mem _ hd)) hρ' (by rw [List.append_assoc]; exact h)
theorem NK{α:Type}{l:List α}{p:α->Bool}{P:D->Prop}(h:P (.bl (l.all p))):NL [.lst (l.map λa=>.bl (p a))] P :=
 ⟨_,_,rfl,Gd p l,by rw [List.all_map]; exact h⟩
theorem Jf{b1 b2:Bool}{P:D->Nat->Prop}{n:Nat}{k:(D->Nat->Prop)->Prop}(hk:b1=true->P (.bl b2) n->k P)(h:P (.bl (b1&&b2)) n):(match (.bl b1:D) with | .bl true=>k P | .bl false=>P (.bl false) n | _=>False):=Sv hk h
abbrev Wb(g:D->Bool):W2:=UU 1 λds=>.bl (g (ds.getD 0 .non))
theorem Wb.out{g:D->Bool}{ss:List Slot}{n:Nat}{P:D->Nat->Prop}(h:Wb g ss n P):∃d,ss=[.sh d]/\P (.bl (g d)) n:=by
 obtain⟨ds,hl,rfl,h⟩:=h
 match ds,hl with
 | [d],_=>exact⟨d,rfl,h⟩
def RD:D->Bool
 | .int _=>true
 | _=>false
def GF:D->Bool
 | .int i=>decide (1<=i)&&decide (i<=1000000)
 | _=>false
def tupleOfB(k:Int):D->Bool
 | .tup xs=>((xs.length:Int)==k)
 | _=>false
def CB:D->Bool
 | .str x=>(decide (1<=x.length)&&decide (x.length<=8))&&(cs x).all λc=>decide (97<=c)&&decide (c<=122)
 | _=>false
def Gn(d e:D):Option Bool:=match d,e with
 | .int i,.int j=>some (decide (i<j))
 | .str i,.str j=>some (decide (cs i<cs j))
 | .tup xs,.tup ys=>match GK xs,GK ys with
  | some ks,some ls=>if CV ks ls then some (ER ks ls) else none
  | _,_=>none
 | _,_=>none
theorem Pa{d e:D}{b:Bool}{P:D->Prop}(h:Gn d e=some b)(p:P (.bl b)):Du d e P:=by
 unfold Gn at h
 split at h
 ·cases h; exact p
 ·cases h; exact p
 ·rename_i xs ys
  split at h
  ·rename_i ks ls h1 h2
   split at h
   ·rename_i hs
    cases h
    exact⟨ks,ls,h1,h2,hs,p⟩
   ·cases h
  ·cases h
 ·cases h
def Jh:List D->Bool
 | x::y::r=>(Gn x y==some true)&&Jh (y::r)
 | _=>true
abbrev Jk:W2:=Wb RD
abbrev He:W2:=Wb CB
abbrev Ds:W2:=λss n P=>∃k d,ss=[.sh (.int k),.sh d]/\P (.bl (tupleOfB k d)) n
abbrev Cs:W2:=λss n P=>∃d xs,ss=[.sh d]/\Hg d=some xs/\xs.length<=1000/\(∀x∈xs,∀y∈xs,∃b,Gn x y=some b)/\P (.bl (Jh xs)) n
def Od:Al:=(As (Jp (Ej "int" (AA 0)) (Up (Ej "bool" (AA 0)))))
def KC:Al:=(As (Jp (Ej "tuple" (AA 1)) (AS (Gp false) (DQ Ee (AF (AA 1) AZ)) (AA 0))))
def Ng:Al:=(As (DQ NL (AF (BY [none,none] (S_ (AF (AA 0) (AF (Nx FR (AA 0) (Ck (wC (D.int 1))) Co) AZ))) (D6 2 (Ao (AX 0) (Ao (AX 1) CS))) CM (AS Du (AA 0) (AA 1))) AZ)))
section
variable {ss:List Slot}{n:Nat}{Pd:D->Nat->Prop}
theorem Ma(h:Jk ss n Pd):Od (EE Pd) n (ss++List.replicate 0 .no):=by
 obtain⟨d,rfl,q⟩:=h.out
 cases d <;> exact q
theorem Im(h:Ds ss n Pd):KC (EE Pd) n (ss++List.replicate 0 .no):=by
 obtain⟨k,d,rfl,h⟩:=h
 cases d with
 | tup xs=>exact⟨_,_,rfl,rfl,h⟩
 | _=>exact h
theorem QB(x:Str):(Dp.signs x).length=x.length:=by unfold Dp.signs; rw [List.length_map]; exact Do x
theorem Vu{α:Type}(xs:List α):Dp.cutD xs (some 1) none=xs.drop 1:=by
 unfold Dp.cutD
 rw [HT.sIx_none,show (1:Int)=((1:Nat):Int) from rfl,HT.sIx_nat]
 by_cases h:1<=xs.length
 ·rw [Nat.min_eq_left h]
  exact List.take_of_length_le (by rw [List.length_drop]; exact Nat.le_refl _)
 ·have:xs=[]:=List.length_eq_zero_iff.mp (by omega)
  subst this
  rfl
theorem Ps:∀xs:List D,((EA xs (xs.drop 1)).all λd=>match d with | .tup [a,b]=>Gn a b==some true | _=>false)=Jh xs
 | []=>rfl
 | [x]=>rfl
 | x::y::r=>by
  have ih:=Ps (y::r)
  show ((EA (x::y::r) (y::r)).all _)=_
  unfold EA Jh
  rw [List.zipWith_cons_cons,List.all_cons]
  congr 1
theorem S8{xs ys:List D}{d:D}(h:d∈EA xs ys):∃a∈xs,∃b∈ys,d=.tup [a,b]:=by
 unfold EA at h
 obtain⟨i,hi⟩:=List.getElem?_of_mem h
 rw [List.getElem?_zipWith] at hi
 cases q1:xs[i]? with
 | none=>rw [q1] at hi; simp at hi
 | some a =>
  cases q2:ys[i]? with
  | none=>rw [q1,q2] at hi; simp at hi
  | some b =>
   rw [q1,q2] at hi
   exact⟨a,List.mem_of_getElem? q1,b,List.mem_of_getElem? q2,(Option.some.inj hi).symm⟩
theorem LQ(h:Cs ss n Pd):Ng (EE Pd) n (ss++List.replicate 0 .no):=by
 obtain⟨d,xs,rfl,hd,hl,hlt,h⟩:=h
 have go:(EA xs (xs.drop 1)).length<=10000000/\CL (D6 2 (Ao (AX 0) (Ao (AX 1) CS))) CM (AS Du (AA 0) (AA 1)) (λacc n2=>NL [.lst acc] λz=>Pd z n2) (EA xs (xs.drop 1)) [] n [.no,.no]:=by
  refine⟨by unfold EA; rw [List.length_zipWith]; omega,?_⟩
  refine BB (λd=>.bl (match d with | .tup [a,b]=>Gn a b==some true | _=>false)) (λρ=>∃s t,ρ=[s,t]) _ _ _ _ ?_ ⟨_,_,rfl⟩ ?_
  ·rintro z hz ρ m nx ⟨s,t,rfl⟩ hnx
   obtain⟨a,ha,b,hb,rfl⟩:=S8 hz
   obtain⟨r,hr⟩:=hlt a ha b (List.mem_of_mem_drop hb)
   refine⟨rfl,rfl,?_⟩
   show Du a b λy=>nx y m [.sh a,.sh b]
   refine Pa hr ?_
   have this:nx (.bl (Gn a b==some true)) m [.sh a,.sh b]:=hnx [.sh a,.sh b] ⟨_,_,rfl⟩
   rw [hr] at this
   cases r <;> exact this
  ·rw [List.nil_append]
   refine NK (p:=fun(d:D)=>match d with | .tup [a,b]=>Gn a b==some true | _=>false) ?_
   rw [Ps]
   exact h
 cases d with
 | lst ys =>
  cases hd
  exact⟨_,_,xs,xs.drop 1,rfl,rfl,by rw [Vu]; rfl,go⟩
 | tup ys =>
  cases hd
  exact⟨_,_,xs,xs.drop 1,rfl,rfl,by rw [Vu]; rfl,go⟩
 | _=>cases hd
end
def Gv:D->Bool
 | .tup [a,b,c]=>(CB a&&CB b)&&((Gn a b==some true)&&GF c)
 | _=>false
def Hy:D->Bool
 | .tup xs=>decide (xs.length<=24)&&(xs.all CB&&Jh xs)
 | _=>false
def D4(ps:List Str):D->Bool
 | .tup [.str a,.str b,_]=>ps.any (·==a)&&ps.any (·==b)
 | _=>false
def E4:D->D
 | .tup (a::b::_)=>.tup [a,b]
 | d=>d
def UE(ps:List Str):D->Bool
 | .tup ts=>decide (ts.length<=60)&&(ts.all Gv&&(ts.all (D4 ps)&&Jh (ts.map E4)))
 | _=>false
def strsOf(xs:List D):List Str:=(DH xs).getD []
def N1(p t:D):Bool:=match p with
 | .tup xs=>UE (strsOf xs) t
 | _=>false
def ON:D->Bool
 | .tup [p,t]=>Hy p&&N1 p t
 | _=>false
abbrev Nm:W2:=Wb ON
theorem Sx{α:Type}(p:α->Bool)(l:List α):(l.map p).all id=l.all p:=by rw [List.all_map]; rfl
theorem nameB_iff{d:D}:CB d=true↔∃x,d=.str x/\D1 x:=by
 cases d with
 | str x =>
  simp only [CB,D1,Bool.and_eq_true,decide_eq_true_eq,List.all_eq_true]
  constructor
  ·intro h; exact⟨x,rfl,h.1.1,h.1.2,h.2⟩
  ·rintro ⟨y,e,h1,h2,h3⟩; cases e; exact⟨⟨h1,h2⟩,h3⟩
 | _=>exact⟨(λh=>by cases h),fun⟨x,e,_⟩=>(by cases e)⟩
theorem MR{x:Str}(h:∀c∈cs x,c<1114112):PyData.strOk x=true:=by
 unfold PyData.strOk
 rw [← Array.all_toList,List.all_eq_true]
 intro c hc
 exact decide_eq_true (h c hc)
theorem GI{x:Str}(h:D1 x):EH (.str x):=⟨rfl,MR λc hc=>by have:=h.2.2 c hc; omega,Nat.zero_le _⟩
theorem ND{ps:List Str}(h:∀p∈ps,D1 p):Df (ps.map .str)=true/\PyData.canLayAll0 (A1 (ps.map .str))=true/\PyData.depthAll (A1 (ps.map .str))=0:=by
 induction ps with
 | nil=>exact⟨rfl,rfl,rfl⟩
 | cons p r ih =>
  obtain⟨h1,h2,h3⟩:=ih λq hq=>h q (List.mem_cons_of_mem _ hq)
  have hp:=GI (h p List.mem_cons_self)
  refine⟨by rw [List.map_cons,Df,h1]; rfl,?_,?_⟩
  ·rw [List.map_cons,A1,PyData.canLayAll0,h2,Bool.and_true]
   exact hp.2.1
  ·rw [List.map_cons,A1,PyData.depthAll,h3]
   rfl
theorem EG{ps:List Str}(h:∀p∈ps,D1 p):EH (.tup (ps.map .str)):=by
 obtain⟨h1,h2,h3⟩:=ND h
 refine⟨h1,h2,?_⟩
 show PyData.depthAll (A1 (ps.map .str))+1<=100
 rw [h3]; decide
theorem H_(x y:Str):Gn (.str x) (.str y)=some (decide (cs x<cs y)):=rfl
theorem Mu{xs:List D}(h:xs.all CB=true):∃ps:List Str,xs=ps.map .str/\∀p∈ps,D1 p:=by
 induction xs with
 | nil=>exact⟨[],rfl,λp hp=>by cases hp⟩
 | cons d r ih =>
  rw [List.all_cons,Bool.and_eq_true] at h
  obtain⟨ps,e,hp⟩:=ih h.2
  obtain⟨x,rfl,hx⟩:=nameB_iff.mp h.1
  refine⟨x::ps,by rw [List.map_cons,e],λp hq=>?_⟩
  rcases List.mem_cons.mp hq with rfl | hq
  ·exact hx
  ·exact hp p hq
theorem Cu(ps:List Str):strsOf (ps.map .str)=ps:=by unfold strsOf; rw [Gc]; rfl
section
variable {ss:List Slot}{n:Nat}{Pd:D->Nat->Prop}
theorem Xq{d:D}(h:tupleOfB 3 d=true):∃a b c,d=.tup [a,b,c]:=by
 cases d with
 | tup xs =>
  have:(xs.length:Int)=3:=eq_of_beq h
  match xs,this with
  | [a,b,c],_=>exact⟨a,b,c,rfl⟩
  | [],h=>cases h
  | [_],h=>cases h
  | [_,_],h=>cases h
  | _::_::_::_::r,h=>simp only [List.length_cons] at h; omega
 | _=>cases h
theorem Uu{d:D}(h:tupleOfB 2 d=true):∃a b,d=.tup [a,b]:=by
 cases d with
 | tup xs =>
  have:(xs.length:Int)=2:=eq_of_beq h
  match xs,this with
  | [a,b],_=>exact⟨a,b,rfl⟩
  | [],h=>cases h
  | [_],h=>cases h
  | _::_::_::r,h=>simp only [List.length_cons] at h; omega
 | _=>cases h
theorem Xz{d:D}(h:tupleOfB 3 d=false):Gv d=false:=by
 cases d with
 | tup xs =>
  match xs,h with
  | [a,b,c],h=>cases h
  | [],_=>rfl
  | [_],_=>rfl
  | [_,_],_=>rfl
  | _::_::_::_::r,_=>rfl
 | _=>rfl
theorem Wz{d:D}(h:tupleOfB 2 d=false):ON d=false:=by
 cases d with
 | tup xs =>
  match xs,h with
  | [a,b],h=>cases h
  | [],_=>rfl
  | [_],_=>rfl
  | _::_::_::r,_=>rfl
 | _=>rfl
theorem K4{d:D}(h:Gv d=true):∃x y l,d=.tup [.str x,.str y,.int l]/\D1 x/\D1 y/\cs x<cs y/\1<=l/\l<=1000000:=by
 cases d with
 | tup xs =>
  match xs,h with
  | [a,b,c],h =>
   have h':((CB a&&CB b)&&((Gn a b==some true)&&GF c))=true:=h
   simp only [Bool.and_eq_true] at h'
   obtain⟨x,rfl,hx⟩:=nameB_iff.mp h'.1.1
   obtain⟨y,rfl,hy⟩:=nameB_iff.mp h'.1.2
   have hlt:some (decide (cs x<cs y))=some true:=eq_of_beq h'.2.1
   have hlt:cs x<cs y:=of_decide_eq_true (Option.some.inj hlt)
   cases c with
   | int l =>
    have hn:(decide (1<=l)&&decide (l<=1000000))=true:=h'.2.2
    rw [Bool.and_eq_true,decide_eq_true_eq,decide_eq_true_eq] at hn
    exact⟨x,y,l,rfl,hx,hy,hlt,hn.1,hn.2⟩
   | _=>cases h'.2.2
  | [],h=>cases h
  | [_],h=>cases h
  | [_,_],h=>cases h
  | _::_::_::_::r,h=>cases h
 | _=>cases h
end
mutual
def FQ(B:Nat):D->Prop
 | .int i=>i.natAbs<=B
 | .str x=>∀c∈cs x,c<1114112
 | .tup ds=>FY B ds
 | .lst ds=>FY B ds
 | .dic _ _=>False
 | .fdi _ _=>False
 | .dit _ _=>False
 | _=>True
def FY(B:Nat):List D->Prop
 | []=>True
 | d::ds=>FQ B d/\FY B ds
end
mutual
def MP:D->Nat
 | .int _=>200
 | .str x=>x.length
 | .tup ds=>Jo ds
 | .lst ds=>Jo ds
 | _=>0
def Jo:List D->Nat
 | []=>0
 | d::ds=>MP d+1+Jo ds
end
mutual
def NP:D->Nat
 | .tup ds=>FS ds+1
 | .lst ds=>FS ds+1
 | _=>0
def FS:List D->Nat
 | []=>0
 | d::ds=>max (NP d) (FS ds)
end
theorem fines_iff{B:Nat}:∀{ds:List D},FY B ds↔∀d∈ds,FQ B d
 | []=>⟨(λ_ d h=>by cases h),λ_=>trivial⟩
 | d::ds=>by
  have ih:=@fines_iff B ds
  constructor
  ·rintro ⟨h1,h2⟩ e he
   rcases List.mem_cons.mp he with rfl | he
   ·exact h1
   ·exact ih.mp h2 e he
  ·exact λh=>⟨h d List.mem_cons_self,ih.mpr λe he=>h e (List.mem_cons_of_mem _ he)⟩
theorem dps_le{k:Nat}:∀{ds:List D},FS ds<=k↔∀d∈ds,NP d<=k
 | []=>⟨(λ_ d h=>by cases h),λ_=>Nat.zero_le _⟩
 | d::ds=>by
  have ih:=@dps_le k ds
  show max (NP d) (FS ds)<=k↔_
  rw [Nat.max_le,ih]
  constructor
  ·rintro ⟨h1,h2⟩ e he
   rcases List.mem_cons.mp he with rfl | he
   ·exact h1
   ·exact h2 e he
  ·exact λh=>⟨h d List.mem_cons_self,λe he=>h e (List.mem_cons_of_mem _ he)⟩
theorem K5:∀(xs:List D),xs.length<=Jo xs
 | []=>Nat.zero_le _
 | d::xs=>by
  have:=K5 xs
  show xs.length+1<=MP d+1+Jo xs
  omega
theorem Ke{B C:Nat}(h:B<=C):∀(n:Nat),(∀d:D,sizeOf d<=n->FQ B d->FQ C d)/\∀ds:List D,sizeOf ds<=n->FY B ds->FY C ds:=by
 intro n
 induction n with
 | zero =>
  refine⟨λd hd _=>?_,λds hd _=>?_⟩
  ·cases d <;> simp at hd
  ·cases ds <;> simp at hd
 | succ n ih =>
  refine⟨λd hd hf=>?_,λds hd hf=>?_⟩
  ·cases d with
   | int i=>exact Nat.le_trans (show i.natAbs<=B from hf) h
   | str x=>exact hf
   | tup ds=>exact ih.2 ds (by simp at hd; omega) hf
   | lst ds=>exact ih.2 ds (by simp at hd; omega) hf
   | dic ks ds=>exact(show False from hf).elim
   | fdi ks ds=>exact(show False from hf).elim
   | dit ks ds=>exact(show False from hf).elim
   | non=>trivial
   | bl b=>trivial
  ·cases ds with
   | nil=>trivial
   | cons d ds=>exact⟨ih.1 d (by simp at hd; omega) hf.1,ih.2 ds (by simp at hd; omega) hf.2⟩
mutual
theorem Lv{B:Nat}(hB:B<10 ^ 45):∀{d:D},FQ B d->HP d=true/\(toPy d).showable=true/\(toPy d).canLay0=true/\(toPy d).depth=NP d/\(toPy d).leavesShort 60=true/\(toPy d).weight<=MP d
 | .non,_=>⟨rfl,rfl,rfl,rfl,rfl,Nat.le_refl _⟩
 | .bl b,_=>⟨rfl,rfl,rfl,rfl,rfl,Nat.le_refl _⟩
 | .int i,h=>by
  have h':i.natAbs<=B:=h
  have hlt:i.natAbs<10 ^ 45:=Nat.lt_of_le_of_lt h' hB
  have h2:i.natAbs<2 ^ 150:=Nat.lt_trans hlt (by decide)
  have hl:i.natAbs.log2<150:=by
   by_cases h0:i.natAbs=0
   ·rw [h0]; decide
   ·exact(Nat.log2_lt h0).mpr h2
  refine⟨rfl,?_,rfl,rfl,?_,?_⟩
  ·show decide (i.natAbs.log2<1920)=true
   exact decide_eq_true (by omega)
  ·show decide ((PyData.shown (.int i)).length<=60)=true
   refine decide_eq_true ?_
   have:=int_text_length_le10 (a:=i) (k:=45) (by decide) hlt
   show (Str.ofString (toString i)).length<=60
   rw [PySem.ofString_length]
   omega
  ·show (if i==0 then 0 else i.natAbs.log2+1)<=200
   split <;> omega
 | .str x,h=>by
  have h':∀c∈cs x,c<1114112:=h
  refine⟨rfl,rfl,MR h',rfl,?_,Nat.le_refl _⟩
  show (x.cps.toList.all λc=>decide (c<16 ^ 8))=true
  rw [List.all_eq_true]
  intro c hc
  exact decide_eq_true (Nat.lt_trans (h' c hc) (by decide))
 | .tup ds,h=>by
  obtain⟨h1,h2,h3,h4,h5,h6⟩:=JK hB (ds:=ds) h
  refine⟨h1,h2,h3,?_,h5,h6⟩
  show PyData.depthAll (A1 ds)+1=FS ds+1
  rw [h4]
 | .lst ds,h=>by
  obtain⟨h1,h2,h3,h4,h5,h6⟩:=JK hB (ds:=ds) h
  refine⟨h1,h2,h3,?_,h5,h6⟩
  show PyData.depthAll (A1 ds)+1=FS ds+1
  rw [h4]
 | .dic ks ds,h=>(show False from h).elim
 | .fdi ks ds,h=>(show False from h).elim
 | .dit ks ds,h=>(show False from h).elim
theorem JK{B:Nat}(hB:B<10 ^ 45):∀{ds:List D},FY B ds->Df ds=true/\PyData.showableAll (A1 ds)=true/\PyData.canLayAll0 (A1 ds)=true/\PyData.depthAll (A1 ds)=FS ds/\PyData.leavesShortAll 60 (A1 ds)=true/\PyData.weightAll (A1 ds)<=Jo ds
 | [],_=>⟨rfl,rfl,rfl,rfl,rfl,Nat.le_refl _⟩
 | d::ds,h=>by
  obtain⟨h1,h2,h3,h4,h5,h6⟩:=Lv hB (d:=d) h.1
  obtain⟨g1,g2,g3,g4,g5,g6⟩:=JK hB (ds:=ds) h.2
  refine⟨?_,?_,?_,?_,?_,?_⟩
  ·show (HP d&&Df ds)=true
   rw [h1,g1]; rfl
  ·show ((toPy d).showable&&PyData.showableAll (A1 ds))=true
   rw [h2,g2]; rfl
  ·show ((toPy d).canLay0&&PyData.canLayAll0 (A1 ds))=true
   rw [h3,g3]; rfl
  ·show max (toPy d).depth (PyData.depthAll (A1 ds))=max (NP d) (FS ds)
   rw [h4,g4]
  ·show ((toPy d).leavesShort 60&&PyData.leavesShortAll 60 (A1 ds))=true
   rw [h5,g5]; rfl
  ·show (toPy d).weight+1+PyData.weightAll (A1 ds)<=MP d+1+Jo ds
   omega
end
theorem LA{B:Nat}{d:D}(hB:B<10 ^ 45)(h:FQ B d)(hd:NP d<=100)(hs:MP d<=200000):MT d:=by
 obtain⟨h1,h2,h3,h4,h5,h6⟩:=Lv hB h
 refine⟨h1,h2,by rw [h4]; exact hd,?_⟩
 have:=PyData.shown_le 60 (by decide) (toPy d) h5
 rw [PySem.sizeLine_eq]
 have:62*(toPy d).weight<=62*200000:=Nat.mul_le_mul_left _ (by omega)
 omega
theorem C6{B:Nat}{d:D}(hB:B<10 ^ 45)(h:FQ B d)(hd:NP d<=100):EH d:=by
 obtain⟨h1,h2,h3,h4,h5,h6⟩:=Lv hB h
 exact⟨h1,h3,by rw [h4]; exact hd⟩
theorem Qs(i:Int):∀c∈cs (Str.ofString (toString i)),c<1114112:=by
 intro c hc
 by_cases h:c=45\/(48<=c/\c<=57)
 ·omega
 ·exact absurd hc (int_text_free' c (by omega) i)
section
variable {ss:List Slot}{n:Nat}{Pd:D->Nat->Prop}
end
section
variable {ss:List Slot}{n:Nat}{Pd:D->Nat->Prop}
end
def Ln(a b:Int):D->Bool
 | .int i=>decide (a<=i)&&decide (i<=b)
 | _=>false
def M5(ps:List Str)(d:D):Bool:=Gv d&&D4 ps d
abbrev Gi:W2:=λss n P=>∃d a b,ss=[.sh d,.sh (.int a),.sh (.int b)]/\P (.bl (Ln a b d)) n
abbrev Np:W2:=λss n P=>∃(ps:List Str) (d:D),ss=[.sh (.tup (ps.map .str)),.sh d]/\(∀p∈ps,D1 p)/\P (.bl (M5 ps d)) n
def L8:Al:=(As (Jp (Ej "int" (AA 0)) (Jp (Up (Ej "bool" (AA 0))) (IK Qv Qv (AA 1) (AA 0) (AA 2)))))
def Jd:Al:=(Ae (BD (CP (B8 (AO (Ej "str" (AA 0)))) (B8 (AO (IK Du Du (wC (D.int 0)) (DQ Ee (AF (AA 0) AZ)) (wC (D.int 9)))))) (As (wC (D.bl false))) Au)
 (As (DQ NL (AF (BY [none] (BL (AA 0)) (AX 0) CM (AS (WE λi j P=>P (D.bl (!(Builtin.Str.occurrences j i 0 j.length 1).isEmpty))) (AA 0) (wC (D.str "abcdefghijklmnopqrstuvwxyz")))) AZ))))
def KD:Al:=(Ae (BD (CP (B8 (AO (Ej "tuple" (AA 1)))) (CP (AO (AS (Gp true) (DQ Ee (AF (AA 1) AZ)) (wC (D.int 3)))) (B8 (AO (Aa Gi (AD (AK (AS A5 (AA 1) (wC (D.int 2)))) (AD (AK (wC (D.int 1))) (AD (AK (AS (Pc KI λi j=>D.int (i ^ j.toNat)) (wC (D.int 10)) (wC (D.int 6)))) Ac)))))))) (As (wC (D.bl false))) Au)
 (Ae (BD (CP (B8 (AO (Aa He (AD (AK (AS A5 (AA 1) (wC (D.int 0)))) Ac)))) (B8 (AO (Aa He (AD (AK (AS A5 (AA 1) (wC (D.int 1)))) Ac))))) (As (wC (D.bl false))) Au)
 (As (Jp (AS (Dl false) (AS A5 (AA 1) (wC (D.int 0))) (AA 0)) (Jp (AS (Dl false) (AS A5 (AA 1) (wC (D.int 1))) (AA 0)) (AS Du (AS A5 (AA 1) (wC (D.int 0))) (AS A5 (AA 1) (wC (D.int 1)))))))))
def Nh:Al:=(As (AS (Dl true) (wC (D.bl false)) (BY [some 0,none] (EB (AF (AS NJ (DQ Ee (AF (AA 0) AZ)) (wC (D.int 1))) AZ)) (AX 1) CM (AS Du (AS A5 (AA 0) (AA 1)) (AS A5 (AA 0) (AS A8 (AA 1) (wC (D.int 1))))))))
def KG:Al:=(Ae (BD (CP (B8 (AO (Ej "tuple" (AA 0)))) (CP (AO (AS (Gp true) (DQ Ee (AF (AA 0) AZ)) (wC (D.int 2)))) (B8 (AO (Ej "tuple" (AS A5 (AA 0) (wC (D.int 0)))))))) (As (wC (D.bl false))) Au)
 (Ae (BD (CP (B8 (AO (Ej "tuple" (AS A5 (AA 0) (wC (D.int 1)))))) (CP (AO (AS (f2 λi j=>D.bl (decide (j<i))) (DQ Ee (AF (AS A5 (AA 0) (wC (D.int 0))) AZ)) (wC (D.int 24)))) (AO (AS (f2 λi j=>D.bl (decide (j<i))) (DQ Ee (AF (AS A5 (AA 0) (wC (D.int 1))) AZ)) (wC (D.int 60)))))) (As (wC (D.bl false))) Au)
 (Ae (BD (CP (AO (AS (Dl false) (wC (D.bl false)) (BY [none] (BL (AS A5 (AA 0) (wC (D.int 0)))) (AX 0) CM (Aa He (AD (AK (AA 0)) Ac))))) (B8 (AO (Aa Cs (AD (AK (AS A5 (AA 0) (wC (D.int 0)))) Ac))))) (As (wC (D.bl false))) Au)
 (Ae (BD (AO (AS (Dl false) (wC (D.bl false)) (BY [some 0,none] (BL (AS A5 (AA 0) (wC (D.int 1)))) (AX 1) CM (Aa Np (AD (AK (AS A5 (AA 0) (wC (D.int 0)))) (AD (AK (AA 1)) Ac)))))) (As (wC (D.bl false))) Au)
 (As (Aa Cs (AD (AK (BY [none] (BL (AS A5 (AA 0) (wC (D.int 1)))) (AX 0) CM (Nx FR (AA 0) Co (Ck (wC (D.int 2)))))) Ac)))))))
theorem Qm{α:Type}(p:α->Bool)(l:List α):Df (l.map λa=>D.bl (p a))=true/\PyData.canLayAll0 (A1 (l.map λa=>D.bl (p a)))=true/\PyData.depthAll (A1 (l.map λa=>D.bl (p a)))=0:=by
 induction l with
 | nil=>exact⟨rfl,rfl,rfl⟩
 | cons a r ih =>
  obtain⟨h1,h2,h3⟩:=ih
  refine⟨by rw [List.map_cons,Df,h1]; rfl,by rw [List.map_cons,A1,PyData.canLayAll0,h2,Bool.and_true]; rfl,?_⟩
  rw [List.map_cons,A1,PyData.depthAll,h3]
  rfl
theorem Vn(b:Bool):Eg (.bl b) (.bl false)=!b:=by cases b <;> rfl
theorem Vy{α:Type}(p:α->Bool)(l:List α):((l.map λa=>D.bl (p a)).any λy=>Eg y (.bl false))=!(l.all p):=by
 induction l with
 | nil=>rfl
 | cons a r ih=>rw [List.map_cons,List.any_cons,List.all_cons,ih,Vn,Bool.not_and]
theorem EI{α:Type}{p:α->Bool}{l:List α}{neg:Bool}{P:D->Prop}(h:P (.bl (if neg then l.all p else !(l.all p)))):Dl neg (.bl false) (.lst (l.map λa=>.bl (p a))) P:=by
 obtain⟨h1,h2,h3⟩:=Qm p l
 refine⟨⟨rfl,rfl,Nat.zero_le _⟩,⟨h1,h2,?_⟩,_,rfl,?_⟩
 ·show PyData.depthAll (A1 (l.map λa=>D.bl (p a)))+1<=100
  rw [h3]; decide
 ·rw [Vy,Bool.not_not]
  exact h
theorem M_(c:Nat):(!(Builtin.Str.occurrences letters ⟨#[c]⟩ 0 letters.length 1).isEmpty)=(decide (97<=c)&&decide (c<=122)):=by
 rw [PySem.StrLaws.found_one letters c]
 by_cases h:97<=c/\c<=122
 ·obtain⟨h1,h2⟩:=h
  rw [decide_eq_true h1,decide_eq_true h2]
  have:∀c<123,97<=c->letters.cps.toList.contains c=true:=by decide +kernel
  have:=this c (by omega) h1
  first | exact this | simpa using this
 ·rw [show (decide (97<=c)&&decide (c<=122))=false by rw [Bool.and_eq_false_iff,decide_eq_false_iff_not,decide_eq_false_iff_not]; omega]
  have hall:∀x∈letters.cps.toList,97<=x/\x<=122:=by decide +kernel
  have:letters.cps.toList.contains c=false:=by
   rw [Bool.eq_false_iff]
   intro hc
   exact h (hall c (List.contains_iff_mem.mp hc))
  first | exact this | simpa using this
theorem SI(qs:List Str)(ts:List D):ts.all (M5 qs)=(ts.all Gv&&ts.all (D4 qs)):=by
 unfold M5
 induction ts with
 | nil=>rfl
 | cons t r ih=>rw [List.all_cons,List.all_cons,List.all_cons,ih]; cases Gv t <;> cases D4 qs t <;> cases r.all Gv <;> rfl
theorem Ku:∀xs:List D,((List.range (xs.length - 1)).all λi=>Gn (xs.getD i .non) (xs.getD (i+1) .non)==some true)=Jh xs
 | []=>rfl
 | [x]=>rfl
 | x::y::r=>by
  have ih:=Ku (y::r)
  show ((List.range (r.length+1)).all _)=((Gn x y==some true)&&Jh (y::r))
  rw [List.range_succ_eq_map,List.all_cons,List.all_map,← ih]
  rfl
section
variable {ss:List Slot}{n:Nat}{Pd:D->Nat->Prop}
theorem LM(h:Gi ss n Pd):L8 (EE Pd) n (ss++List.replicate 0 .no):=by
 obtain⟨d,a,b,rfl,q⟩:=h
 cases d with
 | int i=>exact Jf (k:=λP=>P (.bl _) n) (λ_ h=>h) q
 | _=>exact q
theorem Il(h0:He ss n Pd):Jd (EE Pd) n (ss++List.replicate 0 .no):=by
 obtain⟨d,rfl,h⟩:=h0.out
 clear h0
 cases d with
 | str x =>
  have h':Pd (.bl ((decide (1<=x.length)&&decide (x.length<=8))&&(cs x).all λc=>decide (97<=c)&&decide (c<=122))) n:=h
  refine⟨_,_,rfl,rfl,?_⟩
  show (match (.bl (decide ((0:Int)<(x.length:Int))):D) with | .bl true=>_ | .bl false=>_ | _=>False)
  by_cases h1:1<=x.length
  ·have i1:decide ((0:Int)<(x.length:Int))=true:=decide_eq_true (by omega)
   rw [i1]
   show (if (!decide ((x.length:Int)<9))=true then _ else _)
   by_cases h2:x.length<=8
   ·have i2:decide ((x.length:Int)<9)=true:=decide_eq_true (by omega)
    rw [decide_eq_true h1,decide_eq_true h2,Bool.true_and,Bool.true_and] at h'
    rw [i2]
    refine Bk ⟨by rw [QB]; omega,?_⟩
    refine BB (λd=>match d with | .str z=>.bl (!(Builtin.Str.occurrences letters z 0 letters.length 1).isEmpty) | _=>.non) (λρ=>∃s,ρ=[s]) _ _ _ _ ?_ ⟨_,rfl⟩ ?_
    ·rintro d hd ρ m nx ⟨s,rfl⟩ hnx
     obtain⟨c,hc,rfl⟩:=List.mem_map.mp hd
     exact hnx _ ⟨_,rfl⟩
    ·rw [List.nil_append]
     unfold Dp.signs
     rw [List.map_map]
     show NL [.lst (x.cps.toList.map λc=>.bl (!(Builtin.Str.occurrences letters ⟨#[c]⟩ 0 letters.length 1).isEmpty))] λz=>Pd z n
     refine NK (p:=λc=>!(Builtin.Str.occurrences letters ⟨#[c]⟩ 0 letters.length 1).isEmpty) ?_
     rw [show (λc=>!(Builtin.Str.occurrences letters ⟨#[c]⟩ 0 letters.length 1).isEmpty)=λc=>decide (97<=c)&&decide (c<=122) from funext M_]
     exact h'
   ·have i2:decide ((x.length:Int)<9)=false:=decide_eq_false (by omega)
    rw [decide_eq_true h1,decide_eq_false h2,Bool.and_false,Bool.false_and] at h'
    rw [i2]
    exact B6 h'
  ·have i1:decide ((0:Int)<(x.length:Int))=false:=decide_eq_false (by omega)
   rw [decide_eq_false h1,Bool.false_and,Bool.false_and] at h'
   rw [i1]
   exact B6 h'
 | _=>exact h
theorem MZ(h:Cs ss n Pd):Nh (EE Pd) n (ss++List.replicate 0 .no):=by
 obtain⟨d,xs,rfl,hd,hl,hlt,h⟩:=h
 have go:((C2 0 ((xs.length:Int) - 1).toNat).length<=10000000)/\CL (AX 1) CM (AS Du (AS A5 (AA 0) (AA 1)) (AS A5 (AA 0) (AS A8 (AA 1) (wC (D.int 1))))) (λacc n2=>Dl true (.bl false) (.lst acc) λz=>Pd z n2) (C2 0 ((xs.length:Int) - 1).toNat) [] n [.sh d,.no]:=by
  refine⟨by rw [B_]; omega,?_⟩
  refine BB (λe=>.bl (match e with | .int i=>Gn (xs.getD i.toNat .non) (xs.getD (i.toNat+1) .non)==some true | _=>false)) (λρ=>∃s,ρ=[.sh d,s]) _ _ _ _ ?_ ⟨_,rfl⟩ ?_
  ·rintro z hz ρ m nx ⟨s,rfl⟩ hnx
   obtain⟨k,hk,rfl⟩:=Ie hz
   have e0:(0+(k:Int))=(k:Int):=by omega
   have k1:k<xs.length:=by omega
   have k2:k+1<xs.length:=by omega
   have hnx':nx (.bl (Gn xs[k] xs[k+1]==some true)) m [.sh d,.sh (.int (0+(k:Int)))]:=by
    have:=hnx [.sh d,.sh (.int (0+(k:Int)))] ⟨_,rfl⟩
    rw [e0] at this ⊢
    show nx (.bl _) m _
    have t:nx (.bl (Gn (xs.getD k .non) (xs.getD (k+1) .non)==some true)) m [.sh d,.sh (.int (k:Int))]:=this
    rw [List.getD_eq_getElem?_getD,List.getD_eq_getElem?_getD,List.getElem?_eq_getElem k1,List.getElem?_eq_getElem k2] at t
    exact t
   obtain⟨r,hr⟩:=hlt _ (List.getElem_mem k1) _ (List.getElem_mem k2)
   have a1:atI xs (0+(k:Int))=some xs[k]:=by rw [e0]; exact AL (List.getElem?_eq_getElem k1)
   have a2:atI xs (0+(k:Int)+1)=some xs[k+1]:=by rw [e0,show ((k:Int)+1)=((k+1:Nat):Int) by omega]; exact AL (List.getElem?_eq_getElem k2)
   have fin:Du xs[k] xs[k+1] λy=>nx y m [.sh d,.sh (.int (0+(k:Int)))]:=by
    refine Pa hr ?_
    rw [hr] at hnx'
    cases r <;> exact hnx'
   cases d with
   | lst ys=>cases hd; exact⟨_,a1,_,a2,fin⟩
   | tup ys=>cases hd; exact⟨_,a1,_,a2,fin⟩
   | _=>cases hd
  ·rw [List.nil_append]
   refine EI (p:=fun(e:D)=>match e with | .int i=>Gn (xs.getD i.toNat .non) (xs.getD (i.toNat+1) .non)==some true | _=>false) ?_
   show Pd (.bl ((C2 0 ((xs.length:Int) - 1).toNat).all _)) n
   unfold C2
   rw [List.all_map,show ((xs.length:Int) - 1).toNat=xs.length - 1 by omega]
   have e:((fun(e:D)=>match e with | .int i=>Gn (xs.getD i.toNat .non) (xs.getD (i.toNat+1) .non)==some true | _=>false)∘fun(i:Nat)=>D.int (0+(i:Int)))=λi=>Gn (xs.getD i .non) (xs.getD (i+1) .non)==some true:=by
    funext i
    show (Gn (xs.getD (0+(i:Int)).toNat .non) (xs.getD ((0+(i:Int)).toNat+1) .non)==some true)=_
    rw [show (0+(i:Int)).toNat=i by omega]
   rw [e,Ku]
   exact h
 cases d with
 | lst ys=>cases hd; exact⟨_,_,rfl,rfl,_,rfl,⟨by omega,by omega⟩,go⟩
 | tup ys=>cases hd; exact⟨_,_,rfl,rfl,_,rfl,⟨by omega,by omega⟩,go⟩
 | _=>cases hd
theorem Jw(h0:Np ss n Pd):KD (EE Pd) n (ss++List.replicate 0 .no):=by
 obtain⟨ps,d,rfl,hps,h⟩:=h0
 cases d with
 | tup xs =>
  refine⟨_,_,rfl,rfl,?_⟩
  show if (!((xs.length:Int)==3))=true then _ else _
  cases h3:((xs.length:Int)==3) with
  | false =>
   have h':Pd (.bl (Gv (.tup xs)&&D4 ps (.tup xs))) n:=h
   rw [Xz (d:=.tup xs) h3] at h'
   exact B6 h'
  | true =>
   obtain⟨a,b,c,e⟩:=Xq (d:=.tup xs) h3
   cases e
   have h':Pd (.bl (((CB a&&CB b)&&((Gn a b==some true)&&GF c))&&D4 ps (.tup [a,b,c]))) n:=h
   refine Bk ⟨_,rfl,(⟨by decide,by decide,by decide⟩:KI 10 6),c,1,_,rfl,?_⟩
   show if (!Ln 1 ((10:Int) ^ (6:Int).toNat) c)=true then _ else _
   have ec:Ln 1 ((10:Int) ^ (6:Int).toNat) c=GF c:=by cases c <;> rfl
   rw [ec]
   cases hc:GF c with
   | false =>
    rw [hc] at h'
    simp only [Bool.and_false,Bool.false_and] at h'
    exact B6 h'
   | true =>
    rw [hc] at h'
    refine Bk ⟨_,rfl,[a],rfl,rfl,?_⟩
    show if (!CB a)=true then _ else _
    cases ha:CB a with
    | false=>rw [ha] at h'; exact B6 h'
    | true =>
     refine Bk ⟨_,rfl,[b],rfl,rfl,?_⟩
     show if (!CB b)=true then _ else _
     cases hb:CB b with
     | false=>rw [ha,hb] at h'; exact B6 h'
     | true =>
      rw [ha,hb] at h'
      obtain⟨x,rfl,hx⟩:=nameB_iff.mp ha
      obtain⟨y,rfl,hy⟩:=nameB_iff.mp hb
      rw [H_] at h'
      have h2:Pd (.bl (decide (cs x<cs y)&&(ps.any (·==x)&&ps.any (·==y)))) n:=by
       cases hd:decide (cs x<cs y) with
       | false=>rw [hd] at h'; exact h'
       | true=>rw [hd] at h'; exact h'
      rw [Bool.and_comm,Bool.and_assoc] at h2
      have e1:∀x:Str,((ps.map D.str).any λz=>Eg z (.str x))=ps.any (·==x):=λx=>by rw [List.any_map]; rfl
      rw [← e1,← e1] at h2
      refine Bk ⟨_,rfl,GI hx,EG hps,_,rfl,?_⟩
      refine Jf (b1:=(ps.map D.str).any λz=>Eg z (.str x)) (b2:=((ps.map D.str).any λz=>Eg z (.str y))&&decide (cs x<cs y)) (P:=Pd) (n:=n) (k:=λP=>_) (λ_ hp=>⟨_,rfl,GI hy,EG hps,_,rfl,?_⟩) h2
      exact Jf (b1:=(ps.map D.str).any λz=>Eg z (.str y)) (b2:=decide (cs x<cs y)) (P:=Pd) (n:=n) (k:=λP=>_) (λ_ hp=>⟨_,rfl,_,rfl,hp⟩) hp
 | _=>exact h
theorem Jx(h0:Nm ss n Pd):KG (EE Pd) n (ss++List.replicate 0 .no):=by
 obtain⟨d,rfl,h⟩:=h0.out
 clear h0
 cases d with
 | tup xs =>
  refine⟨_,_,rfl,rfl,?_⟩
  show if (!((xs.length:Int)==2))=true then _ else _
  cases h2:((xs.length:Int)==2) with
  | false =>
   rw [Wz (d:=.tup xs) h2] at h
   exact B6 h
  | true =>
   obtain⟨p,t,e⟩:=Uu (d:=.tup xs) h2
   cases e
   have h':Pd (.bl (Hy p&&N1 p t)) n:=h
   refine Bk ⟨_,rfl,?_⟩
   cases p with
   | tup ps =>
    refine⟨_,rfl,?_⟩
    cases t with
    | tup ts =>
     have h':Pd (.bl ((decide (ps.length<=24)&&(ps.all CB&&Jh ps))&&(decide (ts.length<=60)&&(ts.all Gv&&(ts.all (D4 (strsOf ps))&&Jh (ts.map E4)))))) n:=h
     refine⟨_,rfl,_,_,rfl,rfl,?_⟩
     show if decide ((24:Int)<(ps.length:Int))=true then _ else _
     by_cases hl:ps.length<=24
     ·rw [decide_eq_true hl,Bool.true_and] at h'
      rw [decide_eq_false (show ¬(24:Int)<(ps.length:Int) by omega)]
      refine Bk ⟨_,rfl,_,_,rfl,rfl,?_⟩
      show if decide ((60:Int)<(ts.length:Int))=true then _ else _
      by_cases hk:ts.length<=60
      ·rw [decide_eq_true hk,Bool.true_and] at h'
       rw [decide_eq_false (show ¬(60:Int)<(ts.length:Int) by omega)]
       refine Bk ⟨_,rfl,by show ps.length<=10000000; omega,?_⟩
       refine BB (λd=>.bl (CB d)) (λρ=>∃s,ρ=[s]) _ _ _ _ ?_ ⟨_,rfl⟩ ?_
       ·rintro d hd ρ m nx ⟨s,rfl⟩ hnx
        exact⟨[d],rfl,rfl,hnx _ ⟨_,rfl⟩⟩
       rw [List.nil_append]
       refine EI ?_
       show if (!ps.all CB)=true then _ else _
       cases hn:ps.all CB with
       | false=>rw [hn] at h'; exact B6 h'
       | true =>
        rw [hn,Bool.true_and] at h'
        obtain⟨qs,rfl,hqs⟩:=Mu hn
        rw [Cu] at h'
        refine Bk ⟨_,rfl,_,_,rfl,rfl,by omega,λx hx y hy=>?_,?_⟩
        ·obtain⟨p,_,rfl⟩:=List.mem_map.mp hx
         obtain⟨q,_,rfl⟩:=List.mem_map.mp hy
         exact⟨_,H_ p q⟩
        show if (!Jh (qs.map .str))=true then _ else _
        cases ha:Jh (qs.map .str) with
        | false=>rw [ha] at h'; exact B6 h'
        | true =>
         rw [ha,Bool.true_and] at h'
         refine Bk ⟨_,rfl,by show ts.length<=10000000; omega,?_⟩
         refine BB (λd=>.bl (M5 qs d)) (λρ=>∃s,ρ=[.sh (.tup [.tup (qs.map .str),.tup ts]),s]) _ _ _ _ ?_ ⟨_,rfl⟩ ?_
         ·rintro d hd ρ m nx ⟨s,rfl⟩ hnx
          exact⟨_,rfl,qs,d,rfl,hqs,hnx _ ⟨_,rfl⟩⟩
         rw [List.nil_append]
         refine EI ?_
         show if (!ts.all (M5 qs))=true then _ else _
         rw [SI]
         rw [← Bool.and_assoc] at h'
         cases he:(ts.all Gv&&ts.all (D4 qs)) with
         | false=>rw [he] at h'; exact B6 h'
         | true =>
          rw [he,Bool.true_and] at h'
          rw [Bool.and_eq_true] at he
          have hties:∀t∈ts,Gv t=true:=List.all_eq_true.mp he.1
          refine Bk ⟨_,rfl,by show ts.length<=10000000; omega,?_⟩
          refine BB E4 (λρ=>∃s,ρ=[s]) _ _ _ _ ?_ ⟨_,rfl⟩ ?_
          ·rintro d hd ρ m nx ⟨s,rfl⟩ hnx
           obtain⟨x,y,l,rfl,hx,hy,_⟩:=K4 (hties d hd)
           exact hnx _ ⟨_,rfl⟩
          rw [List.nil_append]
          refine⟨_,_,rfl,rfl,by rw [List.length_map]; omega,λx hx y hy=>?_,h'⟩
          obtain⟨t,htm,rfl⟩:=List.mem_map.mp hx
          obtain⟨u,hum,rfl⟩:=List.mem_map.mp hy
          obtain⟨x1,y1,l1,rfl,_⟩:=K4 (hties t htm)
          obtain⟨x2,y2,l2,rfl,_⟩:=K4 (hties u hum)
          exact⟨_,rfl⟩
      ·rw [decide_eq_false hk,Bool.false_and,Bool.and_false] at h'
       rw [decide_eq_true (show (60:Int)<(ts.length:Int) by omega)]
       exact B6 h'
     ·rw [decide_eq_false hl,Bool.false_and] at h'
      rw [decide_eq_true (show (24:Int)<(ps.length:Int) by omega)]
      exact B6 h'
    | _=>have h2:Pd (.bl (Hy (.tup ps)&&false)) n:=h'; rw [Bool.and_false] at h2; exact h2
   | _=>exact h'
 | _=>exact h
end
def item(d:D):Prop:=FQ 1000001 d/\MP d<=450/\NP d<=1
theorem K6{k:Nat}:∀{ds:List D},(∀d∈ds,MP d+1<=k)->Jo ds<=k*ds.length
 | [],_=>Nat.zero_le _
 | d::ds,h=>by
  have h1:=h d List.mem_cons_self
  have h2:=K6 (ds:=ds) λe he=>h e (List.mem_cons_of_mem _ he)
  show MP d+1+Jo ds<=k*(ds.length+1)
  rw [Nat.mul_succ]; omega
theorem GN{B:Nat}{xs:List D}(h:∀d∈xs,FQ B d):FQ B (.tup xs):=fines_iff.mpr h
theorem item_str{x:Str}(h1:x.length<=8)(h2:∀c∈cs x,c<1114112):item (.str x):=⟨h2,by show x.length<=450; omega,Nat.zero_le _⟩
theorem C8{x:Str}(h:D1 x):item (.str x):=item_str h.2.1 λc hc=>by have:=h.2.2 c hc; omega
theorem NF{a b:Str}{l:Int}(ha:item (.str a))(hb:item (.str b))(la:a.length<=8)(lb:b.length<=8)(hl:l.natAbs<=1000001):item (.tup [.str a,.str b,.int l]):=by
 refine⟨GN λd hd=>?_,?_,?_⟩
 ·simp only [List.mem_cons,List.not_mem_nil,or_false] at hd
  rcases hd with rfl | rfl | rfl
  ·exact ha.1
  ·exact hb.1
  ·exact hl
 ·show a.length+1+(b.length+1+(200+1+0))<=450
  omega
 ·show max 0 (max 0 (max 0 0))+1<=1
  decide
theorem JD{N:Net}(ok:N.Ok):∀d∈N.ts.map AW,item d:=λd hd=>by
 obtain⟨t,ht,rfl⟩:=List.mem_map.mp hd
 obtain⟨h1,h2,_,h3,h4⟩:=ok.tin t ht
 have n1:=ok.names _ h1
 have n2:=ok.names _ h2
 exact NF (C8 n1) (C8 n2) n1.2.1 n2.2.1 (by omega)
theorem Tp{N:Net}(ok:N.Ok):∀d∈N.ps.map D.str,item d:=λd hd=>by
 obtain⟨x,hx,rfl⟩:=List.mem_map.mp hd
 exact C8 (ok.names x hx)
theorem Ut{xs ys:List D}(hx:∀d∈xs,item d)(hy:∀d∈ys,item d)(lx:xs.length<=26)(ly:ys.length<=80):FQ 1000001 (.tup [.tup xs,.tup ys])/\MP (.tup [.tup xs,.tup ys])<=48000/\NP (.tup [.tup xs,.tup ys])<=3:=by
 have s1:=K6 (k:=451) λd hd=>Nat.succ_le_succ (hx d hd).2.1
 have s2:=K6 (k:=451) λd hd=>Nat.succ_le_succ (hy d hd).2.1
 have d1:FS xs<=1:=dps_le.mpr λd hd=>(hx d hd).2.2
 have d2:FS ys<=1:=dps_le.mpr λd hd=>(hy d hd).2.2
 refine⟨GN λd hd=>?_,?_,?_⟩
 ·simp only [List.mem_cons,List.not_mem_nil,or_false] at hd
  rcases hd with rfl | rfl
  ·exact GN λd hd=>(hx d hd).1
  ·exact GN λd hd=>(hy d hd).1
 ·show Jo xs+1+(Jo ys+1+0)<=48000
  omega
 ·show max (FS xs+1) (max (FS ys+1) 0)+1<=3
  omega
theorem Ni{p:D->Prop}{xs:List D}(h:∀d∈xs,p d){o:Int}(h0:0<=o)(h1:o<(xs.length:Int)):∃z,atI xs o=some z/\p z:=by
 obtain⟨k,rfl⟩:∃k:Nat,o=(k:Int):=⟨o.toNat,by omega⟩
 have hk:k<xs.length:=by omega
 exact⟨xs[k],AL (List.getElem?_eq_getElem hk),h _ (List.getElem_mem hk)⟩
theorem Jg:∀{xs:List D},xs.Pairwise (λa b=>Gn a b=some true)->Jh xs=true
 | [],_=>rfl
 | [x],_=>rfl
 | x::y::r,h=>by
  rw [List.pairwise_cons] at h
  show ((Gn x y==some true)&&Jh (y::r))=true
  rw [h.1 y List.mem_cons_self,Jg h.2]
  rfl
theorem Be(x:Str):¬cs x<cs x:=List.lt_irrefl _
theorem SF{N:Net}(ok:N.Ok)(l1:N.ps.length<=24)(l2:N.ts.length<=60):ON (enc N)=true:=by
 show ((decide ((N.ps.map D.str).length<=24)&&((N.ps.map D.str).all CB&&Jh (N.ps.map D.str)))&&(decide ((N.ts.map AW).length<=60)&&((N.ts.map AW).all Gv&&((N.ts.map AW).all (D4 (strsOf (N.ps.map D.str)))&&Jh ((N.ts.map AW).map E4)))))=true
 rw [Cu,List.length_map,List.length_map,decide_eq_true l1,decide_eq_true l2]
 simp only [Bool.true_and,Bool.and_eq_true,List.all_eq_true]
 refine⟨⟨λd hd=>?_,Jg ?_⟩,λd hd=>?_,λd hd=>?_,Jg ?_⟩
 ·obtain⟨x,hx,rfl⟩:=List.mem_map.mp hd
  exact nameB_iff.mpr ⟨x,rfl,ok.names x hx⟩
 ·rw [List.pairwise_map]
  refine ok.rise.imp λ{a b} h=>?_
  rw [H_,decide_eq_true h]
 ·obtain⟨t,ht,rfl⟩:=List.mem_map.mp hd
  obtain⟨h1,h2,h3,h4,h5⟩:=ok.tin t ht
  show ((CB (.str t.a)&&CB (.str t.b))&&((Gn (.str t.a) (.str t.b)==some true)&&(decide (1<=t.len)&&decide (t.len<=1000000))))=true
  rw [nameB_iff.mpr ⟨_,rfl,ok.names _ h1⟩,nameB_iff.mpr ⟨_,rfl,ok.names _ h2⟩,H_,decide_eq_true h3,decide_eq_true h4,decide_eq_true h5]
  rfl
 ·obtain⟨t,ht,rfl⟩:=List.mem_map.mp hd
  obtain⟨h1,h2,_⟩:=ok.tin t ht
  show (N.ps.any (·==t.a)&&N.ps.any (·==t.b))=true
  rw [Bool.and_eq_true,List.any_eq_true,List.any_eq_true]
  exact⟨⟨_,h1,beq_self_eq_true _⟩,⟨_,h2,beq_self_eq_true _⟩⟩
 ·rw [List.map_map,List.pairwise_map]
  refine ok.trise.imp λ{s t} h=>?_
  show (if (true&&(true&&true))=true then some (ER [.inr s.a,.inr s.b] [.inr t.a,.inr t.b]) else none)=some true
  rw [if_pos (show (true&&(true&&true))=true from rfl)]
  congr 1
  show (if (Sum.inr s.a:Key)=.inr t.a then (if (Sum.inr s.b:Key)=.inr t.b then false else decide (cs s.b<cs t.b)) else decide (cs s.a<cs t.a))=true
  rcases h with h | ⟨h,h'⟩
  ·rw [if_neg (λe=>Be s.a (by rw [Sum.inr.inj e] at h ⊢; exact h)),decide_eq_true h]
  ·rw [if_pos (by rw [h]),if_neg (λe=>Be s.b (by rw [Sum.inr.inj e] at h' ⊢; exact h')),decide_eq_true h']
theorem z2:2<=sizeLine:=by decide
theorem z3:3<=sizeLine:=by decide
theorem z0:0<=sizeLine:=Nat.zero_le _
theorem YC:KI 10 6:=⟨by decide,by decide,by decide⟩
section
variable {ss:List Slot}{n:Nat}{Pd:D->Nat->Prop}
end
end Nt
namespace L2
open PySem PySem.Spec PyProof.Rows
section
variable {X:Cx}{tg elt iter:Expr}{ifs:List Expr}{sc:Scope}{pos spos pos':Pos}{N':List Str}{js:List (Option Nat)}{wi:TI}{i:Nat}{x:Str}
theorem O5(hc:X.calm=true)(N':List Str)(js:List (Option Nat))(hi:PI X tg iter wi)
  (hB:Hb sc X.env.scope X.N N' js=true) (hN:X.N.Nodup) (hix:X.N[i]?=some x) (hx:Loc X.env.scope x)
  (hsw:swapsWith (.ListComp elt [⟨tg,iter,ifs,0⟩] sc pos) (some (.Name x pos')) spos.line X.env=pure true)
  (hs:∀x,foldedSetIterable iter X.env x=pure x:=by intro _; rfl)
  (hf:X.fn x=true\/X.env.scope.names.lookup x=some .local:=by first | exact .inl rfl | exact .inr rfl | assumption) :
  PS X (.Assign [.Name x pos'] (.ListComp elt [⟨tg,iter,ifs,0⟩] sc pos) spos) (MO (RP X sc N' js tg elt ifs wi) (HV i)):=by
 intro pins s σ H D I h
 have O:CompOk X sc N' js:=CompOk.of hB
 obtain⟨cl,hclos,hcl,hcl2⟩:=JV (scope:=sc) (env:=X.env) λx hx=>I.ok.has x (O.free x hx)
 rw [exec_Assign_Name_used _ _ _ _ hsw]
 refine wpAny_bind (wpAny_standAt (wpAny_bind ?_))
 show wpAny _ _ (do let _ ← comprehension (.ListComp elt [⟨tg,iter,ifs,0⟩] sc pos) sc X.env _ (newList []) false (eval iter X.env) (some (assign (.Name x pos') X.env))) _ _ s
 refine wpAny_bind (wpAny_mono (wpAny_comprehension_free (Q:=λ_ s'=>SP X pins D .next s') (use:=some (assign (.Name x pos') X.env)) rfl hs hclos O.kind O.names (thn (hi pins s σ H _ I h) λv s1 h1=>thn h1 λitv s2 h2=>?_))
  (λ_ s' hq=>wpAny_pure (wpAny_pure hq)) λ_ _ e=>e)
 obtain⟨it,fp,tn,J,H2,e,I2,T,st2,f2,hq⟩:=h2
 subst e
 have kfree:X.K.lookup s2.heap.objs.size=none:=by
  cases q:X.K.lookup s2.heap.objs.size with
  | none=>rfl
  | some o=>exact absurd (Heap.lt_size (I2.kIn _ _ q)) (Nat.lt_irrefl _)
 obtain⟨g,tt,te,W,hg,ht,he,⟨m0,w0⟩,hW⟩:=hq s2.heap.objs.size (I2.hok.fresh (Nat.le_refl _)) kfree cl (s2.heap.objs.size+1) s2 H2 fp
 refine wpAny_newObj_type (wpAny_newFunctionEnv O.cell (by intro y hy; simp at hy) (λh₁ hns₁ hsb₁=>?_) O.kind)
 dsimp only at hns₁ hsb₁ ⊢
 generalize hH2:s2.heap.push { cls:=.type "list",dict:=none,data:=.seq ([]:List Value).toArray }=Hh at hns₁ hsb₁ ⊢
 have hCe:Hh.objs.size=s2.heap.objs.size+1:=by rw [← hH2,Heap.size_push]
 have hlt:∀b∈fp,b<s2.heap.objs.size:=λb hb=>by
  obtain⟨o,e,_⟩:=T.obj _ _ st2 b hb
  exact Heap.lt_size e
 have old:∀b o,s2.heap.get? b=some o->h₁.get? b=some o:=λb o e=>hsb₁.extBut b o (by rw [hCe]; exact Nat.ne_of_lt (Nat.lt_succ_of_lt (Heap.lt_size e))) (Heap.get?_push_of_some _ (hH2▸Heap.get?_push_of_some _ e))
 have hD:∃n,h₁.get? s2.heap.objs.size=some { cls:=.type "list",data:=.seq #[] n }:=⟨_,hsb₁.extBut _ _ (by rw [hCe]; exact Nat.ne_of_lt (Nat.lt_succ_self _)) (Heap.get?_push_of_some _ (hH2▸Heap.get?_push_size _ rfl))⟩
 have I3:∀tk,Inv (A4 X sc N' cl (s2.heap.objs.size+1) s2 H2 fp) [] (C4 js σ) (BG H2 s2.heap.objs.size (.lst [])) { s2 with heap:=h₁,toks:=tk }:=λtk =>
  NI I2 hc O hcl hcl2 f2 (λb hb=>let ⟨o,e,_⟩:=T.obj _ _ st2 b hb; ⟨o,e⟩) (by rw [← hCe]; exact hns₁) old hD
 have st3:tn 0 h₁:=T.keep _ _ _ st2 λb hb o e=>old b o e
 have fr3:∀b∈fp,BG H2 s2.heap.objs.size (.lst []) b=none:=λb hb=>by
  rw [AT (Nat.ne_of_lt (hlt b hb))]
  exact(f2 b hb).1
 have loop:∀tk,codeAny (model X.prog X.w) X.A (.compLoop (.ListComp elt [⟨tg,iter,ifs,0⟩] sc pos) 0 (.ref it) (.ref s2.heap.objs.size) (compEnvC sc cl (s2.heap.objs.size+1) X.env))
   (compPost (model X.prog X.w) X.A X.xe (some (assign (.Name x pos') X.env)) (λ_ s'=>SP X pins D .next s') (.ref s2.heap.objs.size) (s2.heap.objs.size+1)) { s2 with heap:=h₁,toks:=tk }:=λtk=>by
  refine Kk (W:=W) (m0:=m0) (Q:=λv H1=>HV i v σ H1 λσ2 H2=>D.nx σ2 H2) I2 f2 hlt (Nat.le_succ _) T hg ht he hW (λσ' H' s' J' q'=>?_) (I3 tk) st3 fr3 w0
  obtain⟨m,hn,_⟩:=J'.loc
  have hCn:H' (s2.heap.objs.size+1)=none:=J'.free
  have I4:Inv X pins σ H' s':=JG (h':=s'.heap) I2 f2 (Nat.le_succ _) J' λb _=>rfl
  obtain⟨g1,g2,g3,g4,g5,g6⟩:=I2.fpOk (b:=s2.heap.objs.size+1) (Nat.le_succ _) hCn
  show wpAny (model X.prog X.w) X.A (assign (.Name x pos') X.env (.ref s2.heap.objs.size)) (λ_ s''=>∃m,s''.heap.Ns (s2.heap.objs.size+1) m/\∀h',Heap.SameBut (s2.heap.objs.size+1) s''.heap h'->SP X pins D .next { s'' with heap:=h' }) X.xe s'
  refine wpAny_assign_Name (KR (v:=.ref s2.heap.objs.size) I4 hN hix hx rfl (λs5 I5 ⟨a,hsame,ha⟩=>?_) hf)
  have na:s2.heap.objs.size+1≠a:=by
   rcases ha with rfl | ha
   ·exact g2
   ·exact λz=>g5 _ _ ha z.symm
  refine⟨m,hn.sameBut hsame na,λh' hs'=>?_⟩
  exact⟨_,H',I5.turned (t':=s5.toks) (it:=s2.heap.objs.size+1) (λb o hb e=>hs'.extBut b o hb e) hCn g2 g4 g5 g6,q'⟩
 rw [show (newEnv sc Hh.objs.size X.env.globals cl X.env.qual none .none (some X.env) builtinsNs).locals=s2.heap.objs.size+1 from hCe]
 show codeAny (model X.prog X.w) X.A (.compStart (.ListComp elt [⟨tg,iter,ifs,0⟩] sc pos) 0 (.ref it) (.ref s2.heap.objs.size) (compEnvC sc cl (s2.heap.objs.size+1) X.env)) _ _
 exact codeAny_compStart_list (loop _) (T.self _ 0 _ _ _ st3 (loop _))
end
end L2
namespace Dp
open PySem PySem.Spec PyProof.Rows L2
section
variable {X:Cx}{κe:Kd}{tg elt iter:Expr}{ifs:List Expr}{sc:Scope}{pos:Pos}{src:FT}{b:BW}{tt:Ht}{te:DW}
theorem NT(hc:X.calm=true)(N':List Str)(js:List (Option Nat))(hi:WC X tg iter src)(hg:∀cl C s H fp,DG (A4 X sc N' cl C s H fp) tg b)(ht:∀cl C s H fp,WJ (A4 X sc N' cl C s H fp) ifs tt)(he:∀cl C s H fp,DE (A4 X sc N' cl C s H fp) elt κe te)
  (hB:Hb sc X.env.scope X.N N' js=true) (hk:κe≠.tp:=by intro z; cases z)
  (hs:∀x,foldedSetIterable iter X.env x=pure x:=by intro _; rfl):∃wi,PI X tg iter wi/\∀(C:Fm) (M:Addr->Prop) (H:Hp) (n:Nat) (ρ:List Slot) (σ:L2.St) (P:D->Nat->Prop) (Q:VK),Rel X.K C M H n ρ σ->BY js src b tt te n ρ P ->
   (∀v H' d n',Ext C.U H H'->FeedC X.K C.F M H' n'->VR X.K C.V M H H' .fr v d->P d n'->Q v H')->RP X sc N' js tg elt ifs wi σ H Q:=by
 obtain⟨wi,a1,a2⟩:=hi
 refine⟨wi,a1,λC M H n ρ σ P Q R w q=>?_⟩
 refine a2 C M H n ρ σ _ _ R w λJ H1 ds n1 e1 f1 y w1=>?_
 obtain⟨hlen,w1⟩:=w1
 have R1:=R.step e1 f1
 intro l hl hkl cl Ca s0 H0 fp
 obtain⟨g,g1,g2⟩:=hg cl Ca s0 H0 fp
 obtain⟨tc,c1,c2⟩:=ht cl Ca s0 H0 fp
 obtain⟨tx,x1,x2⟩:=he cl Ca s0 H0 fp
 have noU:¬C.U l:=λz=>by
  obtain⟨o,z⟩:=R1.udom l z
  rw [hl] at z; cases z
 generalize hM':(λb=>M b\/b=l)=M'
 have M'l:M' l:=by rw [← hM']; exact .inr rfl
 have M'of:∀b,M b->M' b:=λb z=>by rw [← hM']; exact .inl z
 have ofM':∀b,M' b->M b\/b=l:=λb z=>by rw [← hM'] at z; exact z
 have inV:∀b,C.V b\/b=l->M' b:=λb z=>z.elim (λz=>M'of b (R1.vM b z)) λz=>by rw [z]; exact M'l
 have lenj:js.length=N'.length:=E5 (CompOk.of hB).cap
 refine⟨g,tc,tx,λi m σ' H'=>m=ds.length - i/\i<=ds.length/\∃n' ρ' acc vs,Rel X.K ⟨M',C.F,C.U,λb=>C.V b\/b=l,H1,[],[]⟩ M' H' n' ρ' σ'/\H' l=some (.lst vs)/\Ats X.K M' H' acc vs/\acc.length<=i/\Pres M H1 M' H' /\
   CL b tt te (λacc n2=>P (.lst acc) n2) (ds.drop i) acc n' ρ',g1,c1,x1,⟨ds.length,by simp,Nat.zero_le _,n1,GG js ρ,[],[],?_⟩,?_⟩
 ·have gr:Grow H1 (BG H1 l (.lst [])):=A9 hl
  have pr:Pres M H1 M' (BG H1 l (.lst [])):=⟨λb o e _=>gr.all b o e,λb z=>(ofM' b z).elim .inl λz=>.inr (by rw [z]; exact hl),λb vs e=>gr.all b _ e⟩
  refine⟨⟨?_,λa z=>z,λa z=>?_,gr.ext,R1.fU,λa z=>.inl (R1.uV a z),inV,f1.pres pr λf o _ e=>gr.all f.1 o e,?_,λp hp=>absurd hp (by simp),λi d a q z=>PH R1.sl q z,λi s a q o _=>absurd o (by rw [EQ q]; decide),λi j s t a q o _ _ _ _=>absurd o (by rw [EQ q]; decide),λp hp=>absurd hp (by simp)⟩,Ak,rfl,Nat.zero_le _,pr,w1⟩
  ·unfold GG C4
   rw [List.length_map,List.length_map]
  ·rcases ofM' a z with z | z
   ·obtain⟨o,z⟩:=R1.dom a z
    exact⟨o,gr.all a o z⟩
   ·subst z
    exact⟨_,Ak⟩
  ·refine M9 R1.sl pr λd v h=>h.same pr (λa o _ e=>gr.all a o e) λa e n1 z=>z.elim n1 λz=>?_
   subst e
   obtain⟨o,w⟩:=h.lies
   rw [z,hl] at w
   cases w
 ·rintro i m σ' H' ⟨rfl,hi,n',ρ',acc,vs,R',hlv,hac,hal,pr,w'⟩
  by_cases hlt:i<ds.length
  ·have ed:ds.drop i=ds[i]::ds.drop (i+1):=List.drop_eq_getElem_cons hlt
   rw [ed] at w'
   obtain⟨go,yl⟩:=(y i M' H' pr R'.ext R'.dom).1 ds[i] (List.getElem?_eq_getElem hlt)
   refine .inr ⟨go,λx H2 hy=>?_⟩
   obtain⟨gr,hx⟩:=yl x H2 hy
   have R2':=R'.step gr.ext (R'.feed.grow gr)
   refine g2 _ M' H2 n' ρ' σ' ds[i] x _ _ R2' hx w' λρ3 σ3 R3 w3=>?_
   refine c2 _ M' H2 n' ρ3 σ3 _ _ R3 w3 λc H4 n4 e4 f4 w4=>?_
   have R4:=R3.step e4 f4
   have p4:Pres M' H' M' H4:=gr.pres.trans (R3.pres e4)
   have l4:H4 l=some (.lst vs):=e4.keep (gr.all _ _ hlv) noU
   cases c with
   | false=>exact⟨ds.length - (i+1),by omega,rfl,hlt,n4,ρ3,acc,vs,R4,l4,hac.pres p4,by omega,pr.trans p4,w4⟩
   | true =>
    refine x2 _ M' H4 n4 ρ3 σ3 _ _ R4 w4 λyv H5 d5 n5 e5 f5 r5 w5=>?_
    have R5:=R4.step e5 f5
    have p5:Pres M' H4 M' H5:=R4.pres e5
    have l5:H5 l=some (.lst vs):=e5.keep l4 noU
    have hy5:=r5.shOf R4.dom hk
    have a5:=(hac.pres p4).pres p5
    have pu:Pres M' H5 M' (BG H5 l (.lst (vs++[yv]))):=EN M'l l5
    have hvl:vs.length=acc.length:=hac.length
    refine⟨vs,l5,by rw [sizeLine_eq]; omega,ds.length - (i+1),by omega,rfl,hlt,n5,ρ3,acc++[d5],vs++[yv],?_,Ak,(a5.append (Ats.one hy5)).pres pu,by rw [List.length_append,List.length_singleton]; omega,(pr.trans p4).trans (p5.trans pu),w5⟩
    refine⟨R5.len,R5.sub,λa z=>?_,λb o e=>?_,R5.fU,R5.uV,R5.vM,?_,λj s hs=>?_,λp hp=>absurd hp (by simp),R5.br0,R5.new,R5.two,λp hp=>absurd hp (by simp)⟩
    ·by_cases ha:a=l
     ·subst ha; exact⟨_,Ak⟩
     ·rw [AT ha]; exact R5.dom a z
    ·obtain⟨o',q1,q2⟩:=R5.ext b o e
     by_cases hb:b=l
     ·subst hb
      have e':H1 b=some o:=e
      rw [hl] at e'; cases e'
     ·exact⟨o',by rw [AT hb]; exact q1,q2⟩
    ·refine f5.pres pu λf o hf e=>?_
     rw [AT (λz=>noU (by rw [← z]; exact R1.fU f hf))]
     exact e
    ·have hs5:=R5.sl j s hs
     cases s with
     | no=>trivial
     | sh d=>obtain⟨v,e1,h2⟩:=hs5; exact⟨v,e1,h2.pres pu⟩
     | br d =>
      obtain⟨v,e1,h2⟩:=hs5
      refine⟨v,e1,h2.same pu (λa o z e=>?_) λ_ _ z=>z⟩
      subst z
      obtain⟨o3,w⟩:=R5.br0 j d a hs e1
      have hal:a≠l:=λz=>by
       have w':H1 a=some o3:=w
       rw [z,hl] at w'; cases w'
      rw [AT hal]; exact e
     | ow d =>
      obtain⟨a,e1,h2,_⟩:=hs5
      exact absurd h2 (R5.new j _ a hs rfl e1).1
     | lt a d =>
      obtain⟨e1,h2,_⟩:=hs5
      exact absurd h2 (R5.new j _ a hs rfl e1).1
     | fd=>exact hs5
  ·have e:i=ds.length:=by omega
   subst e
   rw [List.drop_length] at w'
   refine .inl ⟨(y _ M' H' pr R'.ext R'.dom).2 (Nat.le_refl _),?_⟩
   have eb:Ext C.U H1 H':=R'.ext
   have less:Pres M' H' M H':=Pres.less M'of
   refine q _ H' (.lst acc) n' (e1.trans eb) (R'.feed.pres less λ_ _ _ z=>z) (VR.back e1 ?_) w'
   exact⟨l,rfl,hl,vs,hlv,by rw [hM']; exact hac⟩
theorem Pg{κ:Kd}{i:Nat}{x:Str}{pos' spos:Pos}(hN:X.N.Nodup)(hix:X.N[i]?=some x)(hx:Loc X.env.scope x)(hc:X.calm=true)(N':List Str)(js:List (Option Nat))(hi:WC X tg iter src)(hg:∀cl C s H fp,DG (A4 X sc N' cl C s H fp) tg b)(ht:∀cl C s H fp,WJ (A4 X sc N' cl C s H fp) ifs tt)(he:∀cl C s H fp,DE (A4 X sc N' cl C s H fp) elt κe te)
  (hB:Hb sc X.env.scope X.N N' js=true) (hsw:swapsWith (.ListComp elt [⟨tg,iter,ifs,0⟩] sc pos) (some (.Name x pos')) spos.line X.env=pure true:=by rfl) (hk:κe≠.tp:=by intro z; cases z)
  (hs:∀x,foldedSetIterable iter X.env x=pure x:=by intro _; rfl)
  (hf:X.fn x=true\/X.env.scope.names.lookup x=some .local:=by first | exact .inl rfl | exact .inr rfl | assumption):DS X κ (.Assign [.Name x pos'] (.ListComp elt [⟨tg,iter,ifs,0⟩] sc pos) spos) (A0 i (BY js src b tt te)):=by
 obtain⟨wi,a1,a2⟩:=NT hc N' js hi hg ht he hB hk hs
 refine⟨_,O5 hc N' js a1 hB hN hix hx hsw hs hf,λC M H n ρ σ D2 E R L w=>?_⟩
 refine a2 C M H n ρ σ _ _ R w λv H' d n' e1 f1 r1 p=>?_
 exact L.nx M H' n' _ _ ((R.step e1 f1).set (r1.shOf R.dom (by intro z; cases z))) p
end
end Dp
namespace L2
open PySem PySem.Spec PyProof.Rows
def Wq:R2:=λy x H Q=>∃a o,x=.ref a/\DGet H a y o/\Q (.bl o.isSome) H
def UP:R2:=λy x H Q=>∃a o,x=.ref a/\DGet H a y o/\Q (.bl (!o.isSome)) H
def UQ:R2:=λx y H Q=>∃a v,x=.ref a/\DGet H a y (some v)/\Q v H
theorem VP{X:Cx}{k:Nat}(hr:Room k X.A):OpR X (compareOp .In) Wq:=by
 intro pins s σ H y x iv u Q I ry rx ⟨a,ov,ex,g,q⟩
 subst ex
 obtain rfl:u=Value.ref a:=rx
 exact YB (JH hr) I g ry λs3 I3=>⟨.bl ov.isSome,H,I3,rfl,q⟩
theorem FH{X:Cx}{k:Nat}(hr:Room k X.A):OpR X (compareOp .NotIn) UP:=by
 intro pins s σ H y x iv u Q I ry rx ⟨a,ov,ex,g,q⟩
 subst ex
 obtain rfl:u=Value.ref a:=rx
 exact T6 (JH hr) I g ry λs3 I3=>⟨.bl (!ov.isSome),H,I3,rfl,q⟩
end L2
namespace Dp
open PySem PySem.Spec PyProof.Rows L2
def Bg:List Key->List D->Key->Option D
 | k0::ks,d::ds,k=>if k0=k then some d else Bg ks ds k
 | _,_,_=>none
section
variable {K:Frag}{X:Cx}
theorem Fu{M:Addr->Prop}{H:Hp}{k:Key}:∀{ks:List Key} {ds:List D} {vs:List V},Ats K M H ds vs ->
  match Bg ks ds k with
  | some z=>∃v,DR (ks.zip vs) k=some v/\At K M H z v
  | none=>DR (ks.zip vs) k=none
 | [],ds,vs,h=>by unfold Bg; exact rfl
 | k0::ks,[],vs,h=>by cases h; exact rfl
 | k0::ks,d::ds,vs,h=>by
  obtain⟨v,r,rfl,h1,h2⟩:=h
  have ih:=Fu (k:=k) (ks:=ks) h2
  unfold Bg
  by_cases e:k0=k
  ·rw [if_pos e]
   refine⟨v,?_,h1⟩
   show DR ((k0,v)::ks.zip r) k=some v
   rw [El e]
  ·rw [if_neg e]
   have:DR ((k0,v)::ks.zip r) k=DR (ks.zip r) k:=Em e
   rw [show (k0::ks).zip (v::r)=(k0,v)::ks.zip r from rfl,this]
   exact ih
def keyOf:D->Option Key
 | .int i=>some (.inl i)
 | .str x=>some (.inr x)
 | _=>none
theorem Di{U M:Addr->Prop}{H:Hp}{d:D}{v:V}{k:Key}(e:keyOf d=some k)(h:AtT K U M H d v):v=kV k:=by
 cases d with
 | int i=>cases e; exact h
 | str x=>cases e; exact h.str.1
 | _=>cases e
def JR:D->Option (List Key×List D)
 | .dic ks ds=>some (ks,ds)
 | .fdi ks ds=>some (ks,ds)
 | _=>none
theorem JQ{U M:Addr->Prop}{H:Hp}{d:D}{x:V}{ks:List Key}{ds:List D}(e:JR d=some (ks,ds))(h:AtT K U M H d x):∃a vs,x=.ref a/\Rd H a (.dK (ks.zip vs))/\Ats K M H ds vs:=by
 cases d with
 | dic k2 d2=>cases e; obtain⟨a,vs,rfl,_,ha,_,hs⟩:=h; exact⟨a,vs,rfl,.inl ha,hs⟩
 | fdi k2 d2=>cases e; obtain⟨a,vs,rfl,⟨o,_,ha⟩,_,hs⟩:=h; exact⟨a,vs,rfl,.inr ⟨o,ha⟩,hs⟩
 | _=>cases e
theorem IA{H:Hp}{a:Addr}{kvs:List (Key×V)}{k:Key}(e:Rd H a (.dK kvs)):DGet H a (kV k) (DR kvs k):=.inl ⟨kvs,k,e,rfl,rfl⟩
def JN(neg:Bool)(e d:D)(P:D->Prop):Prop:=∃ks ds k,JR d=some (ks,ds)/\keyOf e=some k/\P (.bl (if neg then !(Bg ks ds k).isSome else (Bg ks ds k).isSome))
def Ct(d e:D)(P:D->Prop):Prop:=∃ks ds k z,JR d=some (ks,ds)/\keyOf e=some k/\Bg ks ds k=some z/\P z
theorem XN:EW K .sh Wq (JN false):=λU M H e d y x P Q dom vM hy hx w q=>by
 obtain⟨ks,ds,k,hd,he,w⟩:=w
 obtain⟨a,vs,rfl,ha,hs⟩:=JQ hd hx
 refine⟨a,DR (ks.zip vs) k,rfl,by rw [Di he hy]; exact IA ha,q _ H (.bl _) .refl rfl ?_⟩
 have h:=Fu (k:=k) (ks:=ks) hs
 cases c:Bg ks ds k with
 | none=>rw [c] at h w; rw [show DR (ks.zip vs) k=none from h]; exact w
 | some z=>rw [c] at h w; obtain⟨v,h1,_⟩:=h; rw [h1]; exact w
theorem Gg:EW K .sh UP (JN true):=λU M H e d y x P Q dom vM hy hx w q=>by
 obtain⟨ks,ds,k,hd,he,w⟩:=w
 obtain⟨a,vs,rfl,ha,hs⟩:=JQ hd hx
 refine⟨a,DR (ks.zip vs) k,rfl,by rw [Di he hy]; exact IA ha,q _ H (.bl _) .refl rfl ?_⟩
 have h:=Fu (k:=k) (ks:=ks) hs
 cases c:Bg ks ds k with
 | none=>rw [c] at h w; rw [show DR (ks.zip vs) k=none from h]; exact w
 | some z=>rw [c] at h w; obtain⟨v,h1,_⟩:=h; rw [h1]; exact w
theorem V1:EW K .sh UQ Ct:=λU M H d e x y P Q dom vM hx hy w q=>by
 obtain⟨ks,ds,k,z,hd,he,hz,w⟩:=w
 obtain⟨a,vs,rfl,ha,hs⟩:=JQ hd hx
 have h:=Fu (k:=k) (ks:=ks) hs
 rw [hz] at h
 obtain⟨v,h1,h2⟩:=h
 exact⟨a,v,rfl,by rw [Di he hy,← h1]; exact IA ha,q v H z .refl h2 w⟩
variable {a b:Expr}{κa κb:Kd}{wa wb:DW}{pos:Pos}
theorem DU{k:Nat}(hr:Room k X.A)(ha:DE X a κa wa)(hb:DE X b κb wb)(hs:V7 b:=by intro _ _; rfl):DE X (.Subscript a b pos) .sh (AS Ct wa wb):=by
 obtain⟨ta,ha1,ha2⟩:=ha
 obtain⟨tb,hb1,hb2⟩:=hb
 exact⟨D9 UQ ta tb,LX (JH hr) ha1 hb1 hs,λC M H n ρ σ P Q R w q=>E7 V1 ha2 hb2 C M H n ρ σ P Q R w q⟩
end
def RH(i:Nat)(w:DW):Al:=λD2 n ρ=>∃a:Int,ρ[i]?=some (.sh (.int a))/\w n ρ λd n1=>∃b:Int,d=.int b/\D2.nx n1 (ρ.set i (.sh (.int (a+b))))
theorem T1{X:Cx}{κ κe:Kd}{e:Expr}{wa:DW}{pos:Pos}{i:Nat}{x:Str}{pos':Pos}(hN:X.N.Nodup)(hi:X.N[i]?=some x)(hx:Loc X.env.scope x)(he:DE X e κe wa)
  (hf:X.fn x=true\/X.env.scope.names.lookup x=some .local:=by first | exact .inl rfl | exact .inr rfl | assumption):DS X κ (.AugAssign (.Name x pos') .Add e pos) (RH i wa):=by
 obtain⟨t,a1,a2⟩:=he
 refine⟨_,VE hN hi hx a1 Vg hf,λC M H n ρ σ D2 E R L w=>?_⟩
 obtain⟨a,ha,w⟩:=w
 obtain⟨v,e1,h1⟩:=R.sl i _ ha
 cases (show v=.int a from h1)
 refine⟨_,getD_some e1,a2 C M H n ρ σ _ _ R w λv H' d n' e1 f1 r1 p=>?_⟩
 obtain⟨b,rfl,p⟩:=p
 exact⟨a,b,rfl,Lr r1,L.nx M H' n' _ _ ((R.step e1 f1).set (d:=.int (a+b)) rfl) p⟩
end Dp
namespace So
open PySem PySem.W PyProof.Rows
section
variable {O:KeyOrd}{key:Nat->O.α}{N:Nat}{cmp:Nat->Nat->(Bool->Shared->Prop)->Shared->Prop}{s:Shared}{p p0:Array Nat}
def KN(O:KeyOrd)(key:Nat->O.α)(p:Array Nat)(i:Nat):O.α:=key (p.getD i 0)
def Srt(O:KeyOrd)(key:Nat->O.α)(p:Array Nat)(k:Nat):Prop:=∀i j,i<=j->j<k->O.kle (KN O key p i) (KN O key p j)
def XU(O:KeyOrd)(key:Nat->O.α)(p:Array Nat)(k:Nat):Prop:=∀i j,i<=j->j<k->O.kle (KN O key p j) (KN O key p i)
def Uj(O:KeyOrd)(key:Nat->O.α)(N:Nat)(cmp:Nat->Nat->(Bool->Shared->Prop)->Shared->Prop)(s:Shared):Prop:=∀(i j:Nat) (C:Bool->Shared->Prop),i<N->j<N->C (O.blt (key i) (key j)) s->cmp i j C s
def Bd(N:Nat)(p:Array Nat):Prop:=0<N/\∀x∈p,x<N
theorem Lu(p:Array Nat)(i:Nat):p.getD i 0=(p[i]?).getD 0:=by
 simp
theorem Bd.get(h:Bd N p)(i:Nat):p.getD i 0<N:=by
 rw [Lu]
 cases e:p[i]? with
 | none=>exact h.1
 | some x=>exact h.2 x (Array.mem_of_getElem? e)
theorem Bd.perm{p':Array Nat}(h:Bd N p)(hp:p'.Perm p):Bd N p':=⟨h.1,λx hx=>h.2 x (hp.mem_iff.mp hx)⟩
theorem FE{p q:Array Nat}{i j:Nat}(h:p[i]?=q[j]?):KN O key p i=KN O key q j:=by
 unfold KN
 rw [Lu,Lu,h]
theorem Kx{src d:Nat}(hs:src<p.size)(hd:d<=src)(k:Nat) :
  KN O key (bubble p src d) k=if k=src - d then KN O key p src else if src - d<k/\k<=src then KN O key p (k - 1) else KN O key p k:=by
 have e:=getElem?_bubble hs d hd k
 by_cases h1:k=src - d
 ·rw [if_pos h1] at e ⊢; exact FE e
 ·rw [if_neg h1] at e ⊢
  by_cases h2:src - d<k/\k<=src
  ·rw [if_pos h2] at e ⊢; exact FE e
  ·rw [if_neg h2] at e ⊢; exact FE e
theorem HK{i j:Nat}(hj:j<=p.size)(k:Nat):KN O key (kas_rev p i j) k=if i<=k/\k<j then KN O key p (i+j - 1 - k) else KN O key p k:=by
 have e:=getElem?_mirror_all (i:=i) hj k
 unfold kas_rev
 by_cases h1:i<=k/\k<j
 ·rw [if_pos h1] at e ⊢; exact FE e
 ·rw [if_neg h1] at e ⊢; exact FE e
theorem Bw{i j:Nat}(hj:j<=p.size)(heq:∀k,i<=k->k<j->KN O key p k=KN O key p (j - 1))(k:Nat):KN O key (kas_rev p i j) k=KN O key p k:=by
 rw [HK hj]
 split
 ·rw [heq _ (by omega) (by omega),heq k (by omega) (by omega)]
 ·rfl
theorem Cp(p:Array Nat)(i j:Nat):(kas_rev p i j).Perm p:=mirror_perm _ _ _ _
theorem yes{α:Type}{T₁ T₂:KasT α}{Q:α->Shared->Prop}(h:T₁.kasWp cmp Q s):(if true=true then T₁ else T₂).kasWp cmp Q s:=by rw [if_pos rfl]; exact h
theorem no{α:Type}{T₁ T₂:KasT α}{Q:α->Shared->Prop}(h:T₂.kasWp cmp Q s):(if false=true then T₁ else T₂).kasWp cmp Q s:=by rw [if_neg (by simp)]; exact h
theorem Of(hC:Uj O key N cmp s)(hb:Bd N p){nrem:Nat}{G:Nat->Shared->Prop}:∀(f n:Nat),1<=n->n+f=nrem->Srt O key p n ->
  (∀m,n<=m->m<=nrem->Srt O key p m->(m=nrem\/O.klt (KN O key p m) (KN O key p (m - 1)))->G m s)->(kas_asc p f n).kasWp cmp G s
 | 0,n,_,e,hs,h=>h n (Nat.le_refl _) (by omega) hs (.inl (by omega))
 | f+1,n,h1,e,hs,h=>by
  show cmp (p.getD n 0) (p.getD (n - 1) 0) (λc s'=>(if c=true then KasT.ret n else kas_asc p f (n+1)).kasWp cmp G s') s
  refine hC _ _ _ (hb.get n) (hb.get _) ?_
  cases hless:O.blt (key (p.getD n 0)) (key (p.getD (n - 1) 0)) with
  | true=>exact yes (h n (Nat.le_refl _) (by omega) hs (.inr hless))
  | false =>
   refine no (Of hC hb f (n+1) (by omega) (by omega) (λi j hij hj=>?_) λm m1 m2 m3 m4=>h m (by omega) m2 m3 m4)
   by_cases hjx:j<n
   ·exact hs i j hij hjx
   ·have hj':j=n:=by omega
    subst hj'
    by_cases hi':i=j
    ·subst hi'; exact KeyOrd.kle_refl _
    ·exact KeyOrd.kle_trans (hs i (j - 1) (by omega) (by omega)) hless
theorem IB(hC:Uj O key N cmp s){nrem:Nat}{G:Array Nat×Nat×Nat->Shared->Prop}:∀(f:Nat) (p:Array Nat) (n q:Nat),p.Perm p0->Bd N p->nrem<=p.size->1<=n->n+f=nrem->XU O key p n->q+1<=n ->
  (∀i,n - (q+1)<=i->i<n->KN O key p i=KN O key p (n - 1)) ->
  (∀p' m q',p'.Perm p0->Bd N p'->p'.size=p.size->n<=m->m<=nrem->XU O key p' m->q'+1<=m->(∀i,m - (q'+1)<=i->i<m->KN O key p' i=KN O key p' (m - 1))->G (p',m,q') s)->(kas_desc f p n q).kasWp cmp G s
 | 0,p,n,q,hp,hb,hz,h1,e,hs,hq,he,h=>h p n q hp hb rfl (Nat.le_refl _) (by omega) hs hq he
 | f+1,p,n,q,hp,hb,hz,h1,e,hs,hq,he,h=>by
  show cmp (p.getD n 0) (p.getD (n - 1) 0) (λc s'=>(if c=true then (if q > 0 then kas_desc f (kas_rev p (n - (q+1)) n) (n+1) 0 else kas_desc f p (n+1) 0)
   else .ask (p.getD (n - 1) 0) (p.getD n 0) λd=>if d=true then .ret (p,n,q) else kas_desc f p (n+1) (q+1)).kasWp cmp G s') s
  refine hC _ _ _ (hb.get n) (hb.get _) ?_
  cases hless:O.blt (key (p.getD n 0)) (key (p.getD (n - 1) 0)) with
  | true =>
   have hl:O.klt (KN O key p n) (KN O key p (n - 1)):=hless
   have step1:∀xs:Array Nat,(∀k,KN O key xs k=KN O key p k)->XU O key xs (n+1):=by
    intro xs hk i j hij hj
    rw [hk,hk]
    by_cases hjx:j<n
    ·exact hs i j hij hjx
    ·have hj':j=n:=by omega
     subst hj'
     by_cases hi':i=j
     ·subst hi'; exact KeyOrd.kle_refl _
     ·exact KeyOrd.kle_trans (KeyOrd.kle_of_klt hl) (hs i (j - 1) (by omega) (by omega))
   refine yes ?_
   have hsz:n<=p.size:=by omega
   by_cases hq0:q > 0
   ·rw [if_pos hq0]
    refine IB hC f _ (n+1) 0 ((Cp _ _ _).trans hp) (hb.perm (Cp _ _ _)) (by rw [kas_rev_size]; exact hz) (by omega) (by omega) (step1 _ (Bw hsz he)) (by omega) (λi a b=>by congr 1; omega) λp' m q' a1 a2 a3 a4 a5 a6 a7 a8=>h p' m q' a1 a2 (a3.trans (kas_rev_size _ _)) (by omega) a5 a6 a7 a8
   ·rw [if_neg hq0]
    exact IB hC f _ (n+1) 0 hp hb hz (by omega) (by omega) (step1 _ λ_=>rfl) (by omega) (λi a b=>by congr 1; omega) λp' m q' a1 a2 a3 a4 a5 a6 a7 a8=>h p' m q' a1 a2 a3 (by omega) a5 a6 a7 a8
  | false =>
   refine no ?_
   show cmp (p.getD (n - 1) 0) (p.getD n 0) (λd s'=>(if d=true then KasT.ret (p,n,q) else kas_desc f p (n+1) (q+1)).kasWp cmp G s') s
   refine hC _ _ _ (hb.get _) (hb.get n) ?_
   cases hlarger:O.blt (key (p.getD (n - 1) 0)) (key (p.getD n 0)) with
   | true=>exact yes (h p n q hp hb rfl (Nat.le_refl _) (by omega) hs hq he)
   | false =>
    have heqx:KN O key p n=KN O key p (n - 1):=KeyOrd.kle_antisymm (O:=O) hlarger hless
    refine no (IB hC f p (n+1) (q+1) hp hb hz (by omega) (by omega) (λi j hij hj=>?_) (by omega) (λi a b=>?_) λp' m q' a1 a2 a3 a4 a5 a6 a7 a8=>h p' m q' a1 a2 a3 (by omega) a5 a6 a7 a8)
    ·by_cases hjx:j<n
     ·exact hs i j hij hjx
     ·have hj':j=n:=by omega
      subst hj'
      by_cases hi':i=j
      ·subst hi'; exact KeyOrd.kle_refl _
      ·rw [heqx]; exact hs i (j - 1) (by omega) (by omega)
    ·rw [show n+1 - 1=n by omega]
     by_cases hix:i=n
     ·subst hix; rfl
     ·rw [heqx]; exact he i (by omega) (by omega)
theorem MN(hC:Uj O key N cmp s){n nrem:Nat}{G:Nat×Array Nat->Shared->Prop}(hp:p.Perm p0)(hb:Bd N p)(hz:nrem<=p.size)(h1:1<=n)(hn:n<=nrem)(hs:XU O key p n)
  (h:∀m p',p'.Perm p0->Bd N p'->p'.size=p.size->1<=m->m<=nrem->Srt O key p' m->G (m,p') s):(kas_tail3 n nrem p).kasWp cmp G s:=by
 unfold kas_tail3
 rw [KasT.kasWp_bind]
 have hsz:n<=p.size:=by omega
 refine Of hC (hb.perm (Cp _ _ _)) (nrem - n) n h1 (by omega) (λi j hij hj=>?_) λm m1 m2 m3 _=>h m _ ((Cp _ _ _).trans hp) (hb.perm (Cp _ _ _)) (kas_rev_size _ _) (by omega) m2 m3
 rw [HK hsz,HK hsz,if_pos (by omega),if_pos (by omega)]
 exact hs _ _ (by omega) (by omega)
theorem HY(hC:Uj O key N cmp s){n nrem:Nat}{G:Nat×Array Nat->Shared->Prop}(hp:p.Perm p0)(hb:Bd N p)(hz:nrem<=p.size)(hn:n+1<=nrem)(hs:XU O key p (n+1))
  (h:∀m p',p'.Perm p0->Bd N p'->p'.size=p.size->1<=m->m<=nrem->Srt O key p' m->G (m,p') s):(kas_descPart n nrem p).kasWp cmp G s:=by
 unfold kas_descPart
 rw [KasT.kasWp_bind]
 refine IB (p0:=p0) hC (nrem - (n+1)) p (n+1) 0 hp hb hz (by omega) (by omega) hs (by omega) (λi a b=>by congr 1; omega) λp' m q' a1 a2 a3 a4 a5 a6 a7 a8=>?_
 have hsz:m<=p'.size:=by omega
 show (if q' > 0 then kas_tail3 m nrem (kas_rev p' (m - (q'+1)) m) else kas_tail3 m nrem p').kasWp cmp G s
 by_cases hq0:q' > 0
 ·rw [if_pos hq0]
  refine MN hC ((Cp _ _ _).trans a1) (a2.perm (Cp _ _ _)) (by rw [kas_rev_size]; omega) (by omega) a5 (λi j hij hj=>?_) λm' p'' b1 b2 b3 b4 b5 b6=>h m' p'' b1 b2 (b3.trans ((kas_rev_size _ _).trans a3)) b4 b5 b6
  rw [Bw hsz a8,Bw hsz a8]
  exact a6 i j hij hj
 ·rw [if_neg hq0]
  exact MN hC a1 a2 (by omega) (by omega) a5 a6 λm' p'' b1 b2 b3 b4 b5 b6=>h m' p'' b1 b2 (b3.trans a3) b4 b5 b6
theorem Ss(hC:Uj O key N cmp s){nrem:Nat}{G:Nat×Array Nat->Shared->Prop}(hp:p.Perm p0)(hb:Bd N p)(hz:nrem<=p.size)(h1:1<=nrem)
  (h:∀m p',p'.Perm p0->Bd N p'->p'.size=p.size->1<=m->m<=nrem->Srt O key p' m->G (m,p') s):(kas_count nrem p).kasWp cmp G s:=by
 unfold kas_count
 rw [KasT.kasWp_bind]
 refine Of (nrem:=nrem) hC hb (nrem - 1) 1 (Nat.le_refl _) (by omega) (λi j hij hj=>by have:i=j:=(by omega); subst this; exact KeyOrd.kle_refl _) λn hn1 hn2 hsn hor=>?_
 by_cases hnn:n=nrem
 ·rw [if_pos (by simpa using hnn)]
  exact h n p hp hb rfl hn1 hn2 hsn
 ·rw [if_neg (by simpa using hnn)]
  have hlt:O.klt (KN O key p n) (KN O key p (n - 1)):=hor.resolve_left hnn
  by_cases hgt:n > 1
  ·rw [if_pos hgt]
   show cmp (p.getD 0 0) (p.getD (n - 1) 0) (λc s'=>(if c=true then KasT.ret (n,p) else kas_descPart n nrem (kas_rev p 0 n)).kasWp cmp G s') s
   refine hC _ _ _ (hb.get _) (hb.get _) ?_
   cases hrose:O.blt (key (p.getD 0 0)) (key (p.getD (n - 1) 0)) with
   | true=>exact yes (h n p hp hb rfl hn1 hn2 hsn)
   | false =>
    have hrose':O.kle (KN O key p (n - 1)) (KN O key p 0):=hrose
    have hsz:n<=p.size:=by omega
    have hall:∀k,0<=k->k<n->KN O key p k=KN O key p (n - 1):=by
     intro k _ hk
     have a1:=hsn 0 k (by omega) hk
     have a2:=hsn k (n - 1) (by omega) (by omega)
     exact KeyOrd.kle_antisymm a2 (KeyOrd.kle_trans hrose' a1)
    refine no (HY hC ((Cp _ _ _).trans hp) (hb.perm (Cp _ _ _)) (by rw [kas_rev_size]; exact hz) (by omega) (λi j hij hj=>?_) λm' p'' b1 b2 b3 b4 b5 b6=>h m' p'' b1 b2 (b3.trans (kas_rev_size _ _)) b4 b5 b6)
    rw [Bw hsz hall,Bw hsz hall]
    by_cases hjn:j<n
    ·rw [hall i (by omega) (by omega),hall j (by omega) hjn]; exact KeyOrd.kle_refl _
    ·have hj':j=n:=by omega
     subst hj'
     by_cases hi':i=j
     ·subst hi'; exact KeyOrd.kle_refl _
     ·rw [hall i (by omega) (by omega)]; exact KeyOrd.kle_of_klt hlt
  ·rw [if_neg hgt]
   have hn1':n=1:=by omega
   subst hn1'
   refine HY hC hp hb hz (by omega) (λi j hij hj=>?_) h
   by_cases hi':i=j
   ·subst hi'; exact KeyOrd.kle_refl _
   ·have hi0:i=0:=by omega
    have hj1:j=1:=by omega
    subst hi0; subst hj1
    exact KeyOrd.kle_of_klt hlt
theorem Ip(hC:Uj O key N cmp s)(hb:Bd N p){k:Nat}(hs:Srt O key p k){G:Nat->Shared->Prop}
  (h:∀l,l<=k->(∀i,i<l->O.kle (KN O key p i) (KN O key p k))->(∀i,l<=i->i<k->O.klt (KN O key p k) (KN O key p i))->G l s):∀(f l r:Nat),l<=r->r<=k->r - l<=f ->
  (∀i,i<l->O.kle (KN O key p i) (KN O key p k))->(∀i,r<=i->i<k->O.klt (KN O key p k) (KN O key p i))->(kas_place p k f l r).kasWp cmp G s
 | 0,l,r,hlr,hrk,hm,hlo,hhi=>by
  have:l=r:=by omega
  subst this
  exact h l hrk hlo hhi
 | f+1,l,r,hlr,hrk,hm,hlo,hhi=>by
  unfold kas_place
  by_cases hge:l≥r
  ·rw [if_pos hge]
   have:l=r:=by omega
   subst this
   exact h l hrk hlo hhi
  ·rw [if_neg hge]
   show cmp (p.getD k 0) (p.getD ((l+r) / 2) 0) (λc s'=>(if c=true then kas_place p k f l ((l+r) / 2) else kas_place p k f ((l+r) / 2+1) r).kasWp cmp G s') s
   refine hC _ _ _ (hb.get _) (hb.get _) ?_
   cases hless:O.blt (key (p.getD k 0)) (key (p.getD ((l+r) / 2) 0)) with
   | true =>
    have hl:O.klt (KN O key p k) (KN O key p ((l+r) / 2)):=hless
    exact yes (Ip hC hb hs h f l ((l+r) / 2) (by omega) (by omega) (by omega) hlo λi h1 h2=>KeyOrd.klt_of_klt_of_kle hl (hs _ _ h1 h2))
   | false =>
    have hl:O.kle (KN O key p ((l+r) / 2)) (KN O key p k):=hless
    exact no (Ip hC hb hs h f ((l+r) / 2+1) r (by omega) (by omega) (by omega) (λi h1=>KeyOrd.kle_trans (hs i ((l+r) / 2) (by omega) (by omega)) hl) hhi)
theorem E7(hC:Uj O key N cmp s){n:Nat}{G:Array Nat->Shared->Prop}(h:∀p',p'.Perm p0->Srt O key p' n->G p' s):∀(f:Nat) (p:Array Nat) (k:Nat),p.Perm p0->Bd N p->n<=p.size->k+f=n->Srt O key p k->(kas_bin f p k).kasWp cmp G s
 | 0,p,k,hp,hb,hz,e,hs=>h p hp (by rw [← e]; exact hs)
 | f+1,p,k,hp,hb,hz,e,hs=>by
  rw [show kas_bin (f+1) p k=(kas_place p k k 0 k).bind λl=>kas_bin f (bubble p k (k - l)) (k+1) from rfl,KasT.kasWp_bind]
  refine Ip hC hb hs (λl hlk hlo hhi=>?_) k 0 k (Nat.zero_le _) (Nat.le_refl _) (by omega) (λi hi=>by omega) λi a b=>by omega
  have hks:k<p.size:=by omega
  refine E7 hC h f _ (k+1) ((bubble_perm _ _ _).trans hp) (hb.perm (bubble_perm _ _ _)) (by rw [bubble_size]; exact hz) (by omega) λi j hij hj=>?_
  rw [Kx hks (by omega),Kx hks (by omega),show k - (k - l)=l by omega]
  by_cases hi1:i=l
  ·rw [if_pos hi1]
   by_cases hj1:j=l
   ·rw [if_pos hj1]; exact KeyOrd.kle_refl _
   ·rw [if_neg hj1,if_pos (by omega)]
    exact KeyOrd.kle_of_klt (hhi (j - 1) (by omega) (by omega))
  ·rw [if_neg hi1]
   by_cases hi2:l<i/\i<=k
   ·rw [if_pos hi2,if_neg (by omega),if_pos (by omega)]
    exact hs (i - 1) (j - 1) (by omega) (by omega)
   ·rw [if_neg hi2]
    by_cases hj1:j=l
    ·rw [if_pos hj1]; exact hlo i (by omega)
    ·rw [if_neg hj1]
     by_cases hj2:l<j/\j<=k
     ·rw [if_pos hj2]
      exact hs i (j - 1) (by omega) (by omega)
     ·rw [if_neg hj2]
      exact hs i j hij (by omega)
theorem sort_ok{n:Nat}(h1:1<=n)(hC:Uj O key n cmp s){G:Array Nat->Shared->Prop}(h:∀p,p.Perm (List.toArray (List.range n))->Srt O key p n->G p s):(kas_sort n).kasWp cmp G s:=by
 unfold kas_sort
 rw [KasT.kasWp_bind]
 have hb:Bd n (List.toArray (List.range n)):=⟨h1,λx hx=>by simpa using hx⟩
 have hsz:(List.toArray (List.range n)).size=n:=by simp
 refine Ss hC (Array.Perm.refl _) hb (by omega) h1 λm p' a1 a2 a3 a4 a5 a6=>?_
 show (if m<n then kas_bin (n - max m 1) p' (max m 1) else KasT.ret p').kasWp cmp G s
 by_cases hlt:m<n
 ·rw [if_pos hlt,show max m 1=m by omega]
  exact E7 (p0:=List.toArray (List.range n)) hC h (n - m) p' m a1 a2 (by omega) (by omega) a6
 ·rw [if_neg hlt]
  exact h p' a1 (by rw [show n=m by omega]; exact a6)
end
end So
namespace L2
open PySem PySem.Spec PyProof.Rows PySem.W
def VT:Key->Key->Bool
 | .inl i,.inl j=>decide (i<j)
 | .inr x,.inr y=>decide (x.cps.toList<y.cps.toList)
 | .inl _,.inr _=>true
 | .inr _,.inl _=>false
def Bh:List Key->List Key->Bool
 | [],[]=>false
 | [],_::_=>true
 | _::_,[]=>false
 | x::xs,y::ys=>if x=y then Bh xs ys else VT x y
theorem OS:∀x:Key,VT x x=false
 | .inl i=>decide_eq_false (Int.lt_irrefl i)
 | .inr x=>decide_eq_false (List.lt_irrefl _)
theorem Qf:∀x y z:Key,VT x y=true->VT y z=true->VT x z=true
 | .inl i,.inl j,.inl k,h1,h2=>decide_eq_true (Int.lt_trans (of_decide_eq_true h1) (of_decide_eq_true h2))
 | .inr i,.inr j,.inr k,h1,h2=>decide_eq_true (List.lt_trans (of_decide_eq_true h1) (of_decide_eq_true h2))
 | .inl i,.inl j,.inr k,_,_=>rfl
 | .inl i,.inr j,.inr k,_,_=>rfl
 | .inl i,.inr j,.inl k,_,h=>by cases h
 | .inr i,.inl j,_,h,_=>by cases h
 | .inr i,.inr j,.inl k,_,h=>by cases h
theorem Qg:∀x y:Key,VT x y=false->VT y x=false->x=y
 | .inl i,.inl j,h1,h2=>congrArg Sum.inl (by have a:=of_decide_eq_false h1; have b:=of_decide_eq_false h2; omega)
 | .inr x,.inr y,h1,h2=>by
  have a:=of_decide_eq_false h1
  have b:=of_decide_eq_false h2
  have e:x.cps.toList=y.cps.toList:=List.le_antisymm (as:=x.cps.toList) (bs:=y.cps.toList) b a
  obtain⟨u⟩:=x
  obtain⟨v⟩:=y
  exact congrArg Sum.inr (congrArg Str.mk (Array.ext' e))
 | .inl i,.inr j,h,_=>by cases h
 | .inr i,.inl j,_,h=>by cases h
theorem DF:∀x:List Key,Bh x x=false
 | []=>rfl
 | x::xs=>by unfold Bh; rw [if_pos rfl]; exact DF xs
theorem C5:∀x y z:List Key,Bh x y=true->Bh y z=true->Bh x z=true
 | [],[],_,h,_=>by cases h
 | [],_::_,[],_,h=>by cases h
 | [],_::_,_::_,_,_=>rfl
 | _::_,[],_,h,_=>by cases h
 | _::_,_::_,[],_,h=>by cases h
 | x::xs,y::ys,z::zs,h1,h2=>by
  unfold Bh at h1 h2 ⊢
  by_cases e1:x=y
  ·subst e1
   rw [if_pos rfl] at h1
   by_cases e2:x=z
   ·subst e2
    rw [if_pos rfl] at h2 ⊢
    exact C5 xs ys zs h1 h2
   ·rw [if_neg e2] at h2 ⊢
    exact h2
  ·rw [if_neg e1] at h1
   by_cases e2:y=z
   ·subst e2
    rw [if_neg e1]
    exact h1
   ·rw [if_neg e2] at h2
    have h3:=Qf x y z h1 h2
    by_cases e3:x=z
    ·subst e3
     rw [OS] at h3
     cases h3
    ·rw [if_neg e3]
     exact h3
theorem Dg:∀x y:List Key,Bh x y=false->Bh y x=false->x=y
 | [],[],_,_=>rfl
 | [],_::_,h,_=>by cases h
 | _::_,[],_,h=>by cases h
 | x::xs,y::ys,h1,h2=>by
  unfold Bh at h1 h2
  by_cases e:x=y
  ·subst e
   rw [if_pos rfl] at h1 h2
   rw [Dg xs ys h1 h2]
  ·rw [if_neg e] at h1
   rw [if_neg (λz=>e z.symm)] at h2
   exact absurd (Qg x y h1 h2) e
def QP:KeyOrd:=⟨List Key,Bh,DF,C5,λa b c h=>by
 cases h1:Bh a b with
 | true=>exact .inl rfl
 | false =>
  cases h2:Bh b a with
  | true=>exact .inr (C5 b a c h2 h)
  | false=>rw [← Dg a b h1 h2]; exact .inr h,Dg⟩
theorem GH:∀x y:List Key,CV x y=true->ER x y=Bh x y
 | [],[],_=>rfl
 | [],_::_,_=>rfl
 | _::_,[],_=>rfl
 | x::xs,y::ys,h=>by
  have h':(KU x y&&CV xs ys)=true:=h
  rw [Bool.and_eq_true] at h'
  unfold ER Bh
  by_cases e:x=y
  ·rw [if_pos e,if_pos e]; exact GH xs ys h'.2
  ·rw [if_neg e,if_neg e]
   cases x with
   | inl i=>cases y with
    | inl j=>rfl
    | inr z=>cases h'.1
   | inr i=>cases y with
    | inl j=>cases h'.1
    | inr z=>rfl
section
variable {prog:Program}{w:World}{A:Around}{E:Value->Shared->Prop}{s:Shared}
theorem SK{b:Bool}{Q:Bool->Shared->Prop}{nx ny:Nat}:∀(ns ms:List Key) (us ws:List Value) (i:Nat),Vals (ns.map kOf) us->Vals (ms.map kOf) ws->CV ns ms=true->ns.length+ny=ms.length+nx->Q (ER ns ms) s ->
  KatLex prog w A b (decide (nx<ny)) Q (us.zip ws) i s
 | [],[],us,ws,i,h1,h2,_,hl,q=>by
  cases h1
  cases h2
  refine kat_nil ?_
  rw [show decide (nx<ny)=false from decide_eq_false (by simp only [List.length_nil] at hl; omega)]
  exact q
 | [],m::ms,us,ws,i,h1,h2,_,hl,q=>by
  cases h1
  rw [List.zip_nil_left]
  refine kat_nil ?_
  rw [show decide (nx<ny)=true from decide_eq_true (by simp only [List.length_nil,List.length_cons] at hl; omega)]
  exact q
 | n::ns,[],us,ws,i,h1,h2,_,hl,q=>by
  cases h2
  rw [List.zip_nil_right]
  refine kat_nil ?_
  rw [show decide (nx<ny)=false from decide_eq_false (by simp only [List.length_nil,List.length_cons] at hl; omega)]
  exact q
 | n::ns,m::ms,us,ws,i,h1,h2,hs,hl,q=>by
  have hs':(KU n m&&CV ns ms)=true:=hs
  rw [Bool.and_eq_true] at hs'
  have q':Q (if n=m then ER ns ms else Xf n m) s:=q
  cases h1 with
  | @cons _ u _ ur r1 t1 =>
   cases h2 with
   | @cons _ v _ vr r2 t2 =>
    rw [List.zip_cons_cons]
    have ih:n=m->KatLex prog w A b (decide (nx<ny)) Q (ur.zip vr) (i+1) s:=λe=>SK ns ms ur vr (i+1) t1 t2 hs'.2 (by simp only [List.length_cons] at hl; omega) (by rw [if_pos e] at q'; exact q')
    cases n with
    | inl x =>
     cases m with
     | inr y=>cases hs'.1
     | inl y =>
      obtain⟨tu,rfl⟩:=r1
      obtain⟨tv,rfl⟩:=r2
      refine kat_cons (wpAny_eqBool_int ?_)
      by_cases e:x=y
      ·rw [show (x==y)=true by simpa using e]
       exact kat_yes (ih (by rw [e]))
      ·rw [show (x==y)=false by simpa using e]
       refine kat_no ?_
       rw [if_neg (λz=>e (Sum.inl.inj z))] at q'
       cases hf:(b&&i==0) with
       | true=>exact oneLt_int q'
       | false=>exact kat_one _ _ (PyProof.Rows.lt_int (show PySem.W.BoolBack Q (.bool (decide (x<y))) s from q'))
    | inr x =>
     cases m with
     | inl y=>cases hs'.1
     | inr y =>
      obtain⟨tu,rfl⟩:=r1
      obtain⟨tv,rfl⟩:=r2
      refine kat_cons (wpAny_eqBool_str ?_)
      by_cases e:x=y
      ·rw [show decide (x=y)=true by simpa using e]
       exact kat_yes (ih (by rw [e]))
      ·rw [show decide (x=y)=false by simpa using e]
       refine kat_no ?_
       rw [if_neg (λz=>e (Sum.inr.inj z))] at q'
       cases hf:(b&&i==0) with
       | true=>exact oneLt_str q'
       | false=>exact kat_one _ _ (PySem.P.lt_str (show PySem.W.BoolBack Q (.bool (decide (x.cps.toList<y.cps.toList))) s from q'))
structure Pz (h:Heap) (ks:List Value) (keys:List (List Key)):Prop where
 at_:∀(i:Nat) (ns:List Key),keys[i]?=some ns->∃a o its n,ks[i]?=some (.ref a)/\h.get? a=some o/\o.cls=.type "tuple"/\o.data=.seq its n/\Vals (ns.map kOf) its.toList
 len:ks.length=keys.length
 same:∀x∈keys,∀y∈keys,CV x y=true
 ne:∀x∈keys,x≠[]
def Xa:Key->String
 | .inl _ => "int"
 | .inr _ => "str"
theorem firsts{h:Heap}:∀(ks:List Value) (keys:List (List Key)) (T:String),ks.length=keys.length->(∀(i:Nat) (ns:List Key),keys[i]?=some ns->∃a o its n,ks[i]?=some (.ref a)/\h.get? a=some o/\o.cls=.type "tuple"/\o.data=.seq its n/\Vals (ns.map kOf) its.toList) ->
  (∀x∈keys,∃k r,x=k::r/\Xa k=T)->∃fs:List Value,KatTups h ks fs/\fs.length=keys.length/\∀v∈fs,typeOf v=pure (.type T)
 | [],[],T,_,_,_=>⟨[],trivial,rfl,λv hv=>by cases hv⟩
 | [],_::_,T,hl,_,_=>by cases hl
 | _::_,[],T,hl,_,_=>by cases hl
 | k::ks,x::keys,T,hl,h1,h2=>by
  obtain⟨fs,g1,g2,g3⟩:=firsts ks keys T (by simpa using hl) (λi ns e=>by
   obtain⟨a,o,its,n,e1,r⟩:=h1 (i+1) ns (by simpa using e)
   exact⟨a,o,its,n,by simpa using e1,r⟩) λy hy=>h2 y (List.mem_cons_of_mem _ hy)
  obtain⟨a,o,its,n,e1,e2,e3,e4,e5⟩:=h1 0 x rfl
  have e1:k=.ref a:=by simpa using e1
  subst e1
  obtain⟨k,r,rfl,hk⟩:=h2 x List.mem_cons_self
  rw [List.map_cons] at e5
  cases hits:its.toList with
  | nil=>rw [hits] at e5; cases e5
  | cons f tl =>
   rw [hits] at e5
   cases e5 with
   | cons r1 r2 =>
    refine⟨f::fs,KatTups.cons e2 e3 e4 (by rw [← Array.getElem?_toList,hits]; rfl) g1,by rw [List.length_cons,List.length_cons,g2],λv hv=>?_⟩
    rcases List.mem_cons.mp hv with rfl | hv
    ·cases k with
     | inl i=>obtain⟨t,rfl⟩:=r1; subst hk; rfl
     | inr i=>obtain⟨t,rfl⟩:=r1; subst hk; rfl
    ·exact g3 v hv
theorem KQ{ks:List Value}{keys:List (List Key)}(K:Pz s.heap ks keys)(h2:2<=ks.length){G:Array Nat->Shared->Prop}(h:∀p,p.Perm (List.toArray (List.range ks.length))->So.Srt QP (λi=>keys.getD i []) p ks.length->G p s) :
  wpAny (model prog w) A (keyKind' ks.toArray) (λκ s'=>(kas_sort ks.length).kasWp (kas_ask prog w A κ ks) G s') (λ_ _=>False) s:=by
 obtain⟨x0,xr,hx⟩:∃x0 xr,keys=x0::xr:=by
  cases e:keys with
  | nil=>have:=K.len; rw [e] at this; simp only [List.length_nil] at this; omega
  | cons x r=>exact⟨x,r,rfl⟩
 have m0:x0∈keys:=by rw [hx]; exact List.mem_cons_self
 obtain⟨k0,r0,e0⟩:∃k r,x0=k::r:=by
  cases e:x0 with
  | nil=>exact absurd e (K.ne x0 m0)
  | cons k r=>exact⟨k,r,rfl⟩
 have hty:∀x∈keys,∃k r,x=k::r/\Xa k=Xa k0:=λx hm=>by
  cases e:x with
  | nil=>exact absurd e (K.ne x hm)
  | cons k r =>
   refine⟨k,r,rfl,?_⟩
   have hsm:=K.same x hm x0 m0
   rw [e,e0] at hsm
   have hsm:(KU k k0&&CV r r0)=true:=hsm
   rw [Bool.and_eq_true] at hsm
   cases k with
   | inl i=>cases k0 with
    | inl j=>rfl
    | inr j=>cases hsm.1
   | inr i=>cases k0 with
    | inl j=>cases hsm.1
    | inr j=>rfl
 obtain⟨fs,g1,g2,g3⟩:=firsts ks keys (Xa k0) K.len K.at_ hty
 refine kat_kind g1 (by rw [g2,← K.len]; omega) (λv hv=>by rw [g3 v hv]; exact Looks.now) (by simp) ?_
 refine So.sort_ok (O:=QP) (key:=λi=>keys.getD i []) (by omega) (λi j C hi hj hC=>?_) h
 have hi':i<keys.length:=by rw [← K.len]; exact hi
 have hj':j<keys.length:=by rw [← K.len]; exact hj
 obtain⟨a,o,its,n,e1,e2,e3,e4,e5⟩:=K.at_ i keys[i] (List.getElem?_eq_getElem hi')
 obtain⟨a',o',its',n',e1',e2',e3',e4',e5'⟩:=K.at_ j keys[j] (List.getElem?_eq_getElem hj')
 unfold kas_ask
 rw [show ks.getD i Value.none=.ref a by rw [List.getD_eq_getElem?_getD,e1]; rfl,show ks.getD j Value.none=.ref a' by rw [List.getD_eq_getElem?_getD,e1']; rfl]
 have hsm:=K.same _ (List.getElem_mem hi') _ (List.getElem_mem hj')
 refine kat_lt e2 e4 e2' e4' (SK keys[i] keys[j] _ _ 0 e5 e5' hsm ?_ ?_)
 ·have l1:=e5.length
  have l2:=e5'.length
  have l3:(keys[i].map kOf).length=keys[i].length:=List.length_map ..
  have l4:(keys[j].map kOf).length=keys[j].length:=List.length_map ..
  have l5:its.toList.length=its.size:=Array.length_toList
  have l6:its'.toList.length=its'.size:=Array.length_toList
  omega
 ·rw [GH _ _ hsm]
  have g1:keys.getD i []=keys[i]:=by rw [List.getD_eq_getElem?_getD,List.getElem?_eq_getElem hi']; rfl
  have g2:keys.getD j []=keys[j]:=by rw [List.getD_eq_getElem?_getD,List.getElem?_eq_getElem hj']; rfl
  have hC':C (Bh (keys.getD i []) (keys.getD j [])) s:=hC
  rw [g1,g2] at hC'
  exact hC'
theorem Fv{v:Value}{kw:List (Str×Value)}{Q:Value->Shared->Prop}(ha1:argsOk "sorted" ⟨[v],kw⟩)(ha2:∀x,argsOk "list.sort" ⟨[.ref x],kw⟩)
  (hc:wpAny (model prog w) A.in1 (collect v) (λvs s1=>vs.length<=sizeLine/\wpAny (model prog w) A.in1.in1 (Builtin.«list.sort» ⟨[.ref s1.heap.objs.size],kw⟩) (λfin s'=>fin=.done (.ret .none)/\Q (.ref s1.heap.objs.size) s') E { s1 with heap:=s1.heap.push (seqObj "list" vs.toArray 0) }) E s) :
  wpAny (model prog w) A (call (.builtin "sorted") [v] kw) Q E s:=by
 refine call_function_entry_kw kind_sorted plain_sorted entry_sorted ha1 ?_
 unfold Builtin.«sorted»
 refine wpAny_bind (m:=checkCount "sorted" 1 1 _) (wpAny_pure ?_)
 refine wpAny_bind (wpAny_mono hc (λvs s1 h=>?_) λ_ _ x=>x)
 refine wpAny_bind (wpAny_newList ?_ h.1)
 have hoL:(s1.heap.push (seqObj "list" vs.toArray 0)).get? s1.heap.objs.size=some (seqObj "list" vs.toArray 0):=Heap.get?_push_size _ rfl
 refine wpAny_bind (wpAny_holding (wpAny_call_entry_kw PyProof.Rows.slot_list_sort ⟨_,hoL,rfl⟩ PyProof.Rows.entry_list_sort (wpAny_mono h.2 (λfin s' hf=>?_) λ_ _ x=>x) (ha2 _)))
 exact⟨_,hf.1,wpAny_pure ⟨_,rfl,hf.2⟩⟩
def Dv(h:Heap)(D:Addr)(vs:List Value):Heap:=((h.update D (Obj.mapSeq λ_=>(#[]:Array Value))).push (seqObj "tuple" vs.toArray 0)).push (seqObj "list" #[] 0)
theorem Gw{h:Heap}{D:Addr}{vs:List Value}{b:Addr}{o:Obj}(hb:b≠D)(e:h.get? b=some o):(Dv h D vs).get? b=some o :=
 Heap.get?_push_of_some _ (Heap.get?_push_of_some _ ((Heap.get?_update_other _ _ (Ne.symm hb)).trans e))
theorem IU{h:Heap}{D:Addr}{vs:List Value}{n:Nat}(ho:h.get? D=some (seqObj "list" vs.toArray n)):∃e1,(Dv h D vs).get? D=some (seqObj "list" #[] e1)/\(h.update D (Obj.mapSeq λ_=>(#[]:Array Value))).get? D=some (seqObj "list" #[] e1):=by
 obtain⟨e1,ho1⟩:∃e1,(h.update D (Obj.mapSeq λ_=>(#[]:Array Value))).get? D=some (seqObj "list" #[] e1):=⟨_,get?_update_seq ho λ_=>#[]⟩
 exact⟨e1,Heap.get?_push_of_some _ (Heap.get?_push_of_some _ ho1),ho1⟩
theorem M6{D:Addr}{vs:List Value}{n:Nat}{P:PySem.Fin->Shared->Prop}{G:Array Nat->Prop}(ho:s.heap.get? D=some (seqObj "list" vs.toArray n))(h64:vs.length<64)
  (hk:2<=vs.length->wpAny (model prog w) A (keyKind' vs.toArray) (λκ s'=>(kas_sort vs.length).kasWp (kas_ask prog w A κ vs) (λp s''=>s''={ s with heap:=Dv s.heap D vs }/\G p) s') (λ_ _=>False) { s with heap:=Dv s.heap D vs })
  (h1:vs.length<2->G (List.toArray (List.range vs.length))) (hfin:∀(p:Array Nat) (h':Heap) (c:Nat),p.size=vs.length->G p->(∀b o,b≠D->s.heap.get? b=some o->h'.get? b=some o)->h'.get? D=some (seqObj "list" (List.toArray (p.toList.map λi=>vs.getD i Value.none)) c)->P (.done (.ret .none)) { s with heap:=h' }) :
  wpAny (model prog w) A (Builtin.«list.sort» ⟨[.ref D],[]⟩) P E s:=by
 obtain⟨e1,ho6,ho1⟩:=IU ho
 have fin:∀(p:Array Nat),p.size=vs.length->G p->P (.done (.ret .none)) { s with heap:=(Dv s.heap D vs).update D (Obj.mapSeq λ_=>List.toArray (p.toList.map λi=>vs.getD i Value.none)) }:=λp hp hg=>by
  obtain⟨c2,hc2⟩:∃c2,((Dv s.heap D vs).update D (Obj.mapSeq λ_=>List.toArray (p.toList.map λi=>vs.getD i Value.none))).get? D=some (seqObj "list" (List.toArray (p.toList.map λi=>vs.getD i Value.none)) c2):=⟨_,get?_update_seq ho6 λ_=>List.toArray (p.toList.map λi=>vs.getD i Value.none)⟩
  exact hfin p _ c2 hp hg (λb o hb e=>(Heap.get?_update_other _ _ (Ne.symm hb)).trans (Gw hb e)) hc2
 rw [list_sort_plain]
 refine wpAny_bind (listItems_at ho rfl ?_)
 refine wpAny_bind (listUpdate_at ho rfl ?_ (by rw [List.size_toArray,sizeLine_eq]; omega) (Nat.zero_le _))
 refine wpAny_bind (seqEpoch_at ho1 rfl ?_)
 refine wpAny_bind (wpAny_newTuple ?_ (by show vs.length<=_; rw [sizeLine_eq]; omega))
 refine wpAny_bind (wpAny_newList ?_ (Nat.zero_le _))
 refine wpAny_holding ?_
 show wpAny (model prog w) A _ P E { s with heap:=Dv s.heap D vs }
 dsimp only
 by_cases h2:vs.length<2
 ·have h2':vs.toArray.size<2:=by rw [List.size_toArray]; exact h2
  rw [if_pos h2',if_pos h2']
  refine wpAny_bind (wpAny_pure ?_)
  rw [StateT.run_pure]
  refine wpAny_bind (wpAny_pure ?_)
  dsimp only
  refine wpAny_bind (seqEpoch_at ho6 rfl ?_)
  have hsz:(List.toArray (List.range vs.length)).size=vs.length:=by simp
  have hout:(arrOf (SortSt.mk' general' (vs.toArray.zip vs.toArray) #[] 7 none)).map (·.2)=List.toArray ((List.toArray (List.range vs.length)).toList.map λi=>vs.getD i Value.none):=by
   refine kat_snds rfl ?_
   have e:=kas_range (vs.toArray.zip vs.toArray)
   rw [show (vs.toArray.zip vs.toArray).size=vs.length by simp] at e
   exact e.symm
  rw [hout]
  refine wpAny_bind (listUpdate_at ho6 rfl ?_ (Nat.zero_le _) (by rw [List.size_toArray,List.length_map,Array.length_toList,hsz,sizeLine_eq]; omega))
  simp only [bne_self_eq_false,Bool.false_eq_true,if_false]
  exact wpAny_pure (fin _ hsz (h1 h2))
 ·have h2':¬vs.toArray.size<2:=by rw [List.size_toArray]; exact h2
  rw [if_neg h2',if_neg h2']
  refine wpAny_bind (wpAny_mono (hk (by omega)) (λκ s0 hk=>?_) λ_ _ x=>x.elim)
  refine wpAny_bind (wpAny_mono (kat_run (Q:=λst' s'=>∃p:Array Nat,p.size=vs.length/\arrOf st'=p.map (kas_item (vs.toArray.zip vs.toArray))/\failedOf st'=none/\s'={ s with heap:=Dv s.heap D vs }/\G p)
   rfl (by omega) h64 (λp' st' s' a1 a2 a3 a4=>⟨p',a1,a2,a3,a4⟩) hk) ?_ λ_ _ e=>e)
  rintro ⟨⟨⟩,st'⟩ s' ⟨p,hp,har,hf,rfl,hg⟩
  dsimp only
  have hout:=kat_snds rfl har
  have hsz:(List.toArray (p.toList.map λi=>vs.getD i Value.none)).size=vs.length:=by rw [List.size_toArray,List.length_map,Array.length_toList,hp]
  rw [hout]
  refine wpAny_bind (seqEpoch_at ho6 rfl ?_)
  refine wpAny_bind (listUpdate_at ho6 rfl ?_ (Nat.zero_le _) (Nat.le_trans (Nat.le_of_eq hsz) (by rw [sizeLine_eq]; omega)))
  rw [hf]
  simp only [bne_self_eq_false,Bool.false_eq_true,if_false]
  exact wpAny_pure (fin p hp hg)
theorem Qh{D:Addr}{f:Value}{vs:List Value}{n:Nat}{P:PySem.Fin->Shared->Prop}(ho:s.heap.get? D=some (seqObj "list" vs.toArray n))(h64:vs.length<64)(J:List Value->Shared->Prop)(kS:Addr)(hkS:kS=s.heap.objs.size+1)
  (h0:∀e1,(Dv s.heap D vs).get? D=some (seqObj "list" #[] e1)->J [] { s with heap:=Dv s.heap D vs })
  (hstep:∀(ks:List Value) (s':Shared) (e:Nat) (v:Value),J ks s'->s'.heap.get? kS=some (seqObj "list" ks.toArray e)->vs[ks.length]?=some v->wpAny (model prog w) A (call f [v]) (λk s''=>s''.heap.get? kS=some (seqObj "list" ks.toArray e)/\J (ks++[k]) { s'' with heap:=s''.heap.update kS (Obj.mapSeq (·.push k)) }) (λ_ _=>False) s')
  (hend:∀(e1:Nat),(Dv s.heap D vs).get? D=some (seqObj "list" #[] e1)->∀(ks:List Value) (s':Shared),J ks s'->ks.length=vs.length->s'.heap.get? D=some (seqObj "list" #[] e1)/\∃G:Array Nat->Prop,
   (2<=vs.length->wpAny (model prog w) A (keyKind' ks.toArray) (λκ s2=>(kas_sort vs.length).kasWp (kas_ask prog w A κ ks) (λp s''=>s''=s'/\G p) s2) (λ_ _=>False) s')/\(vs.length<2->G (List.toArray (List.range vs.length))) /\
   ∀(p:Array Nat) (h':Heap) (c:Nat),p.size=vs.length->G p->(∀b o,b≠D->b≠kS->s'.heap.get? b=some o->h'.get? b=some o)->h'.get? D=some (seqObj "list" (List.toArray (p.toList.map λi=>vs.getD i Value.none)) c)->(∃o,h'.get? kS=some o)->P (.done (.ret .none)) { s' with heap:=h' }) :
  wpAny (model prog w) A (ksk_tree D f false) P E s:=by
 obtain⟨e1,ho6,ho1⟩:=IU ho
 have hsz1:((s.heap.update D (Obj.mapSeq λ_=>(#[]:Array Value))).push (seqObj "tuple" vs.toArray 0)).objs.size=kS:=by rw [size_push',Heap.size_update,hkS]
 have hD:D<s.heap.objs.size:=Heap.lt_size ho
 have hDk:D≠kS:=by rw [hkS]; exact Nat.ne_of_lt (Nat.lt_succ_of_lt hD)
 have hk0:(Dv s.heap D vs).get? kS=some (seqObj "list" #[] 0):=by rw [← hsz1]; exact Heap.get?_push_size _ rfl
 unfold ksk_tree
 refine wpAny_bind (listItems_at ho rfl ?_)
 refine wpAny_bind (listUpdate_at ho rfl ?_ (by rw [List.size_toArray,sizeLine_eq]; omega) (Nat.zero_le _))
 refine wpAny_bind (seqEpoch_at ho1 rfl ?_)
 refine wpAny_bind (wpAny_newTuple ?_ (by show vs.length<=_; rw [sizeLine_eq]; omega))
 refine wpAny_bind (wpAny_newList ?_ (Nat.zero_le _))
 refine wpAny_holding ?_
 show wpAny (model prog w) A (ksk_rest D f false vs.toArray e1 (.ref ((s.heap.update D (Obj.mapSeq λ_=>(#[]:Array Value))).push (seqObj "tuple" vs.toArray 0)).objs.size)) P E { s with heap:=Dv s.heap D vs }
 rw [hsz1]
 unfold ksk_rest
 refine wpAny_bind (wpAny_rule ?_)
 first
  | rw [List.forIn_toArray]
  | (rw [← Array.forIn_toList]; simp only [List.toList_toArray])
  | rw [← Array.forIn_toList]
 refine wpAny_bind (ksk_fold (I:=λi s'=>∃ks e,List.length ks=i/\J ks s'/\s'.heap.get? kS=some (seqObj "list" ks.toArray e)) vs 0 _ ⟨[],0,rfl,h0 e1 ho6,hk0⟩ (λj x s' hx hI=>?_) λs' hI=>?_)
 ·obtain⟨ks,e,hl,hJ,hk⟩:=hI
  have hj:j<vs.length:=(List.getElem?_eq_some_iff.mp hx).1
  have hl:ks.length=j:=by omega
  refine wpAny_bind (wpAny_attempt (wpAny_mono (hstep ks s' e x hJ hk (by rw [hl]; exact hx)) (λk s'' hk2=>?_) λ_ _ hF=>hF.elim))
  have ea:(List.toArray ks).push k=List.toArray (ks++[k]):=by simp
  obtain⟨c2,hc2⟩:∃c2,(s''.heap.update kS (Obj.mapSeq (·.push k))).get? kS=some (seqObj "list" (List.toArray (ks++[k])) c2):=⟨_,by rw [← ea]; exact get?_update_seq hk2.1 (·.push k)⟩
  try dsimp only
  refine wpAny_bind (listUpdate_at hk2.1 rfl ?_ (by rw [List.size_toArray,sizeLine_eq]; omega) (Nat.le_trans (Nat.le_of_eq (Array.size_push ..)) (by rw [List.size_toArray,sizeLine_eq]; omega)))
  exact wpAny_pure ⟨rfl,ks++[k],c2,by rw [List.length_append,List.length_singleton]; omega,hk2.2,hc2⟩
 ·obtain⟨ks,e,hl,hJ,hk⟩:=hI
  have hl:ks.length=vs.length:=by omega
  obtain⟨hD',G,g2,g1,g3⟩:=hend e1 ho6 ks s' hJ hl
  try dsimp only
  refine wpAny_bind (listItems_at hk rfl ?_)
  have tail:∀(st:SortSt) (p:Array Nat),p.size=vs.length->G p->(arrOf st).map (·.2)=List.toArray (p.toList.map λi=>vs.getD i Value.none)->failedOf st=none->wpAny (model prog w) A (ksk_tail D false e1 (.ref kS) st) P E s':=λst p hp hg hout hf=>by
   have hsz:(List.toArray (p.toList.map λi=>vs.getD i Value.none)).size=vs.length:=by rw [List.size_toArray,List.length_map,Array.length_toList,hp]
   obtain⟨ck,hck⟩:∃ck,(s'.heap.update kS (Obj.mapSeq λ_=>(#[]:Array Value))).get? kS=some (seqObj "list" #[] ck):=⟨_,get?_update_seq hk λ_=>#[]⟩
   have hD2:(s'.heap.update kS (Obj.mapSeq λ_=>(#[]:Array Value))).get? D=some (seqObj "list" #[] e1):=(Heap.get?_update_other _ _ (Ne.symm hDk)).trans hD'
   obtain⟨c2,hc2⟩:∃c2,((s'.heap.update kS (Obj.mapSeq λ_=>(#[]:Array Value))).update D (Obj.mapSeq λ_=>List.toArray (p.toList.map λi=>vs.getD i Value.none))).get? D=some (seqObj "list" (List.toArray (p.toList.map λi=>vs.getD i Value.none)) c2):=⟨_,get?_update_seq hD2 λ_=>List.toArray (p.toList.map λi=>vs.getD i Value.none)⟩
   unfold ksk_tail
   try dsimp only
   rw [hout]
   refine wpAny_bind (listUpdate_at hk rfl ?_ (by rw [List.size_toArray,sizeLine_eq]; omega) (Nat.zero_le _))
   refine wpAny_bind (wpAny_letGo ?_)
   refine wpAny_bind (seqEpoch_at hD2 rfl ?_)
   refine wpAny_bind (listUpdate_at hD2 rfl ?_ (Nat.zero_le _) (Nat.le_trans (Nat.le_of_eq hsz) (by rw [sizeLine_eq]; omega)))
   rw [hf]
   simp only [bne_self_eq_false,Bool.false_eq_true,if_false]
   refine wpAny_pure (g3 p _ c2 hp hg (λb o hb1 hb2 e=>(Heap.get?_update_other _ _ (Ne.symm hb1)).trans ((Heap.get?_update_other _ _ (Ne.symm hb2)).trans e)) hc2 ⟨_,(Heap.get?_update_other _ _ hDk).trans hck⟩)
  unfold ksk_end
  try dsimp only
  simp only [Bool.false_eq_true,if_false]
  by_cases h2:vs.length<2
  ·have h2':vs.toArray.size<2:=by rw [List.size_toArray]; exact h2
   rw [if_pos h2',if_pos h2']
   refine wpAny_bind (wpAny_pure ?_)
   rw [StateT.run_pure]
   refine wpAny_bind (wpAny_pure ?_)
   try dsimp only
   refine tail _ (List.toArray (List.range vs.length)) (by simp) (g1 h2) (kat_snds hl ?_) rfl
   have er:=kas_range (ks.toArray.zip vs.toArray)
   rw [show (ks.toArray.zip vs.toArray).size=vs.length by simp [hl]] at er
   exact er.symm
  ·have h2':¬vs.toArray.size<2:=by rw [List.size_toArray]; exact h2
   rw [if_neg h2',if_neg h2']
   refine wpAny_bind (wpAny_mono (g2 (by omega)) (λκ s0 hk=>?_) λ_ _ x=>x.elim)
   refine wpAny_bind (wpAny_mono (kat_run (Q:=λst' s2=>∃p:Array Nat,p.size=vs.length/\arrOf st'=p.map (kas_item (ks.toArray.zip vs.toArray))/\failedOf st'=none/\s2=s'/\G p)
    hl (by omega) h64 (λp' st' s2 a1 a2 a3 a4=>⟨p',a1,a2,a3,a4⟩) hk) ?_ λ_ _ e=>e)
   rintro ⟨⟨⟩,st'⟩ s2 ⟨p,hp,har,hf,rfl,hg⟩
   try dsimp only
   exact tail st' p hp hg (kat_snds hl har) hf
end
section
variable {X:Cx}{pins:List (Addr×Obj)}{σ:L2.St}{H:Hp}{s:Shared}{h':Heap}
structure Q7 (X:Cx) (pins:List (Addr×Obj)) (D:Addr):Prop where
 new:X.s₀.heap.objs.size<=D
 loc:D≠X.env.locals
 cell:∀x c,X.env.cells.lookup x=some c->c≠D
 pin:∀p∈X.pn++pins,p.1≠D
 fs:D∉X.fs
theorem Inv.mine(I:Inv X pins σ H s){D:Addr}(h:s.heap.objs.size<=D):Q7 X pins D:=by
 refine⟨Nat.le_trans I.sz h,λz=>?_,λx c e z=>?_,λp hp z=>?_,I.nofs h⟩
 ·have:=I.lt
  rw [← z] at this
  exact absurd this (Nat.not_lt.mpr h)
 ·obtain⟨v,o,ho,_⟩:=I.cell x c e
  have:=Heap.lt_size ho
  rw [z] at this
  exact absurd this (Nat.not_lt.mpr h)
 ·obtain⟨e,_⟩:=I.pin p hp
  have:=Heap.lt_size e
  rw [z] at this
  exact absurd this (Nat.not_lt.mpr h)
structure KeysAt (K:Frag) (H:Hp) (vs:List V) (keys:List (List Key)):Prop where
 len:vs.length=keys.length
 at_:∀(i:Nat) (ns:List Key),keys[i]?=some ns->∃a,vs[i]?=some (.ref a)/\SqT K H a (ns.map kOf)
 same:∀x∈keys,∀y∈keys,CV x y=true
 ne:∀x∈keys,x≠[]
def Kw(keys:List (List Key))(ix:List Nat):Prop:=ix.Perm (List.range keys.length)/\∀i j,i<=j->j<keys.length->Bh (keys.getD (ix.getD j 0) []) (keys.getD (ix.getD i 0) [])=false
theorem KeysAt.tups{vs:List V}{us:List Value}{keys:List (List Key)}(I:Inv X pins σ H s)(r:Vals vs us)(k:KeysAt X.K H vs keys){h':Heap}(hk:∀b o,s.heap.get? b=some o->h'.get? b=some o):Pz h' us keys:=by
 refine⟨λi ns e=>?_,r.length.symm.trans k.len,k.same,k.ne⟩
 obtain⟨a,e1,h1⟩:=k.at_ i ns e
 obtain⟨u,e2,r2⟩:=r.get e1
 cases r2
 obtain⟨its,r3,⟨o,ho,hc,n,hd⟩,_⟩:=I.tuple h1
 exact⟨a,o,its.toArray,n,e2,hk a o ho,hc,hd,by rw [List.toList_toArray]; exact r3⟩
theorem Gs:∀{vs:List V} {us:List Value},Vals vs us->∀i:Nat,RelV (vs.getD i .non) (us.getD i Value.none)
 | _,_,.nil,i=>by simp [RelV]
 | _,_,.cons r t,0=>by simpa using r
 | _,_,.cons r t,i+1=>by simpa using Gs t i
theorem IL{f:Nat->V}{g:Nat->Value}(h:∀i,RelV (f i) (g i)):∀ix:List Nat,Vals (ix.map f) (ix.map g)
 | []=>.nil
 | i::ix=>.cons (h i) (IL h ix)
theorem getD_list(p:Array Nat)(i:Nat):p.getD i 0=p.toList.getD i 0:=by simp
theorem R7{keys:List (List Key)}{n:Nat}{p:Array Nat}(hn:keys.length=n)(h1:p.Perm (List.toArray (List.range n)))(h2:So.Srt QP (λi=>keys.getD i []) p n):Kw keys p.toList:=by
 subst hn
 refine⟨Array.perm_iff_toList_perm.mp h1,λi j hij hj=>?_⟩
 have h:=h2 i j hij hj
 unfold So.KN at h
 rw [getD_list,getD_list] at h
 exact h
theorem QA{A':Around}{E':Value->Shared->Prop}{vs:List V}{us:List Value}{keys:List (List Key)}{Q:VK}(I:Inv X pins σ H s)(r:Vals vs us)(h64:vs.length<64)(k:KeysAt X.K H vs keys)
  (q:∀(ix:List Nat) (l:Addr),Kw keys ix->H l=none->Q (.ref l) (BG H l (.lst (ix.map λi=>vs.getD i .non)))) :
  wpAny (model X.prog X.w) A' (Builtin.«list.sort» ⟨[.ref s.heap.objs.size],[]⟩) (λfin s'=>fin=.done (.ret .none)/\EP X pins σ Q (.ref s.heap.objs.size) s') E' { s with heap:=s.heap.push (seqObj "list" us.toArray 0) }:=by
 have hl:=r.length
 have hkl:keys.length=us.length:=k.len.symm.trans hl
 refine M6 (G:=λp=>p.Perm (List.toArray (List.range us.length))/\So.Srt QP (λi=>keys.getD i []) p us.length) (n:=0) (Heap.get?_push_size _ rfl) (by omega) (λh2=>?_) (λh1=>⟨Array.Perm.refl _,λi j hij hj=>?_⟩) (λp h' c hp hg hold hD=>⟨rfl,?_⟩)
 ·refine KQ (keys:=keys) (k.tups I r λb o e=>?_) h2 (λp a b=>⟨rfl,a,b⟩)
  exact Gw (Nat.ne_of_lt (Heap.lt_size e)) (Heap.get?_push_of_some _ e)
 ·have:i=j:=by omega
  subst this
  exact KeyOrd.kle_refl _
 ·have hf:H s.heap.objs.size=none:=I.fresh
  have hix:(p.toList.map λi=>vs.getD i .non).length=us.length:=by rw [List.length_map,Array.length_toList,hp]
  refine⟨.ref s.heap.objs.size,BG H s.heap.objs.size (.lst (p.toList.map λi=>vs.getD i .non)),I.laid (t':=s.toks) (λb o e=>hold b o (Nat.ne_of_lt (Heap.lt_size e)) (Heap.get?_push_of_some _ e)) (Nat.le_refl _) ⟨by rw [hix,← hl,sizeLine_eq]; omega,_,c,IL (Gs r) p.toList,hD⟩,rfl,q _ _ (R7 hkl hg.1 hg.2) hf⟩
theorem NU{prog:Program}{w:World}{A:Around}{E:Value->Shared->Prop}{s:Shared}{l:Addr}{vs:List Value}{Q:List Value->Shared->Prop}(hl:IsTup s.heap l vs.toArray)
  (h:Q vs { s with heap:=(s.heap.push (seqObj "list" #[] 0)).update s.heap.objs.size (Obj.mapSeq (·++vs.toArray)) }) (hsz:vs.length<=sizeLine) :
  wpAny (model prog w) A (collect (.ref l)) Q E s:=by
 obtain⟨o,ho,hc,n,hd⟩:=id hl
 unfold collect
 refine wpAny_bind (wpAny_runValue (codeAny_builtin entry_proto_collect' ?_))
 show wpAny _ _ (do again (.builtin "list.__iadd__" ⟨[← newList [],.ref l],[]⟩)) _ _ s
 refine wpAny_bind (wpAny_newList (wpAny_pure ⟨Code.quiet_builtin _ (by decide +kernel),codeAny_builtin entry_list_iadd' ?_⟩))
 show wpAny _ _ (Builtin.List.listExtendWith (.ref s.heap.objs.size) (.ref l) (.ref s.heap.objs.size)) _ _ { s with heap:=s.heap.push (seqObj "list" #[] 0) }
 unfold Builtin.List.listExtendWith
 have ho':(s.heap.push (seqObj "list" #[] 0)).get? l=some o:=Heap.get?_push_of_some _ ho
 refine wpAny_bind (wpAny_typeOf (T := "tuple") ⟨o,ho',hc⟩ ?_)
 have ht:(Value.type "tuple"==Value.type "tuple")=true:=by rfl
 rw [if_pos (by rw [ht]; simp)]
 refine wpAny_bind (listItems_at ho' hd ?_)
 refine wpAny_bind (listItems_at (xs:=#[]) (n:=0) (Heap.get?_push_size _ rfl) rfl ?_)
 rw [if_neg (by simp)]
 refine wpAny_bind (listUpdate_at (xs:=#[]) (n:=0) (Heap.get?_push_size _ rfl) rfl ?_ (Nat.zero_le _) (by show (#[]++vs.toArray).size<=sizeLine+1; simp only [Array.size_append,List.size_toArray,List.length_nil]; omega))
 refine wpAny_pure ?_
 show wpAny (model prog w) A (do
   let o ← load s.heap.objs.size
   match o.data with
   | .seq xs _=>pure xs.toList
   | _=>unsupported "internal:collect") Q E { s with heap:=(s.heap.push (seqObj "list" #[] 0)).update s.heap.objs.size (Obj.mapSeq (·++vs.toArray)) }
 refine wpAny_bind (wpAny_load (get?_update_seq (Heap.get?_push_size _ rfl) _) ?_)
 show wpAny _ _ (pure ((#[]:Array Value)++vs.toArray).toList) Q E _
 rw [show ((#[]:Array Value)++vs.toArray).toList=vs by simp]
 exact wpAny_pure h
theorem NX{h:Heap}{g:Array Value->Array Value}{b:Addr}{o:Obj}(e:h.get? b=some o):((h.push (seqObj "list" #[] 0)).update h.objs.size (Obj.mapSeq g)).get? b=some o :=
 (Heap.get?_update_other _ _ (Ne.symm (Nat.ne_of_lt (Heap.lt_size e)))).trans (Heap.get?_push_of_some _ e)
theorem NW{κ:Bool}{A':Around}{E':Value->Shared->Prop}{p:Addr}{vs:List V}{Q:List Value->Shared->Prop}(I:Inv X pins σ H s)(h:SqK κ X.K H p vs)(q:∀us s1,Vals vs us->vs.length<=sizeLine->Inv X pins σ H s1->Q us s1) :
  wpAny (model X.prog X.w) A' (collect (.ref p)) Q E' s:=by
 cases κ with
 | true =>
  obtain⟨its,r,pl,hz⟩:=I.list h
  exact collect_list pl.isList (q its _ r hz (I.kept (t':=s.toks) λb o e=>NX e)) (by rw [← r.length]; exact hz)
 | false =>
  obtain⟨its,r,pl,hz⟩:=I.tuple h
  exact NU pl (q its _ r hz (I.kept (t':=s.toks) λb o e=>NX e)) (by rw [← r.length]; exact hz)
def Ra(K:Frag):List V->Hp->VK->Prop:=λxs H Q=>∃(κ:Bool) (p:Addr) (vs:List V) (keys:List (List Key)),xs=[.ref p]/\SqK κ K H p vs/\vs.length<64/\KeysAt K H vs keys /\
 ∀(ix:List Nat) (l:Addr),Kw keys ix->H l=none->Q (.ref l) (BG H l (.lst (ix.map λi=>vs.getD i .non)))
theorem JY:EM X (.builtin "sorted") (Ra X.K):=by
 intro pins s σ H xs us Q I r h
 obtain⟨κ,p,vs,keys,rfl,hq,h64,hk,q⟩:=h
 obtain⟨u,rfl,rx⟩:=vals1 r
 cases rx
 refine Fv (kw:=[]) (args_sorted1 _) (λx=>args_list_sort _) (NW I hq λus s1 r1 hz I1=>⟨by rw [← r1.length]; exact hz,?_⟩)
 exact QA I1 r1 h64 hk q
end
end L2
namespace L2
open PySem PySem.Spec PyProof.Rows
def HB(H:Hp)(L:List Addr)(f:Addr->Obj):Hp:=λb=>if b∈L then (H b).map (HO.frz (f b)) else H b
theorem GL{H:Hp}{L:List Addr}{f:Addr->Obj}{b:Addr}(h:b∉L):HB H L f b=H b:=by unfold HB; rw [if_neg h]
theorem PX{H:Hp}{L:List Addr}{f:Addr->Obj}{b:Addr}{o:HO}(h:b∈L)(e:H b=some o):HB H L f b=some (.frz (f b) o):=by unfold HB; rw [if_pos h,e]; rfl
section
variable {X:Cx}{pins:List (Addr×Obj)}{σ:L2.St}{H:Hp}{s:Shared}
theorem Inv.frz{L:List Addr}(I:Inv X pins σ H s)(hL:∀b∈L,∃kvs,H b=some (.dK kvs)):∃f,Inv X pins σ (HB H L f) s:=by
 have keep:∀(f:Addr->Obj) b o,H b=some o->(∀kvs,o≠.dK kvs)->HB H L f b=some o:=λf b o e n=>by
  rw [GL (λhm=>by obtain⟨kvs,e2⟩:=hL b hm; rw [e] at e2; cases e2; exact n _ rfl)]
  exact e
 refine⟨λb=>(s.heap.get? b).getD { cls:=.none,data:=.fields #[] },?_⟩
 refine I.step (g':=s.gens) (d':=s.drawn) (t':=s.toks) (h':=s.heap) (ch:=[]) (λ_ z=>nomatch z) (λ_ _ _ _ _ e _=>e) (λb o _ _ _ e _=>⟨o.slots,e⟩) (λb o _ e n=>?_) (λb o _ e=>⟨o,e⟩) (λb xs e=>keep _ b _ e λ_ z=>by cases z) (λb o u e=>keep _ b _ e λ_ z=>by cases z) (λb ps e=>⟨#[],by rw [keep _ b _ e λ_ z=>by cases z]; simp⟩) (λ_ h=>h) (λb u e=>?_) I.bare
 ·unfold HB
  split
  ·rw [n]; rfl
  ·exact n
 ·by_cases hb:b∈L
  ·obtain⟨kvs,e2⟩:=hL b hb
   rw [PX hb e2] at e
   cases e
   obtain⟨z,y,vs,r,ob,es,ep,e3,c⟩:=(show ObjOk X.prog X.w H s.heap b (.dK kvs) from I.hok b _ e2)
   exact⟨by rw [e3]; rfl,z,y,vs,r,ob,es,ep,e3,c⟩
  ·rw [GL hb] at e
   exact(I.hok b u e).stay (λ_ _ _ q=>q) (λc q=>keep _ c _ q λ_ z=>by cases z) λc xs q=>keep _ c _ q λ_ z=>by cases z
def Xv(t:TE):TE:=λσ H Q=>t σ H λv H1=>∃L:List Addr,(∀b∈L,∃kvs,H1 b=some (.dK kvs))/\∀f:Addr->Obj,Q v (HB H1 L f)
theorem VL{e:Expr}{t:TE}(h:PE X e t):PE X e (Xv t):=by
 intro pins s σ H Q I hq
 refine thn (h pins s σ H _ I hq) λu s1 ⟨v,H1,I1,r,L,hL,q⟩=>?_
 obtain⟨f,I2⟩:=I1.frz hL
 exact⟨v,_,I2,r,q f⟩
end
end L2
namespace Nt
open PySem PySem.Spec PyProof.Rows L2 Dp
def Dt(ts:List BC)(p:Str):List (Str×Int):=ts.flatMap λt=>(if t.a=p then [(t.b,t.len)] else [])++(if t.b=p then [(t.a,t.len)] else [])
def Q9(ts:List BC)(p:Str):D:=.fdi ((Dt ts p).map λx=>.inr x.1) ((Dt ts p).map λx=>.int x.2)
def En(N:Net):D:=.dic (N.ps.map .inr) (N.ps.map (Q9 N.ts))
def HI:W2:=λss n P=>∃N:Net,ss=[.sh (enc N)]/\N.Ok/\N.ps.length<=1000/\N.ts.length<=1000/\P (En N) n
def kv(x:Str×Int):Key×V:=(.inr x.1,.int x.2)
structure Stp (H:Hp) (d:Addr) (as:List (Str×Addr)) (tb:Str->List (Key×V)) (H':Hp):Prop where
 old:∀b o,H b=some o->H' b=some o
 new:H d=none
 top:H' d=some (.dK (as.map λx=>(.inr x.1,.ref x.2)))
 inn:∀x∈as,H x.2=none/\x.2≠d/\H' x.2=some (.dK (tb x.1))
 ads:(as.map (·.2)).Nodup
 nms:(as.map (·.1)).Nodup
theorem Hu{as:List (Str×Addr)}(hn:(as.map (·.1)).Nodup){p:Str}{a:Addr}(h:(p,a)∈as):DR (as.map λx=>((.inr x.1:Key),V.ref x.2)) (.inr p)=some (.ref a):=by
 induction as with
 | nil=>cases h
 | cons x r ih =>
  rw [List.map_cons,List.nodup_cons] at hn
  rcases List.mem_cons.mp h with e | h
  ·rw [← e]
   exact El rfl
  ·have hne:(Sum.inr x.1:Key)≠.inr p:=λe=>hn.1 (by rw [Sum.inr.inj e]; exact List.mem_map.mpr ⟨_,h,rfl⟩)
   rw [List.map_cons]
   exact(Em hne).trans (ih hn.2 h)
theorem OE{as:List (Str×Addr)}{p:Str}{v:V}(h:p∉as.map (·.1)):putK (as.map λx=>((.inr x.1:Key),V.ref x.2)) (.inr p) v=(as.map λx=>((.inr x.1:Key),V.ref x.2))++[(.inr p,v)]:=by
 unfold putK
 rw [if_neg]
 rw [List.any_eq_true]
 rintro ⟨y,hy,e⟩
 obtain⟨x,hx,rfl⟩:=List.mem_map.mp hy
 exact h (List.mem_map.mpr ⟨x,hx,Sum.inr.inj (of_decide_eq_true e)⟩)
theorem O4{xs:List (Str×Int)}{p:Str}{l:Int}(h:p∉xs.map (·.1)):putK (xs.map kv) (.inr p) (.int l)=(xs++[(p,l)]).map kv:=by
 unfold putK
 rw [if_neg,List.map_append]
 ·rfl
 ·rw [List.any_eq_true]
  rintro ⟨y,hy,e⟩
  obtain⟨x,hx,rfl⟩:=List.mem_map.mp hy
  exact h (List.mem_map.mpr ⟨x,hx,Sum.inr.inj (of_decide_eq_true e)⟩)
theorem Stp.more{H H':Hp}{d q:Addr}{as:List (Str×Addr)}{tb:Str->List (Key×V)}{p:Str}(s:Stp H d as tb H')(hq:H' q=none)(hp:p∉as.map (·.1))(ht:tb p=[]) :
  Stp H d (as++[(p,q)]) tb (BG (BG H' q (.dK [])) d (.dK (putK (as.map λx=>((.inr x.1:Key),V.ref x.2)) (.inr p) (.ref q)))):=by
 have nq:q≠d:=λe=>by rw [e,s.top] at hq; cases hq
 have hHq:H q=none:=by
  cases c:H q with
  | none=>rfl
  | some o=>rw [s.old q o c] at hq; cases hq
 refine⟨λb o e=>?_,s.new,?_,λx hx=>?_,?_,?_⟩
 ·have n1:b≠d:=λz=>by rw [z,s.new] at e; cases e
  have n2:b≠q:=λz=>by rw [z,hHq] at e; cases e
  rw [AT n1,AT n2]
  exact s.old b o e
 ·rw [Ak,OE hp,List.map_append]; rfl
 ·rcases List.mem_append.mp hx with hx | hx
  ·obtain⟨h1,h2,h3⟩:=s.inn x hx
   have n2:x.2≠q:=λz=>by rw [z,hq] at h3; cases h3
   exact⟨h1,h2,by rw [AT h2,AT n2]; exact h3⟩
  ·rw [List.mem_singleton.mp hx]
   exact⟨hHq,nq,by rw [AT nq,Ak,ht]⟩
 ·rw [List.map_append,List.nodup_append]
  refine⟨s.ads,List.nodup_cons.mpr ⟨(λh=>by cases h),List.nodup_nil⟩,λa ha b hb e=>?_⟩
  obtain⟨x,hx,rfl⟩:=List.mem_map.mp ha
  have hb:b=q:=List.mem_singleton.mp hb
  obtain⟨h1,h2,h3⟩:=s.inn x hx
  rw [e,hb,hq] at h3
  cases h3
 ·rw [List.map_append,List.nodup_append]
  refine⟨s.nms,List.nodup_cons.mpr ⟨(λh=>by cases h),List.nodup_nil⟩,λa ha b hb e=>?_⟩
  have hb:b=p:=List.mem_singleton.mp hb
  exact hp (by rw [← hb,← e]; exact ha)
theorem Qa{as:List (Str×Addr)}(hn:(as.map (·.1)).Nodup){p:Str}{a b:Addr}(h1:(p,a)∈as)(h2:(p,b)∈as):a=b:=by
 have:=(Hu hn h1).symm.trans (Hu hn h2)
 exact V.ref.inj (Option.some.inj this)
theorem QZ{as:List (Str×Addr)}(hn:(as.map (·.2)).Nodup){p q:Str}{a:Addr}(h1:(p,a)∈as)(h2:(q,a)∈as):p=q:=by
 induction as with
 | nil=>cases h1
 | cons x r ih =>
  rw [List.map_cons,List.nodup_cons] at hn
  rcases List.mem_cons.mp h1 with e1 | g1
  ·rcases List.mem_cons.mp h2 with e2 | g2
   ·rw [← e1] at e2; exact(Prod.mk.inj e2).1.symm
   ·exact absurd (List.mem_map.mpr ⟨_,g2,by rw [← e1]⟩) hn.1
  ·rcases List.mem_cons.mp h2 with e2 | g2
   ·exact absurd (List.mem_map.mpr ⟨_,g1,by rw [← e2]⟩) hn.1
   ·exact ih hn.2 g1 g2
theorem Stp.put{H H':Hp}{d a:Addr}{as:List (Str×Addr)}{tb tb2:Str->List (Key×V)}{p:Str}{kvs:List (Key×V)}(s:Stp H d as tb H')(ha:(p,a)∈as)(h1:tb2 p=kvs)(h2:∀q,q≠p->tb2 q=tb q) :
  Stp H d as tb2 (BG H' a (.dK kvs)):=by
 obtain⟨i1,i2,i3⟩:=s.inn _ ha
 refine⟨λb o e=>?_,s.new,?_,λx hx=>?_,s.ads,s.nms⟩
 ·have n1:b≠a:=λz=>by rw [z] at e; rw [show H a=none from i1] at e; cases e
  rw [AT n1]
  exact s.old b o e
 ·rw [AT (Ne.symm i2)]
  exact s.top
 ·obtain⟨g1,g2,g3⟩:=s.inn x hx
  refine⟨g1,g2,?_⟩
  by_cases e:x.2=a
  ·have:x.1=p:=QZ s.ads (show (x.1,a)∈as by rw [← e]; exact hx) ha
   rw [e,Ak,this,h1]
  ·have:x.1≠p:=λz=>e (Qa s.nms (show (p,x.2)∈as by rw [← z]; exact hx) ha)
   rw [AT e,h2 _ this]
   exact g3
theorem Ms(ts:List BC)(t:BC)(p:Str):Dt (ts++[t]) p=Dt ts p++((if t.a=p then [(t.b,t.len)] else [])++(if t.b=p then [(t.a,t.len)] else [])):=by
 unfold Dt
 rw [List.flatMap_append,List.flatMap_cons,List.flatMap_nil,List.append_nil]
theorem Ll{ts:List BC}{p q:Str}(h:q∈(Dt ts p).map (·.1)):∃t∈ts,(t.a=p/\t.b=q)\/(t.b=p/\t.a=q):=by
 obtain⟨x,hx,rfl⟩:=List.mem_map.mp h
 obtain⟨t,ht,hx⟩:=List.mem_flatMap.mp hx
 refine⟨t,ht,?_⟩
 rcases List.mem_append.mp hx with hx | hx
 ·split at hx
  ·rename_i e; rw [List.mem_singleton.mp hx]; exact .inl ⟨e,rfl⟩
  ·cases hx
 ·split at hx
  ·rename_i e; rw [List.mem_singleton.mp hx]; exact .inr ⟨e,rfl⟩
  ·cases hx
theorem PC(ts:List BC)(p:Str):(Dt ts p).length<=2*ts.length:=by
 induction ts with
 | nil=>exact Nat.zero_le _
 | cons t r ih =>
  unfold Dt at ih ⊢
  rw [List.flatMap_cons,List.length_append,List.length_append,List.length_cons]
  have h1:(if t.a=p then [(t.b,t.len)] else []).length<=1:=by split; exact Nat.le_refl 1; exact Nat.zero_le _
  have h2:(if t.b=p then [(t.a,t.len)] else []).length<=1:=by split; exact Nat.le_refl 1; exact Nat.zero_le _
  omega
theorem Sd{ts:List BC}{t:BC}(hp:(ts++[t]).Pairwise Bv)(hlt:∀s∈ts++[t],cs s.a<cs s.b):t.b∉(Dt ts t.a).map (·.1)/\t.a∉(Dt ts t.b).map (·.1):=by
 rw [List.pairwise_append] at hp
 have key:∀s∈ts,¬((s.a=t.a/\s.b=t.b)\/(s.b=t.a/\s.a=t.b)):=λs hs e=>by
  have h1:=hp.2.2 s hs t (List.mem_singleton.mpr rfl)
  have h2:=hlt s (List.mem_append_left _ hs)
  have h3:=hlt t (List.mem_append_right _ (List.mem_singleton.mpr rfl))
  rcases e with ⟨e1,e2⟩ | ⟨e1,e2⟩
  ·unfold Bv at h1
   rw [e1,e2] at h1
   rcases h1 with h | ⟨_,h⟩
   ·exact List.lt_irrefl _ h
   ·exact List.lt_irrefl _ h
  ·rw [e1,e2] at h2
   exact List.lt_irrefl _ (List.lt_trans h2 h3)
 refine⟨λh=>?_,λh=>?_⟩
 ·obtain⟨s,hs,e⟩:=Ll h
  exact key s hs e
 ·obtain⟨s,hs,e⟩:=Ll h
  exact key s hs (e.elim (λz=>.inr ⟨z.2,z.1⟩) λz=>.inl ⟨z.2,z.1⟩)
theorem LJ{xs:List Str}(h:rising xs):xs.Nodup:=h.imp λ{a b} hlt e=>by rw [e] at hlt; exact List.lt_irrefl _ hlt
theorem OM{xs:List Str}(h:xs.Nodup){i:Nat}(hi:i<xs.length):xs[i]∉xs.take i:=by
 have e:xs=xs.take i++xs[i]::xs.drop (i+1):=by
  rw [← List.drop_eq_getElem_cons hi,List.take_append_drop]
 intro hm
 rw [e,List.nodup_append] at h
 exact h.2.2 _ hm _ List.mem_cons_self rfl
theorem Stp.at_{K:Frag}{M:Addr->Prop}{H H':Hp}{d:Addr}{as:List (Str×Addr)}{N:Net}(dom:∀a,M a->∃o,H a=some o)(s:Stp H d as (λp=>(Dt N.ts p).map kv) H')(hp:as.map (·.1)=N.ps)(f:Addr->Obj):At K M (HB H' (as.map (·.2)) f) (En N) (.ref d):=by
 have nd:∀b,H b=none->¬M b:=λb e m=>by obtain⟨o,h⟩:=dom b m; rw [h] at e; cases e
 have zip1:∀as:List (Str×Addr),(as.map λx=>((.inr x.1:Key),V.ref x.2))=((as.map (·.1)).map (.inr:Str->Key)).zip (as.map λx=>V.ref x.2):=λas=>by
  induction as with
  | nil=>rfl
  | cons x r ih=>rw [List.map_cons,ih]; rfl
 refine⟨d,as.map λx=>.ref x.2,rfl,⟨nd d s.new,by rw [GL (λhm=>by obtain⟨x,hx,e⟩:=List.mem_map.mp hm; exact(s.inn x hx).2.1 e),s.top,zip1,hp]⟩,by rw [List.length_map,List.length_map],?_⟩
 rw [← hp]
 have go:∀bs:List (Str×Addr),(∀x∈bs,x∈as)->Ats K M (HB H' (as.map (·.2)) f) ((bs.map (·.1)).map (Q9 N.ts)) (bs.map λx=>V.ref x.2):=λbs=>by
  induction bs with
  | nil=>intro _; rfl
  | cons x r ih =>
   intro hx
   refine⟨.ref x.2,r.map λx=>V.ref x.2,rfl,?_,ih λy hy=>hx y (List.mem_cons_of_mem _ hy)⟩
   obtain⟨g1,g2,g3⟩:=s.inn x (hx x List.mem_cons_self)
   have zip2:∀xs:List (Str×Int),xs.map kv=(xs.map λx=>(.inr x.1:Key)).zip (xs.map λx=>V.int x.2):=λxs=>by
    induction xs with
    | nil=>rfl
    | cons x r ih=>rw [List.map_cons,ih]; rfl
   refine⟨x.2,(Dt N.ts x.1).map λx=>V.int x.2,rfl,⟨f x.2,nd _ g1,by rw [PX (List.mem_map.mpr ⟨x,hx x List.mem_cons_self,rfl⟩) g3,zip2]⟩,by rw [List.length_map,List.length_map],?_⟩
   generalize Dt N.ts x.1=xs
   induction xs with
   | nil=>rfl
   | cons x r ih=>exact⟨.int x.2,_,rfl,rfl,ih⟩
 exact go as λ_ h=>h
end Nt
namespace L2
open PySem PySem.Spec PyProof.Rows PySem.W
section
variable {X:Cx}{pins:List (Addr×Obj)}{σ:L2.St}{H:Hp}{s:Shared}{h':Heap}
theorem Inv.adopt2{D e:Addr}{o:HO}(I:Inv X pins σ H s)(m:Q7 X pins D)(hn:H D=none)(m2:Q7 X pins e)(hn2:H e=none)(hne:D≠e)(k:∀b u,b≠D->b≠e->s.heap.get? b=some u->h'.get? b=some u)(new:ObjOk X.prog X.w (BG H D o) h' D o):Inv X pins σ (BG H D o) { s with heap:=h' }:=by
 have nin:∀b,b∉[D,e]->b≠D/\b≠e:=λb hc=>⟨λz=>hc (by rw [z]; exact List.mem_cons_self),λz=>hc (by rw [z]; exact List.mem_cons_of_mem _ (List.mem_singleton.mpr rfl))⟩
 refine I.step (g':=s.gens) (d':=s.drawn) (t':=s.toks) (ch:=[D,e]) (λb hb=>?_) (λb u _ _ hc q _=>k b u (nin b hc).1 (nin b hc).2 q) (λb u _ _ hc q _=>⟨u.slots,k b u (nin b hc).1 (nin b hc).2 q⟩) (λb u hc q n=>?_)
  (λb u hc q=>⟨u,k b u (nin b hc).1 (nin b hc).2 q⟩) (λb xs q=>?_) (λb u v q=>?_) (λb ps q=>⟨#[],?_⟩) (λmm hm=>?_) (λb u q=>?_) I.bare
 ·rcases List.mem_cons.mp hb with rfl | hb
  ·exact⟨.inr m.new,m.loc,m.cell,m.pin⟩
  ·rw [List.mem_singleton.mp hb]
   exact⟨.inr m2.new,m2.loc,m2.cell,m2.pin⟩
 ·rw [AT (nin b hc).1]; exact n
 ·rw [AT (Ar q hn)]; exact q
 ·rw [AT (Ar q hn)]; exact q
 ·rw [AT (Ar q hn),q]; simp
 ·obtain⟨u,es,ep,ho,r⟩:=hm
  exact⟨u,es,ep,k _ u (Ne.symm m.loc) (Ne.symm m2.loc) ho,r⟩
 ·by_cases hb:b=D
  ·subst hb; rw [Ak] at q; cases q; exact new
  ·rw [AT hb] at q
   refine(I.hok b u q).stay (λc v hc q2=>k c v ?_ ?_ q2) (λc q2=>by rw [AT (Ar q2 hn)]; exact q2) λc xs q2=>by rw [AT (Ar q2 hn)]; exact q2
   ·rcases hc with z | z
    ·rw [z]; exact hb
    ·exact Ar z hn
   ·rcases hc with z | z
    ·rw [z]; exact Ar q hn2
    ·exact Ar z hn2
def Uy(K:Frag)(sp:Sp)(te:TE):TE:=λσ H Q=>te σ H λx H1=>∃(κ:Bool) (l:Addr) (vs:List V) (keys:List (List Key)) (J:List V->Hp->Prop),x=.ref l/\SqK κ K H1 l vs/\vs.length<64/\J [] H1 /\
 (∀ks H2 v,J ks H2->vs[ks.length]?=some v->sp [v] H2 (λk H3=>J (ks++[k]) H3) E0) /\
 ∀ks H2,J ks H2->ks.length=vs.length->KeysAt K H2 ks keys/\∀(ix:List Nat) (l:Addr),Kw keys ix->H2 l=none->Q (.ref l) (BG H2 l (.lst (ix.map λi=>vs.getD i .non)))
theorem Rw{k:Nat}{f:Addr}{fd:FuncData}{pn fn:Str}{sp:Sp}{te:TE}{e:Expr}{p fp kp pos:Pos}(F:BK X.prog X.w X.K X.mg X.base DB k f fd [pn] sp)(hr:Room (k+2) X.A)(hg:Gl X "sorted")(hm:X.mg "sorted"=none)
  (hgf:Gl X fn) (hmf:X.mg fn=some (.ref f)) (hb:Binds X.K fd [pn] []) (he:PE X e te) (hs:starEach [e] X.env=[(false,eval e X.env)]:=by rfl) (hdf:(fn==("__debug__" : Str))=false:=by decide) :
  PE X (.Call (.Name "sorted" p) [e] [⟨some "key",.Name fn fp,kp⟩] pos) (Uy X.K sp te):=by
 intro pins s σ H Q I h
 refine wpAny_Call_Name_kw (Dz I hg hm boot_sorted ?_)
 refine callWith_kw (thn (B7 he DL hs pos pins s σ H (λvs H1=>∃x,vs=[x]/\∃(κ:Bool) (l:Addr) (vs:List V) (keys:List (List Key)) (J:List V->Hp->Prop),x=.ref l/\SqK κ X.K H1 l vs/\vs.length<64/\J [] H1 /\
   (∀ks H2 v,J ks H2->vs[ks.length]?=some v->sp [v] H2 (λk H3=>J (ks++[k]) H3) E0) /\
   ∀ks H2,J ks H2->ks.length=vs.length->KeysAt X.K H2 ks keys/\∀(ix:List Nat) (l:Addr),Kw keys ix->H2 l=none->Q (.ref l) (BG H2 l (.lst (ix.map λi=>vs.getD i .non)))) I ?first) λus s1 ⟨xs,H1,I1,r1,q1⟩=>kws_cons (PM I1 hgf hmf (kws_nil ?_) hdf)) (by rw [hs]; rfl) (by rw [hs]; rfl)
 case first =>
  show te σ H _
  refine cast (congrArg (te σ H) ?_) h
  funext x H1
  refine propext ⟨λz=>⟨x,rfl,z⟩,fun⟨y,e,z⟩=>?_⟩
  cases e
  exact z
 obtain⟨x,rfl,κ,l,vs,keys,J,rfl,hq,h64,j0,jstep,jend⟩:=q1
 obtain⟨u,rfl,ru⟩:=vals1 r1
 cases ru
 show wpAny (model X.prog X.w) X.A (call (.builtin "sorted") [.ref l] [(Str.ofString "key",.ref f)]) _ _ s1
 refine Fv (ksk_s1 _ _) (λx=>ksk_l1 _ _) (NW I1 hq λus s2 r2 hz I2=>⟨by rw [← r2.length]; exact hz,?_⟩)
 rw [ksk_t1]
 have hl:=r2.length
 generalize hD:s2.heap.objs.size=D
 have hsz3:(s2.heap.push (seqObj "list" us.toArray 0)).objs.size=D+1:=by rw [size_push',hD]
 have hoD:(s2.heap.push (seqObj "list" us.toArray 0)).get? D=some (seqObj "list" us.toArray 0):=by rw [← hD]; exact Heap.get?_push_size _ rfl
 have mD:Q7 X pins D:=I2.mine (by rw [hD]; exact Nat.le_refl _)
 have mK:Q7 X pins (D+2):=I2.mine (by rw [hD]; exact Nat.le_add_right _ _)
 have nD:H1 D=none:=I2.hok.fresh (by rw [hD]; exact Nat.le_refl _)
 have nK:H1 (D+2)=none:=I2.hok.fresh (by rw [hD]; exact Nat.le_add_right _ _)
 have hne:D≠D+2:=Nat.ne_of_lt (Nat.lt_succ_of_lt (Nat.lt_succ_self D))
 have nstk:∀b,Q7 X pins b->b∉RA X.stack:=λb m z=>(List.mem_cons.mp (I2.stkSub b z)).elim m.loc m.fs
 refine Qh (s:={ s2 with heap:=s2.heap.push (seqObj "list" us.toArray 0) }) (n:=0) hoD (by rw [← hl]; exact h64)
  (λks s'=>∃kV H',Vals kV ks/\J kV H'/\Inv X pins σ H' s'/\H' D=none/\H' (D+2)=none/\s'.heap.get? D=(Dv (s2.heap.push (seqObj "list" us.toArray 0)) D us).get? D) (D+2) (by show D+2=(s2.heap.push _).objs.size+1; rw [hsz3]) (λe1 he1=>?_) (λks s' e v hJ hk hv=>?_) λe1 he1 ks s' hJ hkl=>?_
 ·refine⟨[],H1,.nil,j0,?_,nD,nK,rfl⟩
  exact I2.kept (t':=s2.toks) λb o q=>Gw (by rw [← hD]; exact Nat.ne_of_lt (Heap.lt_size q)) (Heap.get?_push_of_some _ q)
 ·obtain⟨kV,H',rk,hJ,I',n1,n2,hD'⟩:=hJ
  have hi:ks.length<us.length:=(List.getElem?_eq_some_iff.mp hv).1
  have hvi:vs[kV.length]?=some (vs[kV.length]'(by rw [rk.length]; omega)):=List.getElem?_eq_getElem _
  obtain⟨u',e2,ru⟩:=r2.get hvi
  rw [rk.length,hv] at e2
  cases e2
  have hsp:=jstep kV H' _ hJ hvi
  have E1:Env0 X.prog X.w X.K X.mg X.base X.A.in1.in1 X.stack s' H':=I'.env0.in1.in1
  refine wpAny_call (codeAny_mono (F.run X.A.in1.in1 X.stack s' H' ⟨[v],[]⟩ [v] _ _ E0 (hr.in1).in1 E1 (by simpa using hb s' [v] I'.kIn rfl) (.cons ru .nil) hsp) λr s'' hq'=>?_)
  cases r with
  | error e=>exact False.elim hq'
  | ok fl =>
   cases fl with
   | next=>exact False.elim hq'
   | brk=>exact False.elim hq'
   | cont=>exact False.elim hq'
   | ret u =>
    obtain⟨w',H3,os,bare,un,hok,rw',q3⟩:=id hq'
    obtain⟨oD,eD⟩:∃o,s'.heap.get? D=some o:=by
     obtain⟨c,hc,_⟩:=IU hoD
     exact⟨_,hD'.trans hc⟩
    have kD:s''.heap.get? D=some oD:=un.keep D oD eD n1 (nstk D mD) (by simp)
    have kK:s''.heap.get? (D+2)=some (seqObj "list" ks.toArray e):=un.keep _ _ hk n2 (nstk _ mK) (by simp)
    have f1:H3 D=none:=un.free D oD eD n1 (by simp)
    have f2:H3 (D+2)=none:=un.free _ _ hk n2 (by simp)
    have I3:Inv X pins σ H3 s'':=I'.call' os un hok bare (λb z=>absurd z (by simp))
    refine⟨kK,kV++[w'],H3,rk.append (.cons rw' .nil),q3,?_,f1,f2,?_⟩
    ·exact I3.turned (t':=s''.toks) (λb o hb q=>(Heap.get?_update_other _ _ (Ne.symm hb)).trans q) f2 mK.loc (.inr mK.new) mK.cell mK.pin
    ·show (s''.heap.update (D+2) _).get? D=_
     rw [Heap.get?_update_other _ _ (Ne.symm hne),kD,← eD,hD']
 ·obtain⟨kV,H',rk,hJ,I',n1,n2,hD'⟩:=hJ
  obtain⟨hka,q⟩:=jend kV H' hJ (by rw [rk.length,hkl,hl])
  have hkk:keys.length=us.length:=by rw [← hka.len,rk.length,hkl]
  refine⟨hD'.trans he1,λp=>p.Perm (List.toArray (List.range us.length))/\So.Srt QP (λi=>keys.getD i []) p us.length,λh2=>?_,λh1=>⟨Array.Perm.refl _,λi j hij hj=>?_⟩,λp h' c hp hg hold hDn _=>⟨rfl,?_⟩⟩
  ·have ts:=KQ (prog:=X.prog) (w:=X.w) (A:=X.A.in1.in1) (keys:=keys) (hka.tups I' rk λb o e=>e) (by omega) (G:=λp s''=>s''=s'/\p.Perm (List.toArray (List.range us.length))/\So.Srt QP (λi=>keys.getD i []) p us.length) (λp a b=>⟨rfl,by rw [← hkl]; exact a,by rw [← hkl]; exact b⟩)
   rw [hkl] at ts
   exact ts
  ·have:i=j:=by omega
   subst this
   exact KeyOrd.kle_refl _
  ·have hix:(p.toList.map λi=>vs.getD i .non).length=us.length:=by rw [List.length_map,Array.length_toList,hp]
   refine⟨.ref D,BG H' D (.lst (p.toList.map λi=>vs.getD i .non)),I'.adopt2 mD n1 mK n2 hne hold ⟨by rw [hix,← hl,sizeLine_eq]; omega,_,c,IL (Gs r2) p.toList,hDn⟩,rfl,q _ _ (R7 hkk hg.1 hg.2) n1⟩
theorem Mh{α β:Type}{F:α->β->Prop}:∀{l₁:List α} {l₂:List β} {j:Nat} {a:α} {b:β},Paired F l₁ l₂->l₁[j]?=some a->l₂[j]?=some b->F a b
 | _,_,_,_,_,.nil,h,_=>by simp at h
 | _,_,0,_,_,.cons r t,h1,h2=>by
  have h1:=Option.some.inj (by simpa using h1)
  have h2:=Option.some.inj (by simpa using h2)
  subst h1 h2
  exact r
 | _,_,j+1,_,_,.cons r t,h1,h2=>Mh (j:=j) t (by simpa using h1) (by simpa using h2)
end
end L2
namespace Dp
open PySem PySem.Spec PyProof.Rows L2
section
variable {X:Cx}{K:Frag}
end
def C7:D->Option (List Key)
 | .tup xs=>GK xs
 | _=>none
def Gk(kf:D->Option (List Key))(xs:List D):Prop:=xs.Pairwise λa b=>∀ka kb,kf a=some ka->kf b=some kb->Bh kb ka=false
def Keyed(kf:D->Option (List Key))(xs:List D):Prop:=(∀x∈xs,∃k,kf x=some k/\k≠[])/\∀x∈xs,∀y∈xs,∀ka kb,kf x=some ka->kf y=some kb->CV ka kb=true
theorem range_getD(xs:List D):(List.range xs.length).map (λi=>xs.getD i .non)=xs:=by
 apply List.ext_getElem
 ·simp
 ·intro i h1 h2
  simp [h2]
theorem PB{kf:D->Option (List Key)}{xs:List D}{keys:List (List Key)}{ix:List Nat}(hl:keys.length=xs.length)(hk:∀(i:Nat) (x:D),xs[i]?=some x->∃k,keys[i]?=some k/\kf x=some k)(h:Kw keys ix) :
  (ix.map λi=>xs.getD i .non).Perm xs/\Gk kf (ix.map λi=>xs.getD i .non):=by
 obtain⟨hp,hs⟩:=h
 constructor
 ·have:=hp.map λi=>xs.getD i D.non
  rw [hl,range_getD] at this
  exact this
 ·unfold Gk
  rw [List.pairwise_iff_getElem]
  intro i j hi hj hij ka kb ea eb
  rw [List.getElem_map] at ea eb
  rw [List.length_map] at hi hj
  have il:ix.length=keys.length:=by rw [hp.length_eq,List.length_range]
  have g:∀i (h:i<ix.length) k,kf (xs.getD ix[i] .non)=some k->keys.getD (ix.getD i 0) []=k:=λi h k e=>by
   have hm:ix[i]<keys.length:=List.mem_range.mp (hp.mem_iff.mp (List.getElem_mem h))
   have hx:ix[i]<xs.length:=by rw [← hl]; exact hm
   obtain⟨k',e1,e2⟩:=hk ix[i] xs[ix[i]] (List.getElem?_eq_getElem hx)
   have e3:xs.getD ix[i] .non=xs[ix[i]]:=by rw [List.getD_eq_getElem?_getD,List.getElem?_eq_getElem hx]; rfl
   rw [e3,e2] at e
   have e4:ix.getD i 0=ix[i]:=by rw [List.getD_eq_getElem?_getD,List.getElem?_eq_getElem h]; rfl
   rw [e4,List.getD_eq_getElem?_getD,e1]
   exact Option.some.inj e
  have:=hs i j (Nat.le_of_lt hij) (by rw [← il]; exact hj)
  rw [g i hi ka ea,g j hj kb eb] at this
  exact this
theorem FI{kf:D->Option (List Key)}:∀{xs:List D},(∀x∈xs,∃k,kf x=some k/\k≠[])->∃keys:List (List Key),keys.length=xs.length/\(∀(i:Nat) (x:D),xs[i]?=some x->∃k,keys[i]?=some k/\kf x=some k/\k≠[])
 | [],_=>⟨[],rfl,λi x e=>by simp at e⟩
 | x::xs,h=>by
  obtain⟨k,e1,e2⟩:=h x List.mem_cons_self
  obtain⟨keys,l,g⟩:=FI (xs:=xs) λy hy=>h y (List.mem_cons_of_mem _ hy)
  refine⟨k::keys,by rw [List.length_cons,List.length_cons,l],λi y e=>?_⟩
  cases i with
  | zero =>
   have e:x=y:=by simpa using e
   subst e
   exact⟨k,rfl,e1,e2⟩
  | succ i =>
   obtain⟨k',a,b⟩:=g i y (by simpa using e)
   exact⟨k',by simpa using a,b⟩
section
variable {K:Frag}{M:Addr->Prop}{H:Hp}
theorem Ats.getD:∀{ds:List D} {vs:List V},Ats K M H ds vs->∀i:Nat,At K M H (ds.getD i .non) (vs.getD i .non)
 | [],vs,h,i=>by cases (show vs=[] from h); simp [At]
 | d::ds,vs,h,0=>by
  obtain⟨v,r,e,h1,h2⟩:=h
  subst e
  simpa using h1
 | d::ds,vs,h,i+1=>by
  obtain⟨v,r,e,h1,h2⟩:=h
  subst e
  simpa using Ats.getD h2 i
theorem Ats.pick{ds:List D}{vs:List V}(h:Ats K M H ds vs):∀ix:List Nat,Ats K M H (ix.map λi=>ds.getD i .non) (ix.map λi=>vs.getD i .non)
 | []=>rfl
 | i::ix=>⟨_,_,rfl,h.getD i,Ats.pick h ix⟩
theorem G_{kf:D->Option (List Key)}{ds:List D}{vs:List V}{keys:List (List Key)}(hkf:∀d k v,d∈ds->kf d=some k->At K M H d v->∃a,v=.ref a/\SqT K H a (k.map kOf))(hs:Ats K M H ds vs)(hK:Keyed kf ds)(hl:keys.length=ds.length)(hk:∀(i:Nat) (x:D),ds[i]?=some x->∃k,keys[i]?=some k/\kf x=some k/\k≠[]):KeysAt K H vs keys:=by
 have from_:∀(i:Nat) (ns:List Key),keys[i]?=some ns->∃x,ds[i]?=some x/\kf x=some ns/\ns≠[]:=λi ns e=>by
  have hi:i<ds.length:=by rw [← hl]; exact(List.getElem?_eq_some_iff.mp e).1
  obtain⟨k,e1,e2,e3⟩:=hk i ds[i] (List.getElem?_eq_getElem hi)
  rw [e] at e1
  cases e1
  exact⟨ds[i],List.getElem?_eq_getElem hi,e2,e3⟩
 refine⟨hs.length.trans hl.symm,λi ns e=>?_,λx hx y hy=>?_,λx hx=>?_⟩
 ·obtain⟨d,e1,e2,_⟩:=from_ i ns e
  obtain⟨v,e3,h3⟩:=hs.get e1
  obtain⟨a,rfl,h4⟩:=hkf d ns v (List.mem_of_getElem? e1) e2 h3
  exact⟨a,e3,h4⟩
 ·obtain⟨i,hi⟩:=List.mem_iff_getElem?.mp hx
  obtain⟨j,hj⟩:=List.mem_iff_getElem?.mp hy
  obtain⟨d,e1,e2,_⟩:=from_ i x hi
  obtain⟨d',e1',e2',_⟩:=from_ j y hj
  exact hK.2 d (List.mem_of_getElem? e1) d' (List.mem_of_getElem? e1') x y e2 e2'
 ·obtain⟨i,hi⟩:=List.mem_iff_getElem?.mp hx
  obtain⟨d,e1,e2,e3⟩:=from_ i x hi
  exact e3
theorem HA{d:D}{k:List Key}{v:V}(e:C7 d=some k)(h:At K M H d v):∃a,v=.ref a/\SqT K H a (k.map kOf):=by
 cases d with
 | tup xs =>
  obtain⟨a,vs,e1,hn,hs⟩:=h
  have:=GJ (show GK xs=some k from e) hs
  subst this
  exact⟨a,e1,hn.sq⟩
 | _=>cases e
def HC(ds:List D)(P:D->Prop):Prop:=∃d xs,ds=[d]/\Hg d=some xs/\xs.length<64/\Keyed C7 xs/\∀xs':List D,xs'.Perm xs->Gk C7 xs'->P (.lst xs')
theorem Pt:Fe K .fr (Ra K) HC:=by
 intro U M H ds vs P Q dom vM hp w q
 obtain⟨d,xs,rfl,e,h64,hK,w⟩:=w
 obtain⟨v,rfl,hx⟩:=GB hp
 obtain⟨κ,a,us,rfl,hs,sq⟩:=LC (U:=U) hx e (λ_ z=>z) vM
 obtain⟨keys,hl,hk⟩:=FI hK.1
 refine⟨κ,a,us,keys,rfl,sq M H (Pres.refl _ _) (Ext.refl _ _),by rw [hs.length]; exact h64,G_ (λd k v _=>HA) hs hK hl hk,λix l ho hn=>?_⟩
 obtain⟨o1,o2⟩:=PB (kf:=C7) hl (λi x e=>by obtain⟨k,a,b,_⟩:=hk i x e; exact⟨k,a,b⟩) ho
 exact q _ _ (.lst (ix.map λi=>xs.getD i .non)) (A9 hn) (Ey hn (hs.pick ix)) (w _ o1 o2)
end
section
variable {X:Cx}{a e:Expr}{κa:Kd}{wa:DW}{pos p fp kp apos cpos:Pos}
def RE(W:W2)(wa:DW):DW:=λn ρ P=>wa n ρ λd n1=>∃(xs:List D) (rk:D->D),Hg d=some xs/\xs.length<64/\(∀x∈xs,∀Pd:D->Nat->Prop,Pd (rk x) n1->W [.sh x] n1 Pd)/\Keyed (λx=>C7 (rk x)) xs /\
 ∀xs':List D,xs'.Perm xs->Gk (λx=>C7 (rk x)) xs'->P (.lst xs') n1
theorem Si{k:Nat}{fn pn:Str}{W:W2}(G:Got X.prog X.w X.K X.mg X.base fn k [pn] .sh W)(hr:Room (k+2) X.A)(hg:Gl X "sorted")(hm:X.mg "sorted"=none)(hgf:Gl X fn)(he:DE X e κa wa)
  (hs:starEach [e] X.env=[(false,eval e X.env)]:=by rfl) (hdf:(fn==("__debug__" : Str))=false:=by decide):DE X (.Call (.Name "sorted" p) [e] [⟨some "key",.Name fn fp,kp⟩] pos) .fr (RE W wa):=by
 obtain⟨f,fd,F,hmf,hkf,hb,hW⟩:=G
 obtain⟨t,h1,h2⟩:=he
 refine⟨_,Rw F hr hg hm hgf hmf hb h1 hs hdf,λC M H n ρ σ P Q R w q=>?_⟩
 refine h2 C M H n ρ σ _ _ R w λv H1 d n1 e1 f1 r1 p=>?_
 obtain⟨xs,rk,hd,h64,hw,hK,w⟩:=p
 have R1:=R.step e1 f1
 obtain⟨κ,l,us,rfl,hs,sq⟩:=LC (U:=C.U) (r1.tpOf R.dom R.vM) hd R.uV R1.vM
 obtain⟨keys,hl,hk⟩:=FI hK.1
 have hlen:=hs.length
 refine⟨κ,l,us,keys,λks H2=>Ext C.U H1 H2/\FeedC X.K C.F M H2 n1/\ks.length<=xs.length/\∀(i:Nat) (k:V),ks[i]?=some k->∃x,xs[i]?=some x/\At X.K M H2 (rk x) k,rfl,sq M H1 (Pres.refl _ _) (Ext.refl _ _),by rw [hlen]; exact h64,⟨Ext.refl _ _,f1,Nat.zero_le _,λi k z=>absurd (show (none:Option V)=some k from z) (λh=>nomatch h)⟩,λks H2 v hJ hv=>?_,λks H2 hJ hkl=>?_⟩
 ·obtain⟨ex,fd2,hle,hat⟩:=hJ
  have R2':=R1.step ex fd2
  have hi:ks.length<xs.length:=by rw [← hlen]; exact(List.getElem?_eq_some_iff.mp hv).1
  have hxi:xs[ks.length]?=some xs[ks.length]:=List.getElem?_eq_getElem hi
  obtain⟨v',e2,hA⟩:=(hs.pres (R1.pres ex)).get hxi
  rw [hv] at e2
  cases e2
  refine⟨rfl,C.F,C.U,C.V,M,n1,[.sh xs[ks.length]],λd n=>d=rk xs[ks.length]/\n=n1,⟨R2'.dom,R2'.fU,R2'.uV,R2'.vM,fd2,.cons ⟨⟨v,rfl,hA⟩,rfl⟩ .nil⟩,hw _ (List.getElem_mem hi) _ ⟨rfl,rfl⟩,λr H3 d n' ex3 f3 vr hd=>?_⟩
  obtain⟨rfl,rfl⟩:=hd
  refine⟨ex.trans ex3,f3,by rw [List.length_append,List.length_singleton]; omega,λi k hik=>?_⟩
  by_cases hlt:i<ks.length
  ·rw [List.getElem?_append_left hlt] at hik
   obtain⟨x,h3,h4⟩:=hat i k hik
   exact⟨x,h3,h4.pres (R2'.pres ex3)⟩
  ·rw [List.getElem?_append_right (by omega)] at hik
   have hi0:i=ks.length:=by
    have:=(List.getElem?_eq_some_iff.mp hik).1
    rw [List.length_singleton] at this
    omega
   subst hi0
   rw [Nat.sub_self] at hik
   cases (show some r=some k from hik)
   exact⟨_,hxi,vr⟩
 ·obtain⟨ex,fd2,hle,hat⟩:=hJ
  have R2':=R1.step ex fd2
  have hkx:ks.length=xs.length:=by rw [hkl,hlen]
  have hs2:Ats X.K M H2 (xs.map rk) ks:=by
   have go:∀(xs:List D) (ks:List V),ks.length=xs.length->(∀(i:Nat) (k:V),ks[i]?=some k->∃x,xs[i]?=some x/\At X.K M H2 (rk x) k)->Ats X.K M H2 (xs.map rk) ks:=by
    intro xs
    induction xs with
    | nil=>intro ks h _; exact List.length_eq_zero_iff.mp h
    | cons x xs ih =>
     intro ks h hh
     cases ks with
     | nil=>cases h
     | cons k ks =>
      obtain⟨x',e3,h3⟩:=hh 0 k rfl
      cases (show some x=some x' from e3)
      exact⟨k,ks,rfl,h3,ih ks (by simpa using h) λi k' e4=>by
       obtain⟨y,e5,h5⟩:=hh (i+1) k' (by simpa using e4)
       exact⟨y,by simpa using e5,h5⟩⟩
   exact go xs ks hkx hat
  have hK2:Keyed C7 (xs.map rk):=by
   refine⟨λy hy=>?_,λy hy z hz ka kb ea eb=>?_⟩
   ·obtain⟨x,hx,rfl⟩:=List.mem_map.mp hy
    exact hK.1 x hx
   ·obtain⟨x,hx,rfl⟩:=List.mem_map.mp hy
    obtain⟨x',hx',rfl⟩:=List.mem_map.mp hz
    exact hK.2 x hx x' hx' ka kb ea eb
  refine⟨G_ (λd k v _=>HA) hs2 hK2 (by rw [hl,List.length_map]) λi x e=>?_,λix l ho hn=>?_⟩
  ·rw [List.getElem?_map] at e
   obtain⟨x',hx',rfl⟩:=Option.map_eq_some_iff.mp e
   exact hk i x' hx'
  ·obtain⟨o1,o2⟩:=PB (kf:=λx=>C7 (rk x)) hl (λi x e=>by obtain⟨k,a,b,_⟩:=hk i x e; exact⟨k,a,b⟩) ho
   have g:Grow H2 (BG H2 l (.lst (ix.map λi=>us.getD i .non))):=A9 hn
   refine q _ _ (.lst (ix.map λi=>xs.getD i .non)) n1 ((e1.trans ex).trans g.ext) (fd2.grow g) (VR.back (e1.trans ex) ?_) (w _ o1 o2)
   exact Ey hn ((hs.pres (R1.pres ex)).pick ix)
def WF:Key->D
 | .inl i=>.int i
 | .inr x=>.str x
def PQ:Key->Prop
 | .inl _=>True
 | .inr x=>x.length<=sizeLine
theorem Vt{K:Frag}{M:Addr->Prop}{H:Hp}{k:Key}(h:PQ k):At K M H (WF k) (kOf k):=by
 cases k with
 | inl i=>exact rfl
 | inr x=>exact⟨rfl,h⟩
end
end Dp
namespace L2
open PySem PySem.Spec PyProof.Rows
section
open PySem.MeetsSeq
open PySem.AutoSeq1 (wpAny_loadPart')
theorem RW(l:Addr)(items:Array Value)(n:Nat)(x:Value)(e:Value->Bool)(j:Nat)(hj:j<items.size)(hit:e items[j]=true)(hs1:items.size<=sizeLine)(prog:Program)(w:World)(A:Around)(R:Result->Shared->Prop)(hp:Heap)(g:Array GenState)(d:Drawn)(tk:Nat)(os:_)
  (hl:hp.get? l=some { cls:=.type "list",dict:=none,data:=.seq items n,slots:=#[] }) (he:∀y,y∈items->PySem.SeqAt.EqAt A.in1 ⟨hp,g,d,tk,os⟩ y x (e y)) (h:R (.ok (.ret .none)) ⟨hp.update l (Obj.mapSeq λxs=>xs.eraseIdxIfInBounds j),g,d,tk,os⟩) :
  ∀k i:Nat,j - i=k->i<=j->(∀m (hm:m<items.size),i<=m->m<j->e items[m]=false) ->
   wpAny (model prog w) A.in1 (Builtin.«list.remove.loop» ⟨[.ref l,x,rawInt i],[]⟩) (λfin s'=>match fin with | .done f=>R (.ok f) s' | .again c'=>c'.quiet=true/\codeAny (model prog w) A c' R s') (λe s'=>R (.error e) s') ⟨hp,g,d,tk,os⟩:=by
 intro k
 induction k with
 | zero =>
  intro i hk hij hno
  have hij':i=j:=by omega
  subst hij'
  wp_walk using wpAny_loadPart' hl
  have hi:items[((i:Nat):Int).toNat]?=some items[i]:=by simp [hj]
  rw [hi]
  refine wpAny_bind (he _ (Array.getElem_mem hj) prog w _ _ ?_)
  rw [hit]
  have hz':(items.eraseIdxIfInBounds i).size<=sizeLine+1:=Nat.le_trans (size_erased items _) (Nat.le_succ_of_le hs1)
  wp_walk using (wpAny_updateSeq hl rfl (hz:=hs1) (_hz':=hz')),wpAny_loadPart' hl
  simpa using h
 | succ k ih =>
  intro i hk hij hno
  have hlt:i<items.size:=by omega
  wp_walk using wpAny_loadPart' hl
  have hi:items[((i:Nat):Int).toNat]?=some items[i]:=by simp [hlt]
  have hc:((i:Int)+1)=((i+1:Nat):Int):=by push_cast; rfl
  rw [hi]
  refine wpAny_bind (he _ (Array.getElem_mem hlt) prog w _ _ ?_)
  rw [hno i hlt (Nat.le_refl _) (by omega)]
  wp_walk
  rw [hc]
  exact⟨plainId_quiet plain_remove_loop _,codeAny_builtin entry_remove_loop (by
   rw [Around.under_plainId plain_remove_loop _]
   exact ih (i+1) (by omega) (by omega) (λm hm h1 h2=>hno m hm (by omega) h2))⟩
theorem RX{prog:Program}{w:World}{A:Around}{E:Value->Shared->Prop}{s:Shared}{Q:Value->Shared->Prop}(l:Addr)(items:Array Value)(n:Nat)(x:Value)(e:Value->Bool)(j:Nat)(hj:j<items.size)(hit:e items[j]=true)(hno:∀m (hm:m<items.size),m<j->e items[m]=false)
  (hs1:items.size<=sizeLine) (hl:s.heap.get? l=some { cls:=.type "list",dict:=none,data:=.seq items n,slots:=#[] }) (he:∀y,y∈items->PySem.SeqAt.EqAt A.in1 s y x (e y))
  (h:Q .none { s with heap:=s.heap.update l (Obj.mapSeq λxs=>xs.eraseIdxIfInBounds j) }):wpAny (model prog w) A (call (.builtin "list.remove") [.ref l,x]) Q E s:=by
 have key:wpAny (model prog w) A.in1 (Builtin.«list.remove» ⟨[.ref l,x],[]⟩) (λfin s'=>match fin with | .done f=>wants Q E (.ok f) s' | .again c'=>c'.quiet=true/\codeAny (model prog w) A c' (wants Q E) s') (λe s'=>wants Q E (.error e) s') s:=by
  obtain⟨hp,g,d,tk,os⟩:=s
  wp_walk using wpAny_loadPart' hl
  exact⟨plainId_quiet plain_remove_loop _,codeAny_builtin entry_remove_loop (by
   rw [Around.under_plainId plain_remove_loop _]
   exact RW l items n x e j hj hit hs1 prog w A (wants Q E) hp g d tk os hl he h _ 0 rfl (Nat.zero_le _) (λm hm _ h2=>hno m hm h2))⟩
 exact wpAny_call (codeAny_call_builtin PySem.F.slot_list_remove.plain PySem.F.entry_list_remove (PySem.F.slot_list_remove.check _ _ _ _ _ _ _ _ ⟨_,hl,rfl⟩ (PySem.F.args_list_remove_2 _ _) key))
end
section
variable {X:Cx}
def O0:V->List V->Hp->VK->Prop:=λx vs H Q=>∃(l:Addr) (xs:List V) (y:V) (ds:List PyData) (d:PyData) (j:Nat),x=.ref l/\vs=[y]/\H l=some (.lst xs)/\RVs H ds xs/\RV H d y/\PyData.canLayAll0 ds=true/\d.canLay0=true/\d.depth<=100 /\
 (∃dj,ds[j]?=some dj/\PyData.eqv dj d=true)/\(∀m dm,m<j->ds[m]?=some dm->PyData.eqv dm d=false)/\Q .non (BG H l (.lst (xs.eraseIdx j)))
theorem Qd{k:Nat}(hr:Room k X.A):XX X "list.remove" O0:=by
 intro pins s σ H x vs v us Q I rx rv h
 obtain⟨l,xs,y,ds,d,j,rfl,rfl,hH,hds,hd,c1,c2,dd,⟨dj,hj,hit⟩,hno,q⟩:=h
 cases rx
 obtain⟨u,rfl,ru⟩:=rv.one
 obtain⟨z,its,n,r,hl,e⟩:=I.lstM hH
 obtain⟨as,ra⟩:=RVs.reads I hds r
 obtain⟨bs,rb⟩:=RV.reads I hd ru
 have hm:=PySem.SeqAt.readsAll_map ds its as c1 ra
 have hlen:ds.length=its.length:=by rw [← hm,List.length_map]
 have hu:=hr.un
 have hmin:min (PyData.depthAll ds) d.depth<=d.depth:=Nat.min_le_right _ _
 have at_:∀m dm,ds[m]?=some dm->∀(h:m<its.toArray.size),PySem.SeqAt.readOf s.heap its.toArray[m]=dm:=λm dm e h=>by
  rw [← hm,List.getElem?_map] at e
  have h':m<its.length:=by simpa using h
  rw [List.getElem?_eq_getElem h'] at e
  have e:=Option.some.inj e
  simpa using e
 have hjl:j<its.length:=by rw [← hlen]; exact(List.getElem?_eq_some_iff.mp hj).1
 refine RX l its.toArray n u (λy=>PyData.eqv (PySem.SeqAt.readOf s.heap y) d) j (by rw [List.size_toArray]; exact hjl) (by rw [at_ j dj hj]; exact hit) (λm hm' hlt=>?_) (by rw [List.size_toArray]; omega) e (PySem.SeqAt.items_eqAt (vs:=its.toArray) (by rw [List.toList_toArray]; exact ra) rb c1 c2 (by omega)) ?_
 ·have hml:m<ds.length:=by rw [hlen]; simpa using hm'
  rw [at_ m ds[m] (List.getElem?_eq_getElem hml) hm']
  exact hno m ds[m] hlt (List.getElem?_eq_getElem hml)
 ·refine⟨.non,_,I.lset (t':=s.toks) (its':=its.eraseIdx j) hH e ?_ (r.eraseIdx j) ?_,rfl,q⟩
  ·show its.toArray.eraseIdxIfInBounds j=(its.eraseIdx j).toArray
   rw [List.eraseIdxIfInBounds_toArray]
  ·have:=G9 xs j
   omega
end
end L2
namespace Dp
open PySem PySem.Spec PyProof.Rows L2
def XA(d:D)(ds:List D)(P:D->D->Prop):Prop:=∃(xs:List D) (y:D) (j:Nat),d=.lst xs/\ds=[y]/\EH (.lst xs)/\EH y/\(∃x,xs[j]?=some x/\Eg x y=true)/\(∀m x,m<j->xs[m]?=some x->Eg x y=false)/\P (.lst (xs.eraseIdx j)) .non
theorem XI{K:Frag}:V8 K O0 XA:=by
 intro M H a d ds vs P Q m t hv w q
 obtain⟨xs,y,j,rfl,rfl,⟨n1,l1,_⟩,⟨n2,l2,d2⟩,⟨x,hx,hit⟩,hno,w⟩:=w
 obtain⟨us,h1,h2⟩:=t
 obtain⟨u,r,rfl,hu,hr⟩:=hv
 cases (show r=[] from hr)
 have get:∀(m:Nat) (p:PyData),(A1 xs)[m]?=some p->∃x,xs[m]?=some x/\p=toPy x:=λm p e=>by
  rw [FF,List.getElem?_map] at e
  obtain⟨x,e1,rfl⟩:=Option.map_eq_some_iff.mp e
  exact⟨x,e1,rfl⟩
 refine⟨a,us,u,A1 xs,toPy y,j,rfl,rfl,h1,h2.rv n1,hu.rv n2,l1,l2,d2,⟨toPy x,by rw [FF,List.getElem?_map,hx]; rfl,hit⟩,λm p hm e=>?_,q _ (.lst (xs.eraseIdx j)) .non _ ⟨us.eraseIdx j,Ak,?_⟩ rfl w⟩
 ·obtain⟨x',e1,rfl⟩:=get m p e
  exact hno m x' hm e1
 ·exact(h2.eraseIdx j).pres (EN m h1)
def IJ(c:Ht)(wb:Al):Al:=λD2 n ρ=>∃W:Nat->Nat->List Slot->Prop,(∃m,W m n ρ)/\∀m n ρ,W m n ρ ->
 c n ρ λb n1=>if b=true then ∃N:Nat->List Slot->Prop,(∀n' ρ',N n' ρ'->∃m',m'<m/\W m' n' ρ')/\wb { D2 with nx:=N,ct:=N,bk:=D2.nx } n1 ρ else D2.nx n1 ρ
section
variable {X:Cx}{κ:Kd}{c:Expr}{body:List Stmt}{wc:Ht}{wb:Al}{pos:Pos}
theorem JP(hp:PassesOwn (model X.prog X.w) X.A X.env X.xe)(hc:DT X c wc)(hb:S5 X κ body wb):DS X κ (.While c body [] pos) (IJ wc wb):=by
 obtain⟨tc,c1,c2⟩:=hc
 obtain⟨tb,b1,b2⟩:=hb
 refine⟨_,Rl hp c1 b1,λC M H n ρ σ D2 E R L w=>?_⟩
 obtain⟨W,⟨m0,w0⟩,turn⟩:=w
 refine⟨λm σ' H'=>∃M' n' ρ',Rel X.K C M' H' n' ρ' σ'/\W m n' ρ',⟨m0,M,n,ρ,R,w0⟩,?_⟩
 rintro m σ' H' ⟨M',n',ρ',R',w'⟩
 refine c2 C M' H' n' ρ' σ' _ _ R' (turn m n' ρ' w') λb H2 n2 e f p=>?_
 have R2:=R'.step e f
 cases b with
 | true =>
  rw [if_pos rfl] at p ⊢
  obtain⟨N,hN,p⟩:=p
  refine⟨λσ3 H3=>∃M3 n3 ρ3,Rel X.K C M3 H3 n3 ρ3 σ3/\N n3 ρ3,λσ3 H3 ⟨M3,n3,ρ3,R3,w3⟩=>?_,?_⟩
  ·obtain⟨m',hm,w4⟩:=hN n3 ρ3 w3
   exact⟨m',hm,M3,n3,ρ3,R3,w4⟩
  ·exact b2 C M' H2 n2 ρ' σ' { D2 with nx:=N,ct:=N,bk:=D2.nx } _ R2 ⟨λM4 H4 n4 ρ4 σ4 R4 w4=>⟨M4,n4,ρ4,R4,w4⟩,L.rt,λM4 H4 n4 ρ4 σ4 R4 w4=>L.nx M4 H4 n4 ρ4 σ4 R4 w4,λM4 H4 n4 ρ4 σ4 R4 w4=>⟨M4,n4,ρ4,R4,w4⟩⟩ p
 | false =>
  rw [if_neg (by decide)] at p ⊢
  exact L.nx M' H2 n2 ρ' σ' R2 p
theorem Gr{D2:E2}{n:Nat}{ρ:List Slot}(I:Nat->Nat->List Slot->Prop)(m0:Nat)(h0:I m0 n ρ)
  (hs:∀m n ρ (N:Nat->List Slot->Prop),I m n ρ->(∀m' n' ρ',m'<m->I m' n' ρ'->N n' ρ')->wc n ρ λb n1=>if b=true then wb { D2 with nx:=N,ct:=N,bk:=D2.nx } n1 ρ else D2.nx n1 ρ)
  (mono:∀n ρ (P Q:Bool->Nat->Prop),(∀b n1,P b n1->Q b n1)->wc n ρ P->wc n ρ Q):IJ wc wb D2 n ρ:=by
 refine⟨I,⟨m0,h0⟩,λm n ρ h=>?_⟩
 refine mono n ρ _ _ (λb n1 p=>?_) (hs m n ρ (λn' ρ'=>∃m',m'<m/\I m' n' ρ') h λm' n' ρ' hm hi=>⟨m',hm,hi⟩)
 cases b with
 | true=>rw [if_pos rfl] at p ⊢; exact⟨_,λ_ _ z=>z,p⟩
 | false=>exact p
end
section
variable {X:Cx}{κ:Kd}{tg:Expr}{body:List Stmt}{b:BW}{wb:Al}{pos p:Pos}{x:Str}{i:Nat}
end
end Dp
namespace Nt
open PySem PySem.Spec PyProof.Rows L2 Dp
def WP(s t:BC):Decidable (s=t) :=
 if h:s.a=t.a/\s.b=t.b/\s.len=t.len then .isTrue (by obtain⟨a,b,l⟩:=s; obtain⟨a',b',l'⟩:=t; obtain⟨h1,h2,h3⟩:=h; simp only at h1 h2 h3; subst h1 h2 h3; rfl) else .isFalse λe=>h (by rw [e]; exact⟨rfl,rfl,rfl⟩)
instance:DecidableEq BC:=WP
abbrev EF(Pd:D->Nat->Prop):E2:={ nx:=λn _=>Kd.fr=.sh/\Pd .non n,rt:=Pd }
def Ig(t:BC):List Key:=[.inl t.len,.inr t.a,.inr t.b]
def E6(ts:List BC):Prop:=ts.Pairwise λs t=>Bh (Ig t) (Ig s)=false
def Mc:D->D
 | .tup [x,y,z]=>.tup [z,x,y]
 | d=>d
def Xg(x:Str×Int):D:=.tup [.str x.1,.int x.2]
abbrev Nl:W2:=λss n P=>∃x y z:D,ss=[.sh (.tup [x,y,z])]/\P (.tup [z,x,y]) n
def DM:W2:=λss n P=>∃(d:D) (ts:List BC),ss=[.sh d]/\Hg d=some (ts.map AW)/\ts.length<64/\∀ts':List BC,ts'.Perm ts->E6 ts'->P (.lst (ts'.map AW)) n
def Kq:Al:=(As (Bt (AF (AS A5 (AA 0) (wC (D.int 2))) (AF (AS A5 (AA 0) (wC (D.int 0))) (AF (AS A5 (AA 0) (wC (D.int 1))) AZ)))))
def Ja:Al:=(As (RE Nl (AA 0)))
theorem RU{s t:BC}(h:Ig s=Ig t):s=t:=by
 obtain⟨a,b,l⟩:=s
 obtain⟨a',b',l'⟩:=t
 unfold Ig at h
 simp only [List.cons.injEq,Sum.inl.injEq,Sum.inr.injEq,and_true] at h
 obtain⟨rfl,rfl,rfl⟩:=h
 rfl
theorem LV{α:Type}{R:α->α->Prop}(anti:∀a b,R a b->R b a->a=b):∀{l1 l2:List α},l1.Perm l2->l1.Pairwise R->l2.Pairwise R->l1=l2
 | [],l2,p,_,_=>(List.nil_perm.mp p).symm
 | a::l1,[],p,_,_=>absurd (List.perm_nil.mp p) (List.cons_ne_nil _ _)
 | a::l1,b::l2,p,h1,h2=>by
  have e:a=b:=by
   rcases List.mem_cons.mp (p.mem_iff.mp List.mem_cons_self) with e | h
   ·exact e
   ·rcases List.mem_cons.mp (p.mem_iff.mpr (List.mem_cons_self (a:=b) (l:=l2))) with e | h'
    ·exact e.symm
    ·exact anti a b ((List.pairwise_cons.mp h1).1 b h') ((List.pairwise_cons.mp h2).1 a h)
  subst e
  rw [LV anti ((List.perm_cons a).mp p) (List.pairwise_cons.mp h1).2 (List.pairwise_cons.mp h2).2]
theorem Mb{l1 l2:List BC}(p:l1.Perm l2)(h1:E6 l1)(h2:E6 l2):l1=l2:=LV (λa b x y=>RU (Dg _ _ y x)) p h1 h2
theorem RK{α:Type}{f:α->D}{g:D->α}(hg:∀x,g (f x)=x){xs:List D}{ts:List α}(h:xs.Perm (ts.map f)):∃ts':List α,ts'.Perm ts/\xs=ts'.map f:=by
 refine⟨xs.map g,?_,?_⟩
 ·have:=h.map g
  rw [List.map_map,show g∘f=id from funext hg,List.map_id] at this
  exact this
 ·rw [List.map_map]
  have:∀x∈xs,(f∘g) x=x:=λx hx=>by
   obtain⟨t,_,rfl⟩:=List.mem_map.mp (h.mem_iff.mp hx)
   show f (g (f t))=f t
   rw [hg]
  rw [List.map_congr_left this,List.map_id']
def XF:D->BC
 | .tup [.str a,.str b,.int l]=>⟨a,b,l⟩
 | _=>⟨"","",0⟩
section
variable {ss:List Slot}{n:Nat}{Pd:D->Nat->Prop}
theorem OA(h:Nl ss n Pd):Kq (EE Pd) n (ss++List.replicate 0 .no):=by
 obtain⟨x,y,z,rfl,p⟩:=h
 unfold Kq
 exact⟨_,AL (j:=2) rfl,_,AL (j:=0) rfl,_,AL (j:=1) rfl,z3,p⟩
theorem R6{ts:List BC}(h:Gk (λx=>C7 (Mc x)) (ts.map AW)):E6 ts:=by
 unfold Gk at h
 rw [List.pairwise_map] at h
 exact h.imp λ{s t} z=>z _ _ rfl rfl
theorem MX(h:DM ss n Pd):Ja (EF Pd) n (ss++List.replicate 0 .no):=by
 obtain⟨d,ts,rfl,hd,h64,p⟩:=h
 unfold Ja
 refine⟨ts.map AW,Mc,hd,by rw [List.length_map]; exact h64,λx hx Q hq=>?_,⟨λx hx=>?_,λx hx y hy ka kb ea eb=>?_⟩,λxs' hp ho=>?_⟩
 ·obtain⟨t,_,rfl⟩:=List.mem_map.mp hx
  exact⟨_,_,_,rfl,hq⟩
 ·obtain⟨t,_,rfl⟩:=List.mem_map.mp hx
  exact⟨Ig t,rfl,List.cons_ne_nil _ _⟩
 ·obtain⟨t,_,rfl⟩:=List.mem_map.mp hx
  obtain⟨u,_,rfl⟩:=List.mem_map.mp hy
  cases (show some (Ig t)=some ka from ea)
  cases (show some (Ig u)=some kb from eb)
  rfl
 ·obtain⟨ts',h1,rfl⟩:=RK (g:=XF) (λ_=>rfl) hp
  exact p ts' h1 (R6 ho)
theorem Lm{N:Net}(ok:N.Ok){x:Str}{p:Str×Int}(h:p∈Dt N.ts x):p.1∈N.ps/\1<=p.2/\p.2<=1000000/\∃t∈N.ts,t.len=p.2/\((t.a=x/\t.b=p.1)\/(t.b=x/\t.a=p.1)):=by
 unfold Dt at h
 obtain⟨t,ht,h⟩:=List.mem_flatMap.mp h
 obtain⟨m1,m2,m3,m4,m5⟩:=ok.tin t ht
 rcases List.mem_append.mp h with h | h
 ·split at h
  ·rename_i e
   rw [List.mem_singleton.mp h]
   exact⟨m2,m4,m5,t,ht,rfl,.inl ⟨e,rfl⟩⟩
  ·cases h
 ·split at h
  ·rename_i e
   rw [List.mem_singleton.mp h]
   exact⟨m1,m4,m5,t,ht,rfl,.inr ⟨e,rfl⟩⟩
  ·cases h
theorem Pe(s t:BC):Eg (AW s) (AW t)=true↔s=t:=by
 obtain⟨a,b,l⟩:=s
 obtain⟨a',b',l'⟩:=t
 show (a==a'&&(b==b'&&(l==l'&&true)))=true↔_
 rw [Bool.and_true,Bool.and_eq_true,Bool.and_eq_true,beq_iff_eq,beq_iff_eq,beq_iff_eq]
 constructor
 ·rintro ⟨rfl,rfl,rfl⟩; rfl
 ·rintro h; cases h; exact⟨rfl,rfl,rfl⟩
theorem Ka{xs:List D}(h:∀d∈xs,item d):EH (.lst xs):=by
 have d1:FS xs<=1:=dps_le.mpr λd hd=>(h d hd).2.2
 exact C6 (B:=1000001) (by decide) (fines_iff.mpr λd hd=>(h d hd).1) (by show FS xs+1<=100; omega)
theorem HD{α β:Type}(f:α->β):∀(l:List α) (i:Nat),(l.map f).eraseIdx i=(l.eraseIdx i).map f
 | [],i=>rfl
 | x::l,0=>rfl
 | x::l,i+1=>by
  show f x::(l.map f).eraseIdx i=f x::(l.eraseIdx i).map f
  rw [HD f l i]
theorem Tw{N:Net}(ok:N.Ok){x o:Str}{s t:BC}(hs:s∈N.ts)(ht:t∈N.ts)(e:Bv s t)(h1:(s.a=x/\s.b=o)\/(s.b=x/\s.a=o))(h2:(t.a=x/\t.b=o)\/(t.b=x/\t.a=o)):False:=by
 have ls:=(ok.tin s hs).2.2.1
 have lt:=(ok.tin t ht).2.2.1
 have irr:∀a:Str,¬cs a<cs a:=λa=>List.lt_irrefl _
 rcases h1 with ⟨a1,b1⟩ | ⟨a1,b1⟩ <;> rcases h2 with ⟨a2,b2⟩ | ⟨a2,b2⟩ <;> rw [a1,b1] at ls <;> rw [a2,b2] at lt
 ·rcases e with e | ⟨_,e⟩
  ·rw [a1,a2] at e; exact irr _ e
  ·rw [b1,b2] at e; exact irr _ e
 ·exact irr _ (List.lt_trans ls lt)
 ·exact irr _ (List.lt_trans ls lt)
 ·rcases e with e | ⟨_,e⟩
  ·rw [b1,b2] at e; exact irr _ e
  ·rw [a1,a2] at e; exact irr _ e
theorem Qb{N:Net}(ok:N.Ok)(x:Str):((Dt N.ts x).map (·.1)).Nodup:=by
 have go:∀ts:List BC,(∀t∈ts,t∈N.ts)->ts.Pairwise Bv->((Dt ts x).map (·.1)).Nodup:=by
  intro ts
  induction ts with
  | nil=>intro _ _; exact List.nodup_nil
  | cons t ts ih =>
   intro hin hp
   have i1:=ih (λs hs=>hin s (List.mem_cons_of_mem _ hs)) (List.pairwise_cons.mp hp).2
   have lt:=(ok.tin t (hin t List.mem_cons_self)).2.2.1
   have new:∀y,((t.a=x/\t.b=y)\/(t.b=x/\t.a=y))->y∉(Dt ts x).map (·.1):=λy hy hm=>by
    obtain⟨s,hs,h⟩:=Ll hm
    exact Tw ok (hin t List.mem_cons_self) (hin s (List.mem_cons_of_mem _ hs)) ((List.pairwise_cons.mp hp).1 s hs) hy h
   have e:Dt (t::ts) x=((if t.a=x then [(t.b,t.len)] else [])++(if t.b=x then [(t.a,t.len)] else []))++Dt ts x:=by
    unfold Dt
    rw [List.flatMap_cons]
   rw [e]
   by_cases h1:t.a=x
   ·have h2:¬t.b=x:=λz=>by rw [h1,z] at lt; exact List.lt_irrefl _ lt
    rw [if_pos h1,if_neg h2,List.append_nil,List.singleton_append,List.map_cons,List.nodup_cons]
    exact⟨new _ (.inl ⟨h1,rfl⟩),i1⟩
   ·rw [if_neg h1,List.nil_append]
    by_cases h2:t.b=x
    ·rw [if_pos h2,List.singleton_append,List.map_cons,List.nodup_cons]
     exact⟨new _ (.inr ⟨h2,rfl⟩),i1⟩
    ·rw [if_neg h2,List.nil_append]
     exact i1
 exact go N.ts (λ_ h=>h) ok.trise
end
theorem N6:∀c,97<=c->c<=122->Builtin.Str.reprChar 39 c=[c]:=by
 have:∀c<123,97<=c->Builtin.Str.reprChar 39 c=[c]:=by decide +kernel
 exact λc h1 h2=>this c (by omega) h1
theorem JJ:∀(l:List Nat) (acc:Array Nat),(∀c∈l,97<=c/\c<=122)->(l.foldl (λout c=>out++(Builtin.Str.reprChar 39 c).toArray) acc).toList=acc.toList++l
 | [],acc,_=>by simp
 | c::l,acc,h=>by
  have hc:=h c List.mem_cons_self
  rw [List.foldl_cons,JJ l _ λd hd=>h d (List.mem_cons_of_mem _ hd),N6 c hc.1 hc.2]
  simp
theorem BV{x:Str}(h:D1 x):∀c∈cs x,97<=c/\c<=122:=λc hc=>by
 have:=h.2.2 c hc
 first | exact this | (rw [Bool.and_eq_true,decide_eq_true_eq,decide_eq_true_eq] at this; exact this)
theorem IE{x:Str}(h:D1 x):cs (reprText x)=39::(cs x++[39]):=by
 have hs:=BV h
 have hq:reprQuote x=39:=by
  unfold reprQuote
  have:x.cps.contains 39=false:=by
   rw [Bool.eq_false_iff]
   intro hc
   have hm:39∈cs x:=by
    have:=Array.contains_iff_mem.mp hc
    exact Array.mem_toList_iff.mpr this
   have:=hs 39 hm
   omega
  rw [this]
  rfl
 unfold reprText
 rw [hq]
 show ((x.cps.foldl (λout c=>out++(Builtin.Str.reprChar 39 c).toArray) #[39]).push 39).toList=_
 rw [← Array.foldl_toList,Array.toList_push,JJ x.cps.toList _ hs]
 rfl
def Q8:List Str->List Nat->List Nat
 | [],f=>f
 | p::r,f=>44::32::39::(cs p++39::Q8 r f)
theorem Sq:cs (", " : Str)=[44,32]:=by decide +kernel
theorem CQ:∀(p:Str) (r:List Str) (f:List Nat),(∀q∈p::r,D1 q)->cs (Str.join ", " ((p::r).map reprText))++f=39::(cs p++39::Q8 r f)
 | p,[],f,h=>by
  show cs (reprText p)++f=_
  rw [IE (h p List.mem_cons_self)]
  simp [Q8]
 | p,q::r,f,h=>by
  show cs (reprText p ++ ", "++Str.join ", " ((q::r).map reprText))++f=_
  rw [DA,DA,IE (h p List.mem_cons_self),List.append_assoc,CQ q r f λz hz=>h z (List.mem_cons_of_mem _ hz),Sq]
  simp [Q8]
theorem Rv:∀{a b r r':List Nat},(∀c∈a,97<=c/\c<=122)->(∀c∈b,97<=c/\c<=122)->a++39::r=b++39::r'->a=b/\r=r'
 | [],[],r,r',_,_,h=>⟨rfl,(List.cons.inj h).2⟩
 | [],c::b,r,r',_,hb,h=>by
  have:=hb c List.mem_cons_self
  have e:=(List.cons.inj h).1
  omega
 | c::a,[],r,r',ha,_,h=>by
  have:=ha c List.mem_cons_self
  have e:=(List.cons.inj h).1
  omega
 | c::a,d::b,r,r',ha,hb,h=>by
  have h:=List.cons.inj h
  obtain⟨e1,e2⟩:=Rv (λz hz=>ha z (List.mem_cons_of_mem _ hz)) (λz hz=>hb z (List.mem_cons_of_mem _ hz)) h.2
  exact⟨by rw [h.1,e1],e2⟩
def Vi(f:List Nat):Prop:=f=[41]\/f=[44,41]
theorem Ot:∀{r r':List Str} {f f':List Nat},(∀q∈r,D1 q)->(∀q∈r',D1 q)->Vi f->Vi f'->Q8 r f=Q8 r' f'->r=r'
 | [],[],_,_,_,_,_,_,_=>rfl
 | [],q::r',f,f',_,_,hf,_,h=>by
  have h:f=44::32::39::(cs q++39::Q8 r' f'):=h
  rcases hf with e | e <;> rw [e] at h <;> simp at h
 | q::r,[],f,f',_,_,_,hf,h=>by
  have h:44::32::39::(cs q++39::Q8 r f)=f':=h
  rcases hf with e | e <;> rw [e] at h <;> simp at h
 | q::r,q'::r',f,f',h1,h2,hf,hf',h=>by
  have h:44::32::39::(cs q++39::Q8 r f)=44::32::39::(cs q'++39::Q8 r' f'):=h
  have h:cs q++39::Q8 r f=cs q'++39::Q8 r' f':=by injection h with _ h; injection h with _ h; injection h with _ h
  obtain⟨e1,e2⟩:=Rv (BV (h1 q List.mem_cons_self)) (BV (h2 q' List.mem_cons_self)) h
  rw [JT e1,Ot (λz hz=>h1 z (List.mem_cons_of_mem _ hz)) (λz hz=>h2 z (List.mem_cons_of_mem _ hz)) hf hf' e2]
theorem IP:∀ps:List Str,A1 (ps.map .str)=ps.map PyData.str
 | []=>rfl
 | p::r=>by
  show PyData.str p::A1 (r.map .str)=_
  rw [IP r]
  rfl
theorem IW(ps:List Str):BH (.tup (ps.map .str))=tupleText (ps.map reprText):=by
 show (PyData.tuple (A1 (ps.map .str))).shown=_
 rw [IP,PyData.shown,PyData.shownAll_strs]
theorem T8:cs ("(" : Str)=[40]:=by decide +kernel
theorem Vw(b:Bool):cs ((if b=true then ",)" else ")" : String):Str)=if b=true then [44,41] else [41]:=by
 cases b
 ·decide +kernel
 ·decide +kernel
theorem JS(ts:List Str):cs (tupleText ts)=40::(cs (Str.join ", " ts)++(if (ts.length==1)=true then [44,41] else [41])):=by
 unfold tupleText
 rw [DA,DA,T8,Vw]
 rfl
theorem SY(b:Bool):Vi (if b=true then [44,41] else [41]):=by
 cases b
 ·exact .inl rfl
 ·exact .inr rfl
theorem Mt{ps qs:List Str}(h1:∀p∈ps,D1 p)(h2:∀q∈qs,D1 q)(h:BH (.tup (ps.map .str))=BH (.tup (qs.map .str))):ps=qs:=by
 rw [IW,IW] at h
 have h:=congrArg cs h
 rw [JS,JS,List.length_map,List.length_map] at h
 have h:=(List.cons.inj h).2
 cases ps with
 | nil =>
  cases qs with
  | nil=>rfl
  | cons q qs =>
   rw [CQ q qs _ h2] at h
   have h:[41]=39::_:=h
   simp at h
 | cons p ps =>
  cases qs with
  | nil =>
   rw [CQ p ps _ h1] at h
   have h:39::_=[41]:=h
   simp at h
  | cons q qs =>
   rw [CQ q qs _ h2,CQ p ps _ h1] at h
   obtain⟨e1,e2⟩:=Rv (BV (h1 p List.mem_cons_self)) (BV (h2 q List.mem_cons_self)) (List.cons.inj h).2
   rw [JT e1,Ot (λz hz=>h1 z (List.mem_cons_of_mem _ hz)) (λz hz=>h2 z (List.mem_cons_of_mem _ hz)) (SY _) (SY _) e2]
theorem Sr(n:Nat):cs ((toString (n:Int):String):Str)=(Nat.toDigits 10 n).map Char.toNat:=by
 show (Str.ofString (toString (n:Int))).cps.toList=_
 rw [Str.ofString_eq_toList]
 show (toString (n:Int)).toList.map Char.toNat=_
 have:toString (n:Int)=Nat.repr n:=rfl
 rw [this,Nat.toList_repr]
theorem Su{a b:Char}(h:a.toNat=b.toNat):a=b:=Char.ext (UInt32.toNat_inj.mp h)
theorem Mz:∀{a b:List Char},a.map Char.toNat=b.map Char.toNat->a=b
 | [],[],_=>rfl
 | [],_::_,h=>by cases h
 | _::_,[],h=>by cases h
 | x::a,y::b,h=>by
  have h:=List.cons.inj h
  rw [Su h.1,Mz h.2]
theorem Qt{i j:Int}(hi:0<=i)(hj:0<=j)(h:cs ((toString i:String):Str)=cs ((toString j:String):Str)):i=j:=by
 obtain⟨n,rfl⟩:=Int.eq_ofNat_of_zero_le hi
 obtain⟨m,rfl⟩:=Int.eq_ofNat_of_zero_le hj
 rw [Sr,Sr] at h
 have:=congrArg (λl=>Nat.ofDigitChars 10 l 0) (Mz h)
 simp only [Nat.ofDigitChars_ten_toDigits] at this
 rw [this]
theorem QC(t:BC):BH (AW t)=tupleText [reprText t.a,reprText t.b,((toString t.len:String):Str)]:=by
 show (PyData.tuple [.str t.a,.str t.b,.int t.len]).shown=_
 simp only [PyData.shown,PyData.shownAll]
theorem Oa{t:BC}(ha:D1 t.a)(hb:D1 t.b):cs (BH (AW t))=40::39::(cs t.a++39::44::32::39::(cs t.b++39::44::32::(cs ((toString t.len:String):Str)++[41]))):=by
 rw [QC,JS]
 show 40::(cs (reprText t.a ++ ", "++(reprText t.b ++ ", "++((toString t.len:String):Str)))++[41])=_
 rw [DA,DA,DA,DA,IE ha,IE hb,Sq]
 simp
theorem P7{s t:BC}(h1:D1 s.a)(h2:D1 s.b)(h3:D1 t.a)(h4:D1 t.b)(h5:0<=s.len)(h6:0<=t.len)(h:BH (AW s)=BH (AW t)):s=t:=by
 have h:=congrArg cs h
 rw [Oa h1 h2,Oa h3 h4] at h
 have h:=(List.cons.inj (List.cons.inj h).2).2
 obtain⟨e1,e2⟩:=Rv (BV h1) (BV h3) h
 have e2:=(List.cons.inj (List.cons.inj (List.cons.inj e2).2).2).2
 obtain⟨e3,e4⟩:=Rv (BV h2) (BV h4) e2
 have e4:=(List.cons.inj (List.cons.inj e4).2).2
 have e5:=Qt h5 h6 (List.append_cancel_right e4)
 obtain⟨a,b,l⟩:=s
 obtain⟨a',b',l'⟩:=t
 have e1:=JT e1
 have e3:=JT e3
 simp only at e1 e3 e5
 rw [e1,e3,e5]
def Ec(t:BC):List Key:=[.inr t.a,.inr t.b,.inl t.len]
def Qx(t:BC):List Key:=[.inr t.a,.inr t.b]
def Nb(ts:List BC):Prop:=ts.Pairwise λs t=>Bh (Ec t) (Ec s)=false
def ME(N:Net)(d:D):Prop:=∃ts:List BC,d=.tup [.tup (N.ps.map .str),.tup (ts.map AW)]/\(∀t∈ts,t∈N.ts)/\ts.Pairwise Bv
noncomputable def thinB(N:Net)(d:D):Bool:=@decide (ME N d) (Classical.propDecidable _)
theorem thinB_iff{N:Net}{d:D}:thinB N d=true↔ME N d:=by
 unfold thinB
 exact @decide_eq_true_iff _ (Classical.propDecidable _)
theorem NM{N:Net}{d:D}{b:Bool}(h:b=true↔ME N d):b=thinB N d:=by
 rw [Bool.eq_iff_iff,thinB_iff]
 exact h
def WO(N:Net)(d:D):Prop:=∃s∈N.ts,d=AW s
noncomputable def IN(N:Net)(d:D):Bool:=@decide (WO N d) (Classical.propDecidable _)
theorem tofB_iff{N:Net}{d:D}:IN N d=true↔WO N d:=by
 unfold IN
 exact @decide_eq_true_iff _ (Classical.propDecidable _)
theorem Ua{a:Str}{x:D}(h:Eg (.str a) x=true):x=.str a:=by
 cases x with
 | str b =>
  have h:(a==b)=true:=h
  rw [eq_of_beq h]
 | _=>cases h
theorem XD{a:Str}{x:D}(h:Eg x (.str a)=true):x=.str a:=by
 cases x with
 | str b =>
  have h:(b==a)=true:=h
  rw [eq_of_beq h]
 | _=>cases h
theorem HW:∀{xs:List D} {ps:List Str},PyData.eqvAll (A1 xs) (A1 (ps.map .str))=true->xs=ps.map .str
 | [],[],_=>rfl
 | [],_::_,h=>by cases h
 | _::_,[],h=>by cases h
 | x::xs,p::ps,h=>by
  have h:(PyData.eqv (toPy x) (toPy (.str p))&&PyData.eqvAll (A1 xs) (A1 (ps.map .str)))=true:=h
  rw [Bool.and_eq_true] at h
  rw [XD (a:=p) (x:=x) h.1,HW h.2]
  rfl
theorem eqvAll_refl:∀ps:List Str,PyData.eqvAll (A1 (ps.map .str)) (A1 (ps.map .str))=true
 | []=>rfl
 | p::ps=>by
  show ((p==p)&&PyData.eqvAll (A1 (ps.map .str)) (A1 (ps.map .str)))=true
  rw [beq_self_eq_true,eqvAll_refl ps]
  rfl
theorem eqD_strs{p:D}{ps:List Str}:Eg p (.tup (ps.map .str))=true↔p=.tup (ps.map .str):=by
 constructor
 ·intro h
  cases p with
  | tup xs=>rw [HW (xs:=xs) (ps:=ps) h]
  | _=>cases h
 ·rintro rfl
  exact eqvAll_refl ps
theorem Qw{s:BC}{d:D}(h:Eg (AW s) d=true):∃z,d=.tup [.str s.a,.str s.b,z]/\∀i,z=.int i->i=s.len:=by
 cases d with
 | tup xs =>
  match xs,h with
  | [x,y,z],h =>
   have h:(PyData.eqv (toPy (.str s.a)) (toPy x)&&(PyData.eqv (toPy (.str s.b)) (toPy y)&&(PyData.eqv (.int s.len) (toPy z)&&true)))=true:=h
   rw [Bool.and_true,Bool.and_eq_true,Bool.and_eq_true] at h
   refine⟨z,by rw [Ua (a:=s.a) (x:=x) h.1,Ua (a:=s.b) (x:=y) h.2.1],λi e=>?_⟩
   subst e
   have h3:(s.len==i)=true:=h.2.2
   exact(eq_of_beq h3).symm
  | [],h=>cases h
  | [x],h=>exact absurd h (by show ¬((PyData.eqv (toPy (.str s.a)) (toPy x)&&false)=true); simp)
  | [x,y],h=>exact absurd h (by show ¬((PyData.eqv (toPy (.str s.a)) (toPy x)&&(PyData.eqv (toPy (.str s.b)) (toPy y)&&false))=true); simp)
  | x::y::z::u::r,h=>exact absurd h (by show ¬((PyData.eqv (toPy (.str s.a)) (toPy x)&&(PyData.eqv (toPy (.str s.b)) (toPy y)&&(PyData.eqv (.int s.len) (toPy z)&&false)))=true); simp)
 | _=>cases h
theorem IF{f:BC->D}{k:BC->List Key}(hk:∀s t,Gn (f s) (f t)=some (Bh (k s) (k t))):∀{ts:List BC},Jh (ts.map f)=true↔ts.Pairwise λs t=>Bh (k s) (k t)=true
 | []=>⟨λ_=>.nil,λ_=>rfl⟩
 | [t]=>⟨λ_=>List.pairwise_singleton _ _,λ_=>rfl⟩
 | s::t::r=>by
  have ih:=IF hk (ts:=t::r)
  show ((Gn (f s) (f t)==some true)&&Jh ((t::r).map f))=true↔_
  rw [Bool.and_eq_true,ih,hk,List.pairwise_cons (a:=s) (l:=t::r)]
  constructor
  ·rintro ⟨h1,h2⟩
   have h1:Bh (k s) (k t)=true:=Option.some.inj (eq_of_beq h1)
   refine⟨λu hu=>?_,h2⟩
   rcases List.mem_cons.mp hu with rfl | hu
   ·exact h1
   ·exact C5 _ _ _ h1 ((List.pairwise_cons.mp h2).1 u hu)
  ·rintro ⟨h1,h2⟩
   exact⟨by rw [h1 t List.mem_cons_self]; rfl,h2⟩
theorem OR(s t:BC):Gn (AW s) (AW t)=some (Bh (Ec s) (Ec t)):=by
 show (if (true&&(true&&(true&&true)))=true then some (ER (Ec s) (Ec t)) else none)=_
 rw [if_pos (show (true&&(true&&(true&&true)))=true from rfl),GH _ _ rfl]
theorem Ti(s t:BC):Gn (E4 (AW s)) (E4 (AW t))=some (Bh (Qx s) (Qx t)):=by
 show (if (true&&(true&&true))=true then some (ER (Qx s) (Qx t)) else none)=_
 rw [if_pos (show (true&&(true&&true))=true from rfl),GH _ _ rfl]
theorem ekey_iff{s t:BC}:Bh (Qx s) (Qx t)=true↔Bv s t:=by
 show (if (Sum.inr s.a:Key)=.inr t.a then (if (Sum.inr s.b:Key)=.inr t.b then false else decide (cs s.b<cs t.b)) else decide (cs s.a<cs t.a))=true↔(cs s.a<cs t.a\/(s.a=t.a/\cs s.b<cs t.b))
 by_cases h1:s.a=t.a
 ·rw [if_pos (by rw [h1])]
  by_cases h2:s.b=t.b
  ·rw [if_pos (by rw [h2]),h1,h2]
   constructor
   ·intro h; cases h
   ·rintro (h | ⟨_,h⟩)
    ·exact absurd h (Be _)
    ·exact absurd h (Be _)
  ·rw [if_neg (λe=>h2 (Sum.inr.inj e)),decide_eq_true_eq,h1]
   constructor
   ·intro h; exact .inr ⟨rfl,h⟩
   ·rintro (h | ⟨_,h⟩)
    ·exact absurd h (Be _)
    ·exact h
 ·rw [if_neg (λe=>h1 (Sum.inr.inj e)),decide_eq_true_eq]
  constructor
  ·intro h; exact .inl h
  ·rintro (h | ⟨h,_⟩)
   ·exact h
   ·exact absurd h h1
theorem J9(s:BC):¬Bv s s:=by
 rintro (h | ⟨_,h⟩) <;> exact Be _ h
theorem Ou{s t:BC}(h:Bv s t):Bh (Ec s) (Ec t)=true:=by
 show (if (Sum.inr s.a:Key)=.inr t.a then (if (Sum.inr s.b:Key)=.inr t.b then (if (Sum.inl s.len:Key)=.inl t.len then false else decide (s.len<t.len)) else decide (cs s.b<cs t.b)) else decide (cs s.a<cs t.a))=true
 rcases h with h | ⟨h,h'⟩
 ·rw [if_neg (λe=>Be s.a (by rw [Sum.inr.inj e] at h ⊢; exact h)),decide_eq_true h]
 ·rw [if_pos (by rw [h]),if_neg (λe=>Be s.b (by rw [Sum.inr.inj e] at h' ⊢; exact h')),decide_eq_true h']
theorem KS:∀{ts:List BC},ts.Pairwise Bv->∀s∈ts,∀t∈ts,s.a=t.a->s.b=t.b->s=t
 | [],_,s,hs,_,_,_,_=>by cases hs
 | x::ts,h,s,hs,t,ht,e1,e2=>by
  have h:=List.pairwise_cons.mp h
  rcases List.mem_cons.mp hs with es | hs
  ·rcases List.mem_cons.mp ht with et | ht
   ·rw [es,et]
   ·rcases h.1 t ht with h | ⟨_,h⟩
    ·rw [← es,e1] at h; exact absurd h (Be _)
    ·rw [← es,e2] at h; exact absurd h (Be _)
  ·rcases List.mem_cons.mp ht with et | ht
   ·rcases h.1 s hs with h | ⟨_,h⟩
    ·rw [← et,e1] at h; exact absurd h (Be _)
    ·rw [← et,e2] at h; exact absurd h (Be _)
   ·exact KS h.2 s hs t ht e1 e2
theorem Tv{N:Net}(ok:N.Ok){s t:BC}(hs:s∈N.ts)(ht:t∈N.ts)(h:Bh (Ec s) (Ec t)=true):Bv s t:=by
 have h:(if (Sum.inr s.a:Key)=.inr t.a then (if (Sum.inr s.b:Key)=.inr t.b then (if (Sum.inl s.len:Key)=.inl t.len then false else decide (s.len<t.len)) else decide (cs s.b<cs t.b)) else decide (cs s.a<cs t.a))=true:=h
 by_cases h1:s.a=t.a
 ·rw [if_pos (by rw [h1])] at h
  by_cases h2:s.b=t.b
  ·rw [if_pos (by rw [h2]),if_pos (by rw [KS ok.trise s hs t ht h1 h2])] at h
   cases h
  ·rw [if_neg (λe=>h2 (Sum.inr.inj e)),decide_eq_true_eq] at h
   exact .inr ⟨h1,h⟩
 ·rw [if_neg (λe=>h1 (Sum.inr.inj e)),decide_eq_true_eq] at h
  exact .inl h
theorem CC{ts:List BC}(h:ts.Pairwise Bv):ts.Nodup:=h.imp λ{s t} h e=>by rw [e] at h; exact J9 _ h
theorem sub_len{l m:List BC}(hl:l.Nodup)(hm:m.Nodup)(h:∀t∈l,t∈m):l.length<=m.length:=by
 have:l.Perm (m.filter λt=>decide (t∈l)):=(List.perm_ext_iff_of_nodup hl (hm.filter _)).mpr λt=>by
  rw [List.mem_filter,decide_eq_true_eq]
  exact⟨λz=>⟨h t z,z⟩,λz=>z.2⟩
 rw [this.length_eq]
 exact List.length_filter_le _ _
theorem N5{N:Net}(ok:N.Ok){ts:List BC}(h:∀t∈ts,t∈N.ts)(hp:ts.Pairwise Bv):Net.Ok ⟨N.ps,ts⟩:=⟨ok.names,ok.rise,λt ht=>ok.tin t (h t ht),hp⟩
theorem Gu{P:BC->Prop}:∀{xs:List D},(∀d∈xs,∃s,P s/\d=AW s)->∃ts:List BC,xs=ts.map AW/\∀t∈ts,P t
 | [],_=>⟨[],rfl,λt h=>by cases h⟩
 | d::xs,h=>by
  obtain⟨s,hs,rfl⟩:=h d List.mem_cons_self
  obtain⟨ts,rfl,ht⟩:=Gu λe he=>h e (List.mem_cons_of_mem _ he)
  refine⟨s::ts,rfl,λt z=>?_⟩
  rcases List.mem_cons.mp z with rfl | z
  ·exact hs
  ·exact ht t z
theorem MM{N:Net}{xs:List D}(h:xs.all (IN N)=true):∃ts:List BC,xs=ts.map AW/\∀t∈ts,t∈N.ts :=
 Gu λd hd=>by
  obtain⟨s,hs,e⟩:=tofB_iff.mp (List.all_eq_true.mp h d hd)
  exact⟨s,hs,e⟩
theorem P8{N:Net}(ok:N.Ok)(p:D)(xs:List D):(Eg p (.tup (N.ps.map .str))&&(xs.all (IN N)&&Jh xs))=thinB N (.tup [p,.tup xs]):=by
 refine NM ⟨λh=>?_,λh=>?_⟩
 ·rw [Bool.and_eq_true,Bool.and_eq_true] at h
  obtain⟨ts,rfl,hts⟩:=MM h.2.1
  refine⟨ts,by rw [eqD_strs.mp h.1],hts,?_⟩
  have:=(IF OR).mp h.2.2
  exact this.imp_of_mem λ{s t} hs ht z=>Tv ok (hts s hs) (hts t ht) z
 ·obtain⟨ts,e,hts,hp⟩:=h
  cases e
  rw [Bool.and_eq_true,Bool.and_eq_true]
  refine⟨eqD_strs.mpr rfl,List.all_eq_true.mpr λd hd=>?_,(IF OR).mpr (hp.imp λ{s t} z=>Ou z)⟩
  obtain⟨t,ht,rfl⟩:=List.mem_map.mp hd
  exact tofB_iff.mpr ⟨t,hts t ht,rfl⟩
theorem ML{N:Net}{d:D}(h:∀p xs,d≠.tup [p,.tup xs]):thinB N d=false:=by
 rw [Bool.eq_false_iff]
 intro z
 obtain⟨ts,e,_⟩:=thinB_iff.mp z
 exact h _ _ e
theorem SE{d:D}(h:ON d=true):∃(ps:List Str) (ts:List BC),d=.tup [.tup (ps.map .str),.tup (ts.map AW)]/\(∀p∈ps,D1 p)/\ps.length<=24/\ts.length<=60/\(∀t∈ts,D1 t.a/\D1 t.b/\1<=t.len/\t.len<=1000000)/\ts.Pairwise Bv:=by
 cases h2:tupleOfB 2 d with
 | false=>rw [Wz h2] at h; cases h
 | true =>
  obtain⟨p,t,rfl⟩:=Uu h2
  have h':(Hy p&&N1 p t)=true:=h
  rw [Bool.and_eq_true] at h'
  cases p with
  | tup xs =>
   have h1:(decide (xs.length<=24)&&(xs.all CB&&Jh xs))=true:=h'.1
   rw [Bool.and_eq_true,Bool.and_eq_true,decide_eq_true_eq] at h1
   obtain⟨ps,rfl,hps⟩:=Mu h1.2.1
   have h3:UE (strsOf (ps.map .str)) t=true:=h'.2
   rw [Cu] at h3
   cases t with
   | tup ys =>
    have h3:(decide (ys.length<=60)&&(ys.all Gv&&(ys.all (D4 ps)&&Jh (ys.map E4))))=true:=h3
    rw [Bool.and_eq_true,Bool.and_eq_true,Bool.and_eq_true,decide_eq_true_eq] at h3
    obtain⟨ts,rfl,hts⟩:=Gu (P:=λt=>D1 t.a/\D1 t.b/\1<=t.len/\t.len<=1000000) (xs:=ys) λd hd=>by
     obtain⟨x,y,l,rfl,hx,hy,_,l1,l2⟩:=K4 (List.all_eq_true.mp h3.2.1 d hd)
     exact⟨⟨x,y,l⟩,⟨hx,hy,l1,l2⟩,rfl⟩
    refine⟨ps,ts,rfl,hps,by have:=h1.1; rw [List.length_map] at this; exact this,by have:=h3.1; rw [List.length_map] at this; exact this,hts,?_⟩
    have h4:=h3.2.2.2
    rw [List.map_map] at h4
    exact((IF (f:=E4∘AW) Ti).mp h4).imp λ{s t} z=>ekey_iff.mp z
   | _=>cases h3
  | _=>cases h'.1
theorem RO{N:Net}(ok:N.Ok){ps:List Str}{ts:List BC}(hps:∀p∈ps,D1 p)(hts:∀t∈ts,D1 t.a/\D1 t.b/\1<=t.len/\t.len<=1000000)(hp:ts.Pairwise Bv) :
  ((BH (.tup (ps.map .str))==BH (.tup (N.ps.map .str)))&&(ts.map AW).all λd=>(N.ts.map AW).any λe=>BH e==BH d)=thinB N (.tup [.tup (ps.map .str),.tup (ts.map AW)]):=by
 refine NM ⟨λh=>?_,λh=>?_⟩
 ·rw [Bool.and_eq_true] at h
  have e:=Mt hps ok.names (eq_of_beq h.1)
  subst e
  refine⟨ts,rfl,λt ht=>?_,hp⟩
  have:=List.all_eq_true.mp h.2 (AW t) (List.mem_map.mpr ⟨t,ht,rfl⟩)
  obtain⟨e,he,z⟩:=List.any_eq_true.mp this
  obtain⟨s,hs,rfl⟩:=List.mem_map.mp he
  obtain⟨m1,m2,_,m3,_⟩:=ok.tin s hs
  obtain⟨k1,k2,k3,_⟩:=hts t ht
  rw [← P7 (ok.names _ m1) (ok.names _ m2) k1 k2 (by omega) (by omega) (eq_of_beq z)]
  exact hs
 ·obtain⟨us,e,hus,_⟩:=h
  have e1:ps.map D.str=N.ps.map D.str:=by injection e with e; injection e with e; injection e
  have e2:ts.map AW=us.map AW:=by injection e with e; injection e with _ e; injection e with e; injection e
  rw [Bool.and_eq_true,e1,beq_self_eq_true]
  refine⟨rfl,List.all_eq_true.mpr λd hd=>?_⟩
  rw [e2] at hd
  obtain⟨u,hu,rfl⟩:=List.mem_map.mp hd
  exact List.any_eq_true.mpr ⟨AW u,List.mem_map.mpr ⟨u,hus u hu,rfl⟩,beq_self_eq_true _⟩
theorem RN{N:Net}{d:D}(ok:N.Ok)(l1:N.ps.length<=24)(l2:N.ts.length<=60)(h:ME N d):ON d=true:=by
 obtain⟨ts,rfl,hts,hp⟩:=h
 exact SF (N:=⟨N.ps,ts⟩) (N5 ok hts hp) l1 (Nat.le_trans (sub_len (CC hp) (CC ok.trise) hts) l2)
end Nt
namespace L2
open PySem PySem.Spec PyProof.Rows PySem.W
section
variable {X:Cx}
end
end L2
namespace Dp
open PySem PySem.Spec PyProof.Rows L2
section
variable {X:Cx}{K:Frag}
end
end Dp
namespace Nt
open PySem PySem.Spec PyProof.Rows L2 Dp
def look(ts:List BC)(x y:Str):Option Int:=((Dt ts x).find? λz=>decide (z.1=y)).map (·.2)
def FP(ts:List BC):Str->List Str->Int->Option Int
 | _,[],s=>some s
 | x,y::r,s=>match look ts x y with
  | some l=>FP ts y r (s+l)
  | none=>none
def QG:Option Int->D
 | some i=>.int i
 | none=>.non
def C9:D->Bool
 | .str _=>true
 | _=>false
def Tl(N:Net):List Str->D
 | x::r=>if x∈N.ps then QG (FP N.ts x r 0) else .non
 | []=>.non
def VU(N:Net):D->D
 | .tup xs=>if xs.all C9 then Tl N (strsOf xs) else .non
 | _=>.non
def W_(d:D):Prop:=FQ (10 ^ 30) d/\MP d<=60000/\NP d<=50
abbrev Hs:W2:=λss n P=>∃(N:Net) (d:D),ss=[.sh (enc N),.sh d]/\N.Ok/\N.ps.length<=26/\N.ts.length<=60/\W_ d/\P (VU N d) n
def Nf:Al:=(Ae (BD (CP (B8 (AO (Ej "tuple" (AA 1)))) (AO (AS (Gp false) (DQ Ee (AF (AA 1) AZ)) (wC (D.int 0))))) (As (wC D.non)) Au)
 (Ae (BD (B8 (AO (DQ NL (AF (BY [none] (BL (AA 1)) (AX 0) CM (Ej "str" (AA 0))) AZ)))) (As (wC D.non)) Au)
 (Ae (A0 2 (Aa HI (AD (AK (AA 0)) Ac)))
 (Ae (BD (AO (AS (JN true) (AS A5 (AA 1) (wC (D.int 0))) (AA 2))) (As (wC D.non)) Au)
 (Ae (A0 3 (wC (D.int 0)))
 (Ae (Ek (S_ (AF (AA 1) (AF (Nx FR (AA 1) (Ck (wC (D.int 1))) Co) AZ))) (D6 2 (Ao (AX 4) (Ao (AX 5) CS))) (Ae (BD (AO (AS (JN true) (AA 5) (AS Ct (AA 2) (AA 4)))) (As (wC D.non)) Au)
 (RH 3 (AS Ct (AS Ct (AA 2) (AA 4)) (AA 5)))))
 (As (AA 3))))))))
def Oe:Al:=(Ae (BD (CP (B8 (AO (Ej "tuple" (AA 1)))) (CP (AO (AS (Gp false) (DQ Ee (AF (AA 1) AZ)) (wC (D.int 0)))) (AO (AS (Dl false) (wC (D.bl false)) (BY [none] (BL (AA 1)) (AX 0) CM (Ej "str" (AA 0))))))) (As (wC D.non)) Au)
 (Ae (BD (AO (AS (Dl false) (wC (D.bl false)) (BY [some 0,none] (BL (AA 1)) (AX 1) CM (AS (Dl false) (AA 1) (AS A5 (AA 0) (wC (D.int 0))))))) (As (wC D.non)) Au)
 (Ae (A0 2 (wC (D.int 0)))
 (Ae (Ek (RF (AF (wC (D.int 1)) (AF (DQ Ee (AF (AA 1) AZ)) AZ))) (AX 3) (Ae (WL (Nx FR (AA 1) (Ck (AS NJ (AA 3) (wC (D.int 1)))) (Ck (AS A8 (AA 3) (wC (D.int 1))))) (D6 2 (Ao (AX 4) (Ao (AX 5) CS))))
 (Ae (A0 6 (BY [some 4,some 5,none] (BL (AS A5 (AA 0) (wC (D.int 1)))) (AX 2) (HL (AO (AS (Gp true) (AA 0) (AA 1))) (HL (AO (AS (Dl false) (AA 0) (Nx FR (AA 2) Co (Ck (wC (D.int 2)))))) (AO (AS (Dl false) (AA 1) (Nx FR (AA 2) Co (Ck (wC (D.int 2)))))))) (AS A5 (AA 2) (wC (D.int 2)))))
 (Ae (BD (AO (AS Vl (AA 6) (Ff AZ))) (As (wC D.non)) Au)
 (A0 2 (AS A8 (AA 2) (AS A5 (AA 6) (wC (D.int 0)))))))))
 (As (AA 2))))))
theorem IR:∀{xs:List D},xs.all C9=true->∃ys:List Str,xs=ys.map .str
 | [],_=>⟨[],rfl⟩
 | d::r,h=>by
  rw [List.all_cons,Bool.and_eq_true] at h
  obtain⟨ys,e⟩:=IR h.2
  cases d with
  | str x=>exact⟨x::ys,by rw [List.map_cons,e]⟩
  | _=>cases h.1
theorem all_strs(ys:List Str):(ys.map D.str).all C9=true:=by rw [List.all_map]; exact List.all_eq_true.mpr λ_ _=>rfl
theorem K0{g:Str->D}{x:Str}:∀{ps:List Str},Bg (ps.map .inr) (ps.map g) (.inr x)=if x∈ps then some (g x) else none
 | []=>rfl
 | p::ps=>by
  show (if (Sum.inr p:Key)=.inr x then some (g p) else Bg (ps.map .inr) (ps.map g) (.inr x))=_
  rw [K0 (ps:=ps)]
  by_cases e:p=x
  ·subst e; rw [if_pos rfl,if_pos List.mem_cons_self]
  ·rw [if_neg (λz=>e (Sum.inr.inj z))]
   by_cases h:x∈ps
   ·rw [if_pos h,if_pos (List.mem_cons_of_mem _ h)]
   ·rw [if_neg h,if_neg (λz=>(List.mem_cons.mp z).elim (λz=>e z.symm) h)]
theorem K3{y:Str}:∀{xs:List (Str×Int)},Bg (xs.map λx=>.inr x.1) (xs.map λx=>.int x.2) (.inr y)=((xs.find? λz=>decide (z.1=y)).map (·.2)).map .int
 | []=>rfl
 | p::ps=>by
  show (if (Sum.inr p.1:Key)=.inr y then some (D.int p.2) else Bg (ps.map λx=>.inr x.1) (ps.map λx=>.int x.2) (.inr y))=_
  rw [K3 (xs:=ps)]
  by_cases e:p.1=y
  ·rw [if_pos (by rw [e]),List.find?_cons_of_pos (by exact decide_eq_true e)]; rfl
  ·rw [if_neg (λz=>e (Sum.inr.inj z)),List.find?_cons_of_neg (by rw [decide_eq_true_eq]; exact e)]
theorem M8{N:Net}(ok:N.Ok){x y:Str}{l:Int}(h:look N.ts x y=some l):y∈N.ps/\1<=l/\l<=1000000:=by
 unfold look at h
 cases c:(Dt N.ts x).find? λz=>decide (z.1=y) with
 | none=>rw [c] at h; cases h
 | some z =>
  rw [c] at h
  cases h
  have h1:=List.find?_some c
  have h2:=List.mem_of_find?_eq_some c
  obtain⟨t,ht,hz⟩:=List.mem_flatMap.mp h2
  obtain⟨m1,m2,_,m3,m4⟩:=ok.tin t ht
  have ey:z.1=y:=of_decide_eq_true h1
  rcases List.mem_append.mp hz with hz | hz
  ·split at hz
   ·cases List.mem_singleton.mp hz
    exact⟨by rw [← ey]; exact m2,m3,m4⟩
   ·cases hz
  ·split at hz
   ·cases List.mem_singleton.mp hz
    exact⟨by rw [← ey]; exact m1,m3,m4⟩
   ·cases hz
section
variable {ss:List Slot}{n:Nat}{Pd:D->Nat->Prop}
theorem M7{N:Net}(ok:N.Ok){D2:E2}{b0 b1:Slot}:∀(r:List Str) (x:Str) (s:Int) (s4 s5:Slot),x∈N.ps->(match FP N.ts x r s with | some l=>∀s4 s5,D2.nx n [b0,b1,.sh (En N),.sh (.int l),s4,s5] | none=>D2.rt .non n) ->
  Bj (D6 2 (Ao (AX 4) (Ao (AX 5) CS))) (Ae (BD (AO (AS (JN true) (AA 5) (AS Ct (AA 2) (AA 4)))) (As (wC D.non)) Au) (RH 3 (AS Ct (AS Ct (AA 2) (AA 4)) (AA 5)))) D2 (EA ((x::r).map .str) (r.map .str)) n [b0,b1,.sh (En N),.sh (.int s),s4,s5]
 | [],x,s,s4,s5,hx,h=>h s4 s5
 | y::r,x,s,s4,s5,hx,h=>by
  have v1:Bg (N.ps.map .inr) (N.ps.map (Q9 N.ts)) (.inr x)=some (Q9 N.ts x):=by rw [K0,if_pos hx]
  refine⟨rfl,rfl,?_⟩
  refine⟨_,_,.inr x,_,rfl,rfl,v1,_,_,.inr y,rfl,rfl,?_⟩
  show if (!(Bg ((Dt N.ts x).map λz=>.inr z.1) ((Dt N.ts x).map λz=>.int z.2) (.inr y)).isSome)=true then _ else _
  rw [K3]
  unfold FP at h
  have hl:((Dt N.ts x).find? λz=>decide (z.1=y)).map (·.2)=look N.ts x y:=rfl
  rw [hl]
  cases c:look N.ts x y with
  | none=>rw [c] at h; exact B6 h
  | some l =>
   rw [c] at h
   have v2:Bg ((Dt N.ts x).map λz=>.inr z.1) ((Dt N.ts x).map λz=>.int z.2) (.inr y)=some (.int l):=by rw [K3,hl,c]; rfl
   refine Bk ⟨s,rfl,_,_,.inr x,_,rfl,rfl,v1,_,_,.inr y,_,rfl,rfl,v2,l,rfl,?_⟩
   exact M7 ok r y (s+l) _ _ (M8 ok c).1 h
theorem LL(h0:Hs ss n Pd):Nf (EE Pd) n (ss++List.replicate 4 .no):=by
 obtain⟨N,d,rfl,ok,lp,lt,fd,p⟩:=h0
 cases d with
 | tup xs =>
  have hl:=K5 xs
  have hz:Jo xs<=60000:=fd.2.1
  have p':Pd (if xs.all C9 then Tl N (strsOf xs) else .non) n:=p
  refine⟨_,_,rfl,rfl,?_⟩
  show if ((xs.length:Int)==0)=true then _ else _
  cases xs with
  | nil=>exact B6 p'
  | cons x0 r0 =>
   rw [show (((x0::r0).length:Int)==0)=false from beq_eq_false_iff_ne.mpr (by rw [List.length_cons]; omega)]
   refine Bk ⟨by omega,?_⟩
   refine BB (λd=>.bl (C9 d)) (λρ=>∃s,ρ=[s]) _ _ _ _ ?_ ⟨_,rfl⟩ ?_
   ·rintro d hd ρ m nx ⟨s,rfl⟩ hnx
    have:=hnx [.sh d] ⟨_,rfl⟩
    cases d <;> exact this
   rw [List.nil_append]
   refine⟨_,_,rfl,Gd C9 (x0::r0),?_⟩
   rw [Sx]
   show if (!(x0::r0).all C9)=true then _ else _
   cases ha:(x0::r0).all C9 with
   | false=>rw [ha] at p'; exact B6 p'
   | true =>
    rw [ha] at p'
    obtain⟨ys,e⟩:=IR ha
    rw [e,Cu] at p'
    cases ys with
    | nil=>cases e
    | cons y r =>
     rw [List.map_cons] at e
     cases e
     refine Bk ⟨N,rfl,ok,by omega,by omega,?_⟩
     refine⟨.str y,AL (j:=0) rfl,_,_,.inr y,rfl,rfl,?_⟩
     show if (!(Bg (N.ps.map .inr) (N.ps.map (Q9 N.ts)) (.inr y)).isSome)=true then _ else _
     rw [K0]
     have p2:Pd (if y∈N.ps then QG (FP N.ts y r 0) else .non) n:=p'
     by_cases hy:y∈N.ps
     ·rw [if_pos hy] at p2 ⊢
      refine Bk ⟨_,_,(y::r).map .str,r.map .str,rfl,rfl,by show some (Dp.cutD (D.str y::r.map .str) (some 1) none)=_; rw [Vu]; rfl,?_⟩
      refine M7 ok r y 0 _ _ hy ?_
      cases c:FP N.ts y r 0 with
      | none=>rw [c] at p2; exact p2
      | some l=>rw [c] at p2; exact λ_ _=>p2
     ·rw [if_neg hy] at p2 ⊢
      exact B6 p2
 | _=>exact p
theorem Et{b:BW}{tt:Ht}{te:DW}{P:List D->Nat->Prop}(c:D->Bool)(g:D->D)(I:List Slot->Prop):∀(ds acc:List D) (n:Nat) (ρ:List Slot),
  (∀d∈ds,∀(ρ:List Slot) (n:Nat) (nx:D->Nat->List Slot->Prop) (sk:Nat->List Slot->Prop),I ρ->(∀ρ',I ρ'->c d=true->nx (g d) n ρ')->(∀ρ',I ρ'->c d=false->sk n ρ')->b d ρ λρ1=>tt n ρ1 λc n1=>if c=true then te n1 ρ1 λy n2=>nx y n2 ρ1 else sk n1 ρ1)->I ρ->P (acc++(ds.filter c).map g) n->CL b tt te P ds acc n ρ
 | [],acc,n,ρ,_,_,h=>by rw [List.filter_nil,List.map_nil,List.append_nil] at h; exact h
 | d::ds,acc,n,ρ,ht,hρ,h=>ht d List.mem_cons_self ρ n (λy n2 ρ1=>CL b tt te P ds (acc++[y]) n2 ρ1) (λn2 ρ1=>CL b tt te P ds acc n2 ρ1) hρ
  (λρ' hρ' hc=>Et c g I ds (acc++[g d]) n ρ' (λd hd=>ht d (List.mem_cons_of_mem _ hd)) hρ' (by rw [List.filter_cons_of_pos hc] at h; rw [List.append_assoc]; exact h))
  (λρ' hρ' hc=>Et c g I ds acc n ρ' (λd hd=>ht d (List.mem_cons_of_mem _ hd)) hρ' (by rw [List.filter_cons_of_neg (by rw [hc]; decide)] at h; exact h))
def Ea(x y:Str):D->Bool
 | .tup [.str a,.str b,_]=>!(x==y)&&((a==x||b==x)&&(a==y||b==y))
 | _=>false
def SM:D->D
 | .tup [_,_,l]=>l
 | d=>d
theorem JC{x y:Str}:∀{ts:List BC},(∀t∈ts,t.a≠t.b)->(((ts.map AW).filter (Ea x y)).map SM).head?=(look ts x y).map .int
 | [],_=>rfl
 | t::ts,h=>by
  have ih:=JC (x:=x) (y:=y) (ts:=ts) λs hs=>h s (List.mem_cons_of_mem _ hs)
  have hab:=h t List.mem_cons_self
  have ej:Ea x y (AW t)=(!(x==y)&&((t.a==x||t.b==x)&&(t.a==y||t.b==y))):=rfl
  have el:look (t::ts) x y=((((if t.a=x then [(t.b,t.len)] else [])++(if t.b=x then [(t.a,t.len)] else []))++Dt ts x).find? λz=>decide (z.1=y)).map (·.2):=rfl
  rw [List.map_cons,el]
  by_cases ax:t.a=x
  ·have bx:t.b≠x:=λe=>hab (ax.trans e.symm)
   rw [if_pos ax,if_neg bx,List.append_nil]
   by_cases e:t.b=y
   ·have xy:x≠y:=λz=>bx (e.trans z.symm)
    have:Ea x y (AW t)=true:=by rw [ej,beq_eq_false_iff_ne.mpr xy,beq_iff_eq.mpr ax,beq_iff_eq.mpr e]; simp
    rw [List.filter_cons_of_pos this,List.cons_append,List.find?_cons_of_pos (by exact decide_eq_true e)]
    rfl
   ·have:Ea x y (AW t)=false:=by
     rw [ej]
     by_cases xy:x=y
     ·rw [beq_iff_eq.mpr xy]; rfl
     ·rw [beq_eq_false_iff_ne.mpr e,beq_eq_false_iff_ne.mpr (show t.a≠y from λz=>xy (ax.symm.trans z))]; simp
    rw [List.filter_cons_of_neg (by rw [this]; decide),List.cons_append,List.find?_cons_of_neg (by rw [decide_eq_true_eq]; exact e)]
    exact ih
  ·rw [if_neg ax,List.nil_append]
   by_cases bx:t.b=x
   ·rw [if_pos bx]
    by_cases e:t.a=y
    ·have xy:x≠y:=λz=>ax (e.trans z.symm)
     have:Ea x y (AW t)=true:=by rw [ej,beq_eq_false_iff_ne.mpr xy,beq_iff_eq.mpr bx,beq_iff_eq.mpr e]; simp
     rw [List.filter_cons_of_pos this,List.cons_append,List.find?_cons_of_pos (by exact decide_eq_true e)]
     rfl
    ·have:Ea x y (AW t)=false:=by
      rw [ej]
      by_cases xy:x=y
      ·rw [beq_iff_eq.mpr xy]; rfl
      ·rw [beq_eq_false_iff_ne.mpr e,beq_eq_false_iff_ne.mpr (show t.b≠y from λz=>xy (bx.symm.trans z))]; simp
     rw [List.filter_cons_of_neg (by rw [this]; decide),List.cons_append,List.find?_cons_of_neg (by rw [decide_eq_true_eq]; exact e)]
     exact ih
   ·have:Ea x y (AW t)=false:=by rw [ej,beq_eq_false_iff_ne.mpr ax,beq_eq_false_iff_ne.mpr bx]; simp
    rw [if_neg bx,List.nil_append,List.filter_cons_of_neg (by rw [this]; decide)]
    exact ih
theorem NB{N:Net}(ok:N.Ok):∀{r:List Str} {x:Str} {s:Int},(∃y∈r,y∉N.ps)->FP N.ts x r s=none
 | [],x,s,h=>by obtain⟨y,hy,_⟩:=h; cases hy
 | z::r,x,s,h=>by
  unfold FP
  cases c:look N.ts x z with
  | none=>rfl
  | some l =>
   have hz:=(M8 ok c).1
   obtain⟨y,hy,hn⟩:=h
   rcases List.mem_cons.mp hy with rfl | hy
   ·exact absurd hz hn
   ·exact NB ok ⟨y,hy,hn⟩
theorem T7{ys:List Str}{k:Nat}{x y:Str}{r:List Str}(h:ys.drop k=x::y::r):Dp.cutD (ys.map D.str) (some (1+(k:Int) - 1)) (some (1+(k:Int)+1))=[.str x,.str y]:=by
 have hl:=congrArg List.length h
 rw [List.length_drop,List.length_cons,List.length_cons] at hl
 unfold Dp.cutD
 rw [show (1+(k:Int) - 1)=((k:Nat):Int) by omega,show (1+(k:Int)+1)=((k+2:Nat):Int) by omega,HT.sIx_nat,HT.sIx_nat,List.length_map,Nat.min_eq_left (by omega),Nat.min_eq_left (by omega),← List.map_drop,h,show k+2 - k=2 by omega]
 rfl
theorem OC(h0:Hs ss n Pd):Oe (EE Pd) n (ss++List.replicate 5 .no):=by
 obtain⟨N,d,rfl,ok,lp,lt,fd,p⟩:=h0
 cases d with
 | tup xs =>
  have hl:=K5 xs
  have hz:Jo xs<=60000:=fd.2.1
  have p':Pd (if xs.all C9 then Tl N (strsOf xs) else .non) n:=p
  refine⟨_,_,rfl,rfl,?_⟩
  show if ((xs.length:Int)==0)=true then _ else _
  cases xs with
  | nil=>exact B6 p'
  | cons x0 r0 =>
   rw [show (((x0::r0).length:Int)==0)=false from beq_eq_false_iff_ne.mpr (by rw [List.length_cons]; omega)]
   refine Bk ⟨by omega,?_⟩
   refine BB (λd=>.bl (C9 d)) (λρ=>∃s,ρ=[s]) _ _ _ _ ?_ ⟨_,rfl⟩ ?_
   ·rintro d hd ρ m nx ⟨s,rfl⟩ hnx
    have:=hnx [.sh d] ⟨_,rfl⟩
    cases d <;> exact this
   rw [List.nil_append]
   refine EI ?_
   show if (!(x0::r0).all C9)=true then _ else _
   cases ha:(x0::r0).all C9 with
   | false=>rw [ha] at p'; exact B6 p'
   | true =>
    rw [ha] at p'
    obtain⟨ys,e⟩:=IR ha
    rw [e,Cu] at p'
    cases ys with
    | nil=>cases e
    | cons y r =>
     rw [List.map_cons] at e
     cases e
     have p2:Pd (if y∈N.ps then QG (FP N.ts y r 0) else .non) n:=p'
     have hlay:∀z∈y::r,EH (.str z):=λz hz=>by
      refine C6 (B:=10 ^ 30) (by decide) ?_ (Nat.zero_le _)
      exact fines_iff.mp fd.1 _ (List.mem_map.mpr ⟨z,hz,rfl⟩:D.str z∈(y::r).map D.str)
     refine Bk ⟨by omega,?_⟩
     refine BB (λd=>.bl (match d with | .str z=>N.ps.any (·==z) | _=>false)) (λρ=>∃s,ρ=[.sh (enc N),s]) _ _ _ _ ?_ ⟨_,rfl⟩ ?_
     ·rintro d hd ρ m nx ⟨s,rfl⟩ hnx
      obtain⟨z,hz,rfl⟩:=List.mem_map.mp (show d∈(y::r).map D.str from hd)
      refine⟨_,AL (j:=0) rfl,hlay z hz,EG ok.names,_,rfl,?_⟩
      have:=hnx [.sh (enc N),.sh (.str z)] ⟨_,rfl⟩
      have e1:((N.ps.map D.str).any λu=>Eg u (.str z))=N.ps.any (·==z):=by rw [List.any_map]; rfl
      have this:nx (.bl (N.ps.any (·==z))) m [.sh (enc N),.sh (.str z)]:=this
      rw [← e1] at this
      exact this
     rw [List.nil_append]
     refine EI (l:=(y::r).map D.str) (p:=fun(d:D)=>match d with | .str z=>N.ps.any (·==z) | _=>false) ?_
     show if (!((y::r).map D.str).all _)=true then _ else _
     rw [List.all_map]
     have eall:((y::r).all ((fun(d:D)=>match d with | .str z=>N.ps.any (·==z) | _=>false)∘D.str))=true↔∀z∈y::r,z∈N.ps:=by
      rw [List.all_eq_true]
      refine forall_congr' λz=>forall_congr' λhz=>?_
      show (N.ps.any (·==z))=true↔_
      rw [List.any_eq_true]
      exact⟨fun⟨u,hu,e⟩=>by rw [← eq_of_beq e]; exact hu,λh=>⟨z,h,beq_self_eq_true _⟩⟩
     by_cases hin:∀z∈y::r,z∈N.ps
     ·rw [eall.mpr hin]
      rw [if_pos (hin y List.mem_cons_self)] at p2
      refine Bk ⟨_,_,rfl,rfl,_,_,rfl,⟨by decide,by decide,by omega,by omega⟩,?_⟩
      have hne:∀t∈N.ts,t.a≠t.b:=λt ht e=>by have:=(ok.tin t ht).2.2.1; rw [e] at this; exact List.lt_irrefl _ this
      have elen:(((y::r).map D.str).length:Int) - 1=(r.length:Int):=by rw [List.length_map,List.length_cons]; omega
      refine ED (all:=C2 1 ((((y::r).map D.str).length:Int) - 1).toNat) (λpre m ρ=>∃(x:Str) (rest:List Str) (s:Int) (s3 s4 s5 s6:Slot),(y::r).drop pre.length=x::rest/\m=n/\Pd (QG (FP N.ts x rest s)) n/\ρ=[.sh (enc N),.sh (.tup ((y::r).map .str)),.sh (.int s),s3,s4,s5,s6]) ?_ ?_ _ [] _ _ rfl ⟨y,r,0,_,_,_,_,rfl,rfl,p2,rfl⟩
      ·rintro m ρ ⟨x,rest,s,s3,s4,s5,s6,hd,rfl,hp,rfl⟩
       rw [B_,elen] at hd
       have:=congrArg List.length hd
       rw [List.length_drop,List.length_cons,List.length_cons] at this
       have hr:rest=[]:=List.length_eq_zero_iff.mp (by omega)
       rw [hr] at hp
       exact hp
      ·rintro pre d post m ρ nx hall ⟨x,rest,s,s3,s4,s5,s6,hd,rfl,hp,rfl⟩ hnx
       obtain⟨rfl,hk⟩:=Hw hall
       rw [elen] at hk
       have hlen:=congrArg List.length hd
       rw [List.length_drop,List.length_cons,List.length_cons] at hlen
       cases rest with
       | nil=>rw [List.length_nil] at hlen; omega
       | cons z rest =>
        rw [List.length_append,List.length_singleton] at hnx
        have hd2:(y::r).drop (pre.length+1)=z::rest:=by rw [← List.drop_drop,hd]; rfl
        have hx:x∈y::r:=List.mem_of_mem_drop (i:=pre.length) (by rw [hd]; exact List.mem_cons_self)
        have hz:z∈y::r:=List.mem_of_mem_drop (i:=pre.length) (by rw [hd]; exact List.mem_cons_of_mem _ List.mem_cons_self)
        have ec:=T7 hd
        show D6 2 (Ao (AX 4) (Ao (AX 5) CS)) (D.tup (Dp.cutD ((y::r).map D.str) (some (1+(pre.length:Int) - 1)) (some (1+(pre.length:Int)+1)))) _ _
        rw [ec]
        refine⟨rfl,rfl,?_⟩
        refine⟨.tup (N.ts.map AW),AL (j:=1) rfl,by rw [List.length_map]; omega,?_⟩
        refine Et (Ea x z) SM (λρ=>∃s,ρ=[.sh (.str x),.sh (.str z),s]) _ _ _ _ ?_ ⟨_,rfl⟩ ?_
        ·rintro d hd ρ m nx sk ⟨s,rfl⟩ h1 h2
         obtain⟨t,ht,rfl⟩:=List.mem_map.mp hd
         obtain⟨m1,m2,_⟩:=ok.tin t ht
         have l2:EH (.tup [.str t.a,.str t.b]):=EG (ps:=[t.a,t.b]) λp hp=>by
          simp only [List.mem_cons,List.not_mem_nil,or_false] at hp
          rcases hp with rfl | rfl
          ·exact ok.names _ m1
          ·exact ok.names _ m2
         have k1:=h1 [.sh (.str x),.sh (.str z),.sh (AW t)] ⟨_,rfl⟩
         have k2:=h2 [.sh (.str x),.sh (.str z),.sh (AW t)] ⟨_,rfl⟩
         have ej:Ea x z (AW t)=(!(x==z)&&((t.a==x||t.b==x)&&(t.a==z||t.b==z))):=rfl
         have a1:∀x:Str,([D.str t.a,D.str t.b].any λu=>Eg u (.str x))=(t.a==x||t.b==x):=λx=>by show (t.a==x||(t.b==x||false))=_; rw [Bool.or_false]
         rw [ej] at k1 k2
         show if (!(x==z))=true then _ else _
         cases e1:(x==z) with
         | true=>rw [e1] at k2; exact Bk (Bk (k2 rfl))
         | false =>
          refine B6 ⟨hlay x hx,l2,_,rfl,?_⟩
          show if ([D.str t.a,D.str t.b].any λu=>Eg u (.str x))=true then _ else _
          rw [a1]
          cases e2:(t.a==x||t.b==x) with
          | false=>rw [e1,e2] at k2; exact Bk (Bk (k2 rfl))
          | true =>
           refine B6 ⟨hlay z hz,l2,_,rfl,?_⟩
           show if ([D.str t.a,D.str t.b].any λu=>Eg u (.str z))=true then _ else _
           rw [a1]
           cases e3:(t.a==z||t.b==z) with
           | false=>rw [e1,e2,e3] at k2; exact Bk (k2 rfl)
           | true=>rw [e1,e2,e3] at k1; exact B6 ⟨_,AL (j:=2) rfl,k1 rfl⟩
        ·rw [List.nil_append]
         have hj:=JC (x:=x) (y:=z) hne
         have hfine:∀d∈((N.ts.map AW).filter (Ea x z)).map SM,FQ 1000000 d:=λd hd=>by
          obtain⟨e,he,rfl⟩:=List.mem_map.mp hd
          obtain⟨t,ht,rfl⟩:=List.mem_map.mp (List.mem_filter.mp he).1
          obtain⟨_,_,_,m3,m4⟩:=ok.tin t ht
          show t.len.natAbs<=1000000
          omega
         have hdp:∀d∈((N.ts.map AW).filter (Ea x z)).map SM,NP d<=0:=λd hd=>by
          obtain⟨e,he,rfl⟩:=List.mem_map.mp hd
          obtain⟨t,ht,rfl⟩:=List.mem_map.mp (List.mem_filter.mp he).1
          exact Nat.le_refl _
         generalize ((N.ts.map AW).filter (Ea x z)).map SM=L at hj hfine hdp
         have hd0:FS L<=0:=dps_le.mpr hdp
         refine⟨z0,C6 (B:=1000000) (by decide) (fines_iff.mpr hfine) (by show FS L+1<=100; omega),⟨rfl,rfl,by decide⟩,?_⟩
         unfold FP at hp
         cases L with
         | nil =>
          have hc:look N.ts x z=none:=by
           cases c:look N.ts x z with
           | none=>rfl
           | some l=>rw [c] at hj; cases hj
          rw [hc] at hp
          exact B6 hp
         | cons a L =>
          cases c:look N.ts x z with
          | none=>rw [c] at hj; cases hj
          | some l =>
           rw [c] at hj hp
           cases hj
           exact Bk ⟨_,AL (j:=0) rfl,hnx _ _ ⟨z,rest,s+l,_,_,_,_,hd2,rfl,hp,rfl⟩⟩
     ·rw [Bool.eq_false_iff.mpr (λh=>hin (eall.mp h))]
      have:(if y∈N.ps then QG (FP N.ts y r 0) else .non)=D.non:=by
       by_cases hy:y∈N.ps
       ·rw [if_pos hy,NB ok]
        ·rfl
        ·refine Classical.byContradiction λhc=>hin λz hz=>?_
         rcases List.mem_cons.mp hz with rfl | hz
         ·exact hy
         ·exact Classical.byContradiction λhn=>hc ⟨z,hz,hn⟩
       ·rw [if_neg hy]
      rw [this] at p2
      exact B6 p2
 | _=>exact p
end
def S0:W2:=λss n P=>∃(N:Net) (d:D),ss=[.sh (enc N),.sh d]/\N.Ok/\EH d/\P (.bl (IN N d)) n
def Fd:W2:=λss n P=>∃(N:Net) (d:D),ss=[.sh (enc N),.sh d]/\N.Ok/\N.ps.length<=24/\N.ts.length<=60/\FQ (10 ^ 41) d/\MP d<=200000/\NP d<=90/\P (.bl (thinB N d)) n
def Hf:W2:=λss n P=>∃(N:Net) (ts:List BC),ss=[.sh (enc N),.sh (enc ⟨N.ps,ts⟩)]/\N.Ok/\N.ts.length<64/\(∀t∈ts,t∈N.ts)/\∀ts':List BC,ts'.Perm (N.ts.filter λt=>decide (t∉ts))->E6 ts'->P (.lst (ts'.map AW)) n
def Hd:Al:=(As (Jp (AS (Dl false) (AA 1) (AS A5 (AA 0) (wC (D.int 1)))) (Aa Jk (AD (AK (AS A5 (AA 1) (wC (D.int 2)))) Ac))))
def Ks:Al:=(Ae (BD (CP (B8 (AO (Aa Ds (AD (AK (wC (D.int 2))) (AD (AK (AA 1)) Ac))))) (B8 (AO (Ej "tuple" (AS A5 (AA 1) (wC (D.int 1))))))) (As (wC (D.bl false))) Au)
 (As (Jp (AS Vl (AS A5 (AA 1) (wC (D.int 0))) (AS A5 (AA 0) (wC (D.int 0)))) (Jp (DQ NL (AF (BY [some 0,none] (BL (AS A5 (AA 1) (wC (D.int 1)))) (AX 1) CM (Aa S0 (AD (AK (AA 0)) (AD (AK (AA 1)) Ac)))) AZ)) (Aa Cs (AD (AK (AS A5 (AA 1) (wC (D.int 1)))) Ac))))))
def Jb:Al:=(As (Aa DM (AD (AK (BY [some 1,none] (BL (AS A5 (AA 0) (wC (D.int 1)))) (AX 1) (AO (AS (Dl true) (AA 1) (AS A5 (AA 0) (wC (D.int 1))))) (AA 1))) Ac)))
def Eb:Al:=(As (BY [none,none,none] (BL (DQ HC (AF (BY [none] (BL (AA 0)) (AX 0) CM (Bt (AF (AS A5 (AA 0) (wC (D.int 2))) (AF (AS A5 (AA 0) (wC (D.int 0))) (AF (AS A5 (AA 0) (wC (D.int 1))) AZ))))) AZ))) (D6 3 (Ao (AX 0) (Ao (AX 1) (Ao (AX 2) CS)))) CM (Bt (AF (AA 1) (AF (AA 2) (AF (AA 0) AZ))))))
theorem Ta{ts:List BC}(h:Gk C7 (ts.map AW)):Nb ts:=by
 unfold Gk at h
 rw [List.pairwise_map] at h
 exact h.imp λ{s t} z=>z _ _ rfl rfl
theorem Ex{N:Net}(ok:N.Ok){ts:List BC}(h:∀t∈ts,t∈N.ts):EH (.tup (ts.map AW))/\EH (.lst (ts.map AW)):=by
 have it:∀d∈ts.map AW,item d:=λd hd=>by
  obtain⟨t,ht,rfl⟩:=List.mem_map.mp hd
  exact JD ok _ (List.mem_map.mpr ⟨t,h t ht,rfl⟩)
 have d1:FS (ts.map AW)<=1:=dps_le.mpr λd hd=>(it d hd).2.2
 exact⟨C6 (B:=1000001) (by decide) (fines_iff.mpr λd hd=>(it d hd).1) (by show FS (ts.map AW)+1<=100; omega),Ka it⟩
theorem Lo{N:Net}(ok:N.Ok){t:BC}(h:t∈N.ts):EH (AW t):=by
 have it:=JD ok _ (List.mem_map.mpr ⟨t,h,rfl⟩)
 exact C6 (B:=1000001) (by decide) it.1 (by have:=it.2.2; omega)
theorem L_{ts:List BC}{t:BC}:((ts.map AW).any λy=>Eg y (AW t))=decide (t∈ts):=by
 rw [Bool.eq_iff_iff,List.any_eq_true,decide_eq_true_eq]
 constructor
 ·rintro ⟨d,hd,e⟩
  obtain⟨s,hs,rfl⟩:=List.mem_map.mp hd
  rw [← (Pe s t).mp e]
  exact hs
 ·intro h
  exact⟨AW t,List.mem_map.mpr ⟨t,h,rfl⟩,(Pe t t).mpr rfl⟩
theorem PL:∀xs:List D,xs.length<=Jo xs
 | []=>Nat.zero_le _
 | x::xs=>by
  have:=PL xs
  show xs.length+1<=MP x+1+Jo xs
  omega
theorem NA:∀ts:List BC,200*ts.length<=Jo (ts.map AW)
 | []=>Nat.zero_le _
 | t::ts=>by
  have:=NA ts
  show 200*(ts.length+1)<=t.a.length+1+(t.b.length+1+(200+1+0))+1+Jo (ts.map AW)
  omega
theorem HM{t:BC}(h1:D1 t.a)(h2:D1 t.b):∀c∈cs (BH (AW t)),c<1114112:=by
 rw [Oa h1 h2]
 intro c hc
 simp only [List.mem_cons,List.mem_append,List.not_mem_nil,or_false] at hc
 have a1:c∈cs t.a->c<1114112:=λh=>by have:=BV h1 c h; omega
 have a2:c∈cs t.b->c<1114112:=λh=>by have:=BV h2 c h; omega
 have a3:=Qs t.len c
 rcases hc with h | h | h | h | h | h | h | h | h | h | h | h | h
 all_goals first | exact a1 h | exact a2 h | exact a3 h | omega
section
variable {ss:List Slot}{n:Nat}{Pd:D->Nat->Prop}
theorem LP(h:S0 ss n Pd):Hd (EE Pd) n (ss++List.replicate 0 .no):=by
 obtain⟨N,d,rfl,ok,hl,p⟩:=h
 unfold Hd
 refine⟨_,AL (j:=1) rfl,hl,(Ex ok λ_ h=>h).1,_,rfl,?_⟩
 cases c:(N.ts.map AW).any λy=>Eg y d with
 | false =>
  have:IN N d=false:=by
   rw [Bool.eq_false_iff]
   intro z
   obtain⟨s,hs,rfl⟩:=tofB_iff.mp z
   rw [L_,decide_eq_true hs] at c
   cases c
  rw [this] at p
  exact p
 | true =>
  obtain⟨e,he,q⟩:=List.any_eq_true.mp c
  obtain⟨s,hs,rfl⟩:=List.mem_map.mp he
  obtain⟨z,rfl,hz⟩:=Qw q
  refine⟨_,AL (j:=2) rfl,[z],rfl,rfl,?_⟩
  have:IN N (.tup [.str s.a,.str s.b,z])=RD z:=by
   rw [Bool.eq_iff_iff,tofB_iff]
   constructor
   ·rintro ⟨t,_,e⟩
    have e:z=.int t.len:=by injection e with e; injection e with _ e; injection e with _ e; injection e
    rw [e]
    rfl
   ·intro hw
    cases z with
    | int i=>exact⟨s,hs,by rw [hz i rfl]; rfl⟩
    | _=>cases hw
  rw [this] at p
  exact p
theorem OD(h:Fd ss n Pd):Ks (EE Pd) n (ss++List.replicate 0 .no):=by
 obtain⟨N,d,rfl,ok,l1,l2,hf,hs,hd,p⟩:=h
 unfold Ks
 refine⟨2,d,rfl,?_⟩
 cases h2:tupleOfB 2 d with
 | false =>
  rw [ML (λp xs e=>by rw [e] at h2; cases h2)] at p
  exact B6 p
 | true =>
  obtain⟨x,y,rfl⟩:=Uu h2
  refine Bk ⟨_,AL (j:=1) rfl,?_⟩
  cases y with
  | tup xs =>
   rw [← P8 ok] at p
   have f1:FQ (10 ^ 41) x:=hf.1
   have f2:FY (10 ^ 41) xs:=hf.2.1
   have hd':max (NP x) (max (FS xs+1) 0)+1<=90:=hd
   have hs':MP x+1+(Jo xs+1+0)<=200000:=hs
   refine Bk ⟨_,AL (j:=0) rfl,_,AL (j:=0) rfl,C6 (B:=10 ^ 41) (by decide) f1 (by omega),EG ok.names,?_⟩
   refine Jf (b1:=Eg x (.tup (N.ps.map .str))) (b2:=xs.all (IN N)&&Jh xs) (P:=Pd) (n:=n) (k:=λP=>_) (λ_ hp=>?_) p
   refine⟨_,AL (j:=1) rfl,by show xs.length<=10000000; have:=PL xs; omega,?_⟩
   refine BB (λd=>.bl (IN N d)) (λρ=>∃s,ρ=[.sh (enc N),s]) _ _ _ _ ?_ ⟨_,rfl⟩ ?_
   ·rintro e he ρ m nx ⟨s,rfl⟩ hnx
    have dx:FS xs<=88:=by omega
    exact⟨N,e,rfl,ok,C6 (B:=10 ^ 41) (by decide) (fines_iff.mp f2 e he) (by have:=dps_le.mp dx e he; omega),hnx _ ⟨_,rfl⟩⟩
   rw [List.nil_append]
   refine⟨_,_,rfl,Gd (IN N) xs,?_⟩
   rw [Sx]
   refine Jf (b1:=xs.all (IN N)) (b2:=Jh xs) (P:=Pd) (n:=n) (k:=λP=>_) (λha hp=>?_) hp
   obtain⟨ts,rfl,hts⟩:=MM ha
   have:=NA ts
   refine⟨_,AL (j:=1) rfl,_,_,rfl,rfl,by rw [List.length_map]; omega,λa ha b hb=>?_,hp⟩
   obtain⟨s,_,rfl⟩:=List.mem_map.mp ha
   obtain⟨t,_,rfl⟩:=List.mem_map.mp hb
   exact⟨_,OR s t⟩
  | _ =>
   rw [ML (λp xs e=>by cases e)] at p
   exact B6 p
theorem MY(h:Hf ss n Pd):Jb (EF Pd) n (ss++List.replicate 0 .no):=by
 obtain⟨N,ts,rfl,ok,h64,hts,p⟩:=h
 unfold Jb
 refine⟨_,AL (j:=1) rfl,by show (N.ts.map AW).length<=10000000; rw [List.length_map]; omega,?_⟩
 refine Et (λd=>!((ts.map AW).any λy=>Eg y d)) id (λρ=>∃s,ρ=[.sh (enc ⟨N.ps,ts⟩),s]) _ _ _ _ ?_ ⟨_,rfl⟩ ?_
 ·rintro d hd ρ m nx sk ⟨s,rfl⟩ h1 h2
  obtain⟨t,ht,rfl⟩:=List.mem_map.mp hd
  refine⟨_,AL (j:=1) rfl,Lo ok ht,(Ex ok hts).1,_,rfl,?_⟩
  exact CW (λc=>h1 _ ⟨_,rfl⟩ c) λc=>h2 _ ⟨_,rfl⟩ (Bool.eq_false_iff.mpr c)
 ·rw [List.nil_append,List.map_id]
  have e:(N.ts.map AW).filter (λd=>!((ts.map AW).any λy=>Eg y d))=(N.ts.filter λt=>decide (t∉ts)).map AW:=by
   rw [List.filter_map]
   congr 1
   refine List.filter_congr λt _=>?_
   show (!((ts.map AW).any λy=>Eg y (AW t)))=decide (t∉ts)
   rw [L_,decide_not]
  rw [e]
  exact⟨_,_,rfl,rfl,Nat.lt_of_le_of_lt (List.length_filter_le _ _) h64,p⟩
theorem Hk(h:DM ss n Pd):Eb (EF Pd) n (ss++List.replicate 0 .no):=by
 obtain⟨d,ts,rfl,hd,h64,p⟩:=h
 have szl:=PySem.sizeLine_eq
 unfold Eb
 have go:(ts.map AW).length<=10000000/\CL (AX 0) CM (Bt (AF (AS A5 (AA 0) (wC (D.int 2))) (AF (AS A5 (AA 0) (wC (D.int 0))) (AF (AS A5 (AA 0) (wC (D.int 1))) AZ)))) (λacc n2=>HC [.lst acc] λz=>BL (wC z) n2 [] λds n1=>ds.length<=10000000/\CL (D6 3 (Ao (AX 0) (Ao (AX 1) (Ao (AX 2) CS)))) CM (Bt (AF (AA 1) (AF (AA 2) (AF (AA 0) AZ)))) (λacc n2=>Pd (.lst acc) n2) ds [] n1 [.no,.no,.no]) (ts.map AW) [] n [.no]:=by
  refine⟨by rw [List.length_map]; omega,?_⟩
  refine BB Mc (λρ=>∃s,ρ=[s]) _ _ _ _ ?_ ⟨_,rfl⟩ ?_
  ·rintro d hd ρ m nx ⟨s,rfl⟩ hnx
   obtain⟨t,ht,rfl⟩:=List.mem_map.mp hd
   exact⟨_,AL (j:=2) rfl,_,AL (j:=0) rfl,_,AL (j:=1) rfl,z3,hnx _ ⟨_,rfl⟩⟩
  rw [List.nil_append,List.map_map]
  refine⟨_,_,rfl,rfl,by rw [List.length_map]; exact h64,⟨λx hx=>?_,λx hx y hy ka kb ea eb=>?_⟩,λxs' hp ho=>?_⟩
  ·obtain⟨t,_,rfl⟩:=List.mem_map.mp hx
   exact⟨Ig t,rfl,List.cons_ne_nil _ _⟩
  ·obtain⟨t,_,rfl⟩:=List.mem_map.mp hx
   obtain⟨u,_,rfl⟩:=List.mem_map.mp hy
   cases (show some (Ig t)=some ka from ea)
   cases (show some (Ig u)=some kb from eb)
   rfl
  ·obtain⟨ts',h1,rfl⟩:=RK (f:=Mc∘AW) (g:=λd=>match d with | .tup [.int l,.str a,.str b]=>⟨a,b,l⟩ | _=>⟨"","",0⟩) (λ_=>rfl) hp
   have ho:E6 ts':=by
    unfold Gk at ho
    rw [List.pairwise_map] at ho
    exact ho.imp λ{s t} z=>z _ _ rfl rfl
   refine⟨by show (ts'.map (Mc∘AW)).length<=10000000; rw [List.length_map,h1.length_eq]; omega,?_⟩
   refine BB (λd=>match d with | .tup [l,a,b]=>.tup [a,b,l] | d=>d) (λρ=>∃a b c,ρ=[a,b,c]) _ _ _ _ ?_ ⟨_,_,_,rfl⟩ ?_
   ·rintro d hd ρ m nx ⟨a,b,c,rfl⟩ hnx
    obtain⟨t,ht,rfl⟩:=List.mem_map.mp hd
    exact⟨rfl,rfl,z3,hnx _ ⟨_,_,_,rfl⟩⟩
   ·rw [List.nil_append,List.map_map]
    exact p ts' h1 ho
 cases d with
 | lst ys=>cases hd; exact go
 | tup ys=>cases hd; exact go
 | _=>cases hd
end
section
variable {ss:List Slot}{n:Nat}{Pd:D->Nat->Prop}
end
theorem RM{s t:BC}(h:Ec s=Ec t):s=t:=by
 obtain⟨a,b,l⟩:=s
 obtain⟨a',b',l'⟩:=t
 unfold Ec at h
 simp only [List.cons.injEq,Sum.inl.injEq,Sum.inr.injEq,and_true] at h
 obtain⟨rfl,rfl,rfl⟩:=h
 rfl
theorem N2{l1 l2:List BC}(p:l1.Perm l2)(h1:Nb l1)(h2:Nb l2):l1=l2:=LV (λa b x y=>RM (Dg _ _ y x)) p h1 h2
theorem Oc{ts:List BC}(h:ts.Pairwise Bv):Nb ts:=h.imp λ{s t} z=>by
 cases e:Bh (Ec t) (Ec s) with
 | false=>rfl
 | true =>
  have:=C5 _ _ _ (Ou z) e
  rw [DF] at this
  cases this
def HH:W2:=λss n P=>ss=[.fd]/\3<=n/\∀(t b:Int) (n':Nat),1<=b->b<=t->t<=1000000->n - 3<=n'->P (.tup [.int t,.int b]) n'
def EV:W2:=λss n P=>∃l t b x:Int,ss=[.sh (.int l),.sh (.tup [.int t,.int b]),.sh (.int x)]/\1<=b/\b<=1000000/\1<=t/\t<=1000000/\P (.bl (decide (l*b<=x*t))) n
def Hc:Al:=(As (AS Qv (AS Ci (AA 0) (AS A5 (AA 1) (wC (D.int 1)))) (AS Ci (AA 2) (AS A5 (AA 1) (wC (D.int 0))))))
def Gb:Al:=(Ae (A0 1 (Ff (AF (Bt (AF (wC (D.int 2)) (AF (wC (D.int 1)) AZ))) (AF (Bt (AF (wC (D.int 3)) (AF (wC (D.int 2)) AZ))) (AF (Bt (AF (wC (D.int 1)) (AF (wC (D.int 1)) AZ))) (AF (Bt (AF (wC (D.int 3)) (AF (wC (D.int 1)) AZ))) (AF (Bt (AF (wC (D.int 5)) (AF (wC (D.int 2)) AZ))) (AF (Bt (AF (wC (D.int 1000)) (AF (wC (D.int 999)) AZ))) (AF (Bt (AF (AS (Pc KI λi j=>D.int (i ^ j.toNat)) (wC (D.int 10)) (wC (D.int 6))) (AF (wC (D.int 1)) AZ))) (AF (Bt (AF (AS (Pc KI λi j=>D.int (i ^ j.toNat)) (wC (D.int 10)) (wC (D.int 6))) (AF (AS (Pc KI λi j=>D.int (i ^ j.toNat)) (wC (D.int 10)) (wC (D.int 6))) AZ))) AZ))))))))))
 (Ae (A0 2 (Aa BF (AD (BE 0) (AD (AK (wC (D.int 12))) Ac))))
 (Ae (BD (AO (AS Du (AA 2) (wC (D.int 8)))) (As (AS A5 (AA 1) (AA 2))) Au)
 (Ae (A0 3 (AS A8 (wC (D.int 1)) (Aa BF (AD (BE 0) (AD (AK (wC (D.int 20))) Ac)))))
 (As (Bt (AF (AS A8 (AA 3) (Aa BF (AD (BE 0) (AD (AK (AS Ci (wC (D.int 3)) (AA 3))) Ac)))) (AF (AA 3) AZ))))))))
section
variable {ss:List Slot}{n:Nat}{Pd:D->Nat->Prop}
theorem YQ{i j:Int}(h0:0<=j)(h1:j<=1000000):CMul i j:=.inr ⟨by omega,by omega⟩
theorem Ye{i j:Int}(h0:0<=i)(h1:i<=1000000):CMul i j:=.inl ⟨by omega,by omega⟩
theorem LO(h:EV ss n Pd):Hc (EE Pd) n (ss++List.replicate 0 .no):=by
 obtain⟨l,t,b,x,rfl,b0,b1,t0,t1,p⟩:=h
 unfold Hc
 exact⟨_,AL (j:=1) rfl,YQ (by omega) b1,_,AL (j:=0) rfl,YQ (by omega) t1,p⟩
theorem LN(h:HH ss n Pd):Gb (EE Pd) n (ss++List.replicate 3 .no):=by
 obtain⟨rfl,hn,p⟩:=h
 unfold Gb
 refine⟨z2,z2,z2,z2,z2,z2,YC,z2,YC,YC,z2,(by decide:8<=sizeLine),?_⟩
 refine⟨12,rfl,by decide,by decide,by omega,λr r0 r1=>?_⟩
 refine CW (λc=>?_) λc=>?_
 ·have c:r<8:=of_decide_eq_true c
  obtain⟨z,hz,t,b,rfl,b0,bt,t1⟩:=Ni (p:=λd=>∃t b:Int,d=.tup [.int t,.int b]/\1<=b/\b<=t/\t<=1000000) (xs:=[.tup [.int 2,.int 1],.tup [.int 3,.int 2],.tup [.int 1,.int 1],.tup [.int 3,.int 1],.tup [.int 5,.int 2],.tup [.int 1000,.int 999],.tup [.int ((10:Int) ^ (6:Int).toNat),.int 1],.tup [.int ((10:Int) ^ (6:Int).toNat),.int ((10:Int) ^ (6:Int).toNat)]]) (λd hd=>by
   simp only [List.mem_cons,List.not_mem_nil,or_false] at hd
   rcases hd with rfl | rfl | rfl | rfl | rfl | rfl | rfl | rfl <;> exact⟨_,_,rfl,by decide,by decide,by decide⟩) r0 (by show r<8; exact c)
  exact⟨_,hz,p t b _ b0 bt t1 (by omega)⟩
 ·refine⟨20,rfl,by decide,by decide,by omega,λs s0 s1=>?_⟩
  refine⟨Ye (by decide) (by decide),_,rfl,by omega,by omega,by omega,λu u0 u1=>⟨z2,p _ _ _ (by omega) (by omega) (by omega) (by omega)⟩⟩
end
end Nt
namespace L2
open PySem PySem.Spec PyProof.Rows PySem.W
section
variable {prog:Program}{w:World}{A:Around}{E:Value->Shared->Prop}{R:Result->Shared->Prop}{I:Addr}{fp wr:List Addr}{n:Nat}{P:Nat->Value->Prop}{St:Nat->Heap->Prop}
def Ui(prog:Program)(w:World)(A:Around)(op:CmpOp)(P:Nat->Value->Prop)(Cm:Heap->Prop)(bt:Nat->Nat->Bool):Prop :=
 ∀i j vi vj (s:Shared) (Q:Value->Shared->Prop) (E:Value->Shared->Prop),Cm s.heap->P i vi->P j vj->Q (.bool (bt i j)) s->wpAny (model prog w) A (richCompare op vi vj) Q E s
theorem Qe(W:Walks prog w A.in1 I fp wr n P St)(bt:Nat->Nat->Bool)(Cm:Heap->Prop)(hcmp:Ui prog w A.in1 .Lt P Cm bt)(S:Addr)(hSf:S∉fp)(hmono:∀h h':Heap,Cm h->(∀b o,b∉wr->b≠S->h.get? b=some o->h'.get? b=some o)->Cm h') :
  ∀(k j:Nat) (s:Shared) (vb:Value) (c:Nat),n - (j+1)=k->j+1<=n->St (j+1) s.heap->Cm s.heap->P (argBest bt j) vb ->
  s.heap.get? S=some { cls:=.type "list",dict:=none,data:=.seq #[vb,vb] c,slots:=#[] } ->
  (∀v h' tk,P (argBest bt (n - 1)) v->(∀b o,b∉wr->b≠S->s.heap.get? b=some o->h'.get? b=some o)->R (.ok (.ret v)) { s with heap:=h',toks:=tk }) ->
  codeAny (model prog w) A (.builtin "min.loop" ⟨[.ref I,.none,.ref S],[]⟩) R s:=by
 have hSw:S∉wr:=λh=>hSf (W.sub _ h)
 have hname:(toString "min"++toString ".loop" : String) = "min.loop":=by decide
 intro k
 induction k with
 | zero =>
  intro j s vb c hk hj hst hcm hPb hS hR
  have hin:j+1=n:=by omega
  refine codeAny_builtin PySem.F.entry_min_loop ?_
  rw [Around.under_plainId PySem.F.plain_min_loop _]
  show wpAny _ A.in1 (seqItems? (.ref S) >>= _) _ _ s
  refine wpAny_bind (wpAny_seqItems hS rfl ?_)
  show wpAny _ A.in1 (tryCatch (pyNext (.ref I)) _ >>= _) _ _ s
  refine wpAny_bind (wpAny_tryCatch (W.done s _ _ (hin▸hst) λh' tk hk'=>?_))
  have hS':=hk' S _ hSw hS
  show wpAny _ A.in1 (updateSeq S (λ_=>#[]) >>= _) _ _ _
  refine wpAny_bind ?_
  refine wpAny_updateSeq hS' rfl (wpAny_bind (wpAny_letGo (wpAny_pure ?_)))
  refine hR vb _ tk (by rw [← hin]; exact hPb) λb o hbw hbS e=>(Heap.get?_update_other _ _ (Ne.symm hbS)).trans (hk' b o hbw e)
 | succ k ih =>
  intro j s vb c hk hj hst hcm hPb hS hR
  have hlt:j+1<n:=by omega
  refine codeAny_builtin PySem.F.entry_min_loop ?_
  rw [Around.under_plainId PySem.F.plain_min_loop _]
  show wpAny _ A.in1 (seqItems? (.ref S) >>= _) _ _ s
  refine wpAny_bind (wpAny_seqItems hS rfl ?_)
  show wpAny _ A.in1 (tryCatch (pyNext (.ref I)) _ >>= _) _ _ s
  refine wpAny_bind (wpAny_tryCatch (W.item (j+1) s _ _ hlt hst λv h' tk hP hst' hk'=>?_))
  have hS':=hk' S _ hSw hS
  have hcm':Cm h':=hmono _ _ hcm λb o h1 _ e=>hk' b o h1 e
  show wpAny _ A.in1 (tryCatch (holding [v,v] (richCompare .Lt v vb >>= _)) _ >>= _) _ _ _
  refine wpAny_bind (wpAny_tryCatch (wpAny_holding (wpAny_bind (hcmp (j+1) (argBest bt j) v vb _ _ _ hcm' hP hPb ?_))))
  refine wpAny_bind (wpAny_holding (wpAny_truthy_bool ?_))
  refine wpAny_bind (wpAny_letGo (wpAny_pure ?_))
  cases hb:bt (j+1) (argBest bt j) with
  | true =>
   simp only [if_true]
   refine wpAny_bind ?_
   refine wpAny_updateSeq hS' rfl (wpAny_bind (wpAny_letGo ?_))
   rw [hname]
   refine wpAny_pure ⟨plainId_quiet PySem.F.plain_min_loop _,ih (j+1) _ v _ (by omega) hlt (W.frame _ _ _ hst' λb hbf o e=>?_) (hmono _ _ hcm' λb o _ h2 e=>(Heap.get?_update_other _ _ (Ne.symm h2)).trans e) (by simp only [argBest,hb,if_true]; exact hP) (Heap.get?_update_self _ hS' rfl)
    λv' h'' tk'' hP' hk''=>?_⟩
   ·exact(Heap.get?_update_other _ _ (λh:S=b=>hSf (by rw [h]; exact hbf))).trans e
   ·exact hR v' h'' tk'' hP' λb o hbw hbS e=>hk'' b o hbw hbS ((Heap.get?_update_other _ _ (Ne.symm hbS)).trans (hk' b o hbw e))
  | false =>
   simp only [Bool.false_eq_true,if_false]
   refine wpAny_bind (wpAny_letGo ?_)
   rw [hname]
   refine wpAny_pure ⟨plainId_quiet PySem.F.plain_min_loop _,ih (j+1) _ vb c (by omega) hlt hst' hcm' (by simp only [argBest,hb,Bool.false_eq_true,if_false]; exact hPb) hS' λv' h'' tk'' hP' hk''=>?_⟩
   exact hR v' h'' tk'' hP' λb o hbw hbS e=>hk'' b o hbw hbS (hk' b o hbw e)
theorem OP(W:Walks prog w A.in1 I fp wr n P St)(bt:Nat->Nat->Bool)(Cm:Heap->Prop)(hcmp:Ui prog w A.in1 .Lt P Cm bt)(S:Addr)(hSf:S∉fp)(hmono:∀h h':Heap,Cm h->(∀b o,b∉wr->b≠S->h.get? b=some o->h'.get? b=some o)->Cm h')(hn:0<n){s:Shared}{c:Nat}(hst:St 0 s.heap)(hcm:Cm s.heap)
  (hS:s.heap.get? S=some { cls:=.type "list",dict:=none,data:=.seq #[] c,slots:=#[] })
  (hR:∀v h' tk,P (argBest bt (n - 1)) v->(∀b o,b∉wr->b≠S->s.heap.get? b=some o->h'.get? b=some o)->R (.ok (.ret v)) { s with heap:=h',toks:=tk }) :
  codeAny (model prog w) A (.builtin "min.loop" ⟨[.ref I,.none,.ref S],[]⟩) R s:=by
 have hSw:S∉wr:=λh=>hSf (W.sub _ h)
 have hname:(toString "min"++toString ".loop" : String) = "min.loop":=by decide
 refine codeAny_builtin PySem.F.entry_min_loop ?_
 rw [Around.under_plainId PySem.F.plain_min_loop _]
 show wpAny _ A.in1 (seqItems? (.ref S) >>= _) _ _ s
 refine wpAny_bind (wpAny_seqItems hS rfl ?_)
 show wpAny _ A.in1 (tryCatch (pyNext (.ref I)) _ >>= _) _ _ s
 refine wpAny_bind (wpAny_tryCatch (W.item 0 s _ _ hn hst λv h' tk hP hst' hk'=>?_))
 have hS':=hk' S _ hSw hS
 have hcm':Cm h':=hmono _ _ hcm λb o h1 _ e=>hk' b o h1 e
 show wpAny _ A.in1 (updateSeq S (λ_=>#[v,v]) >>= _) _ _ _
 refine wpAny_bind ?_
 refine wpAny_updateSeq hS' rfl ?_
 rw [hname]
 refine wpAny_pure ⟨plainId_quiet PySem.F.plain_min_loop _,Qe W bt Cm hcmp S hSf hmono _ 0 _ v _ rfl hn (W.frame _ _ _ hst' λb hbf o e=>?_) (hmono _ _ hcm' λb o _ h2 e=>(Heap.get?_update_other _ _ (Ne.symm h2)).trans e) hP (Heap.get?_update_self _ hS' rfl) λv' h'' tk'' hP' hk''=>?_⟩
 ·exact(Heap.get?_update_other _ _ (λh:S=b=>hSf (by rw [h]; exact hbf))).trans e
 ·exact hR v' h'' tk'' hP' λb o hbw hbS e=>hk'' b o hbw hbS ((Heap.get?_update_other _ _ (Ne.symm hbS)).trans (hk' b o hbw e))
theorem min_list{s:Shared}{l:Addr}{items:Array Value}{Q:Value->Shared->Prop}(bt:Nat->Nat->Bool)(hh:A.handled=none)(hl:s.heap.IsList l items)(hn:0<items.size)
  (hcmp:∀i j vi vj (s':Shared) (Q:Value->Shared->Prop) (E:Value->Shared->Prop),(∀b o,s.heap.get? b=some o->s'.heap.get? b=some o)->items[i]?=some vi->items[j]?=some vj->Q (.bool (bt i j)) s'->wpAny (model prog w) A.in1 (richCompare .Lt vi vj) Q E s')
  (h:∀v h' tk,items[argBest bt (items.size - 1)]?=some v->(∀b o,s.heap.get? b=some o->h'.get? b=some o)->Q v { s with heap:=h',toks:=tk }):wpAny (model prog w) A (call (.builtin "min") [.ref l]) Q E s:=by
 have hname:(toString "min"++toString ".loop" : String) = "min.loop":=by decide
 have hlt:l<s.heap.objs.size:=by obtain⟨_,e,_⟩:=hl; exact Heap.lt_size e
 refine call_function_tree PySem.F.kind_min PySem.F.plain_min PySem.F.entry_min (PySem.F.args_min1 _) ?_
 show wpAny _ A.in1 (Builtin.Builtins.bindParams "min" ["key","default"] 0 ⟨[],[]⟩ >>= _) _ _ s
 refine wpAny_bind (wpAny_of_eq (show Builtin.Builtins.bindParams "min" ["key","default"] 0 ⟨[],[]⟩=pure [none,none] from rfl) ?_)
 refine wpAny_bind (wpAny_pure ?_)
 refine wpAny_bind (wpAny_pyIter_list hl ?_)
 refine wpAny_bind (wpAny_newObj_type ?_)
 rw [hname]
 have W:=Walks.list (prog:=prog) (w:=w) (A:=A.in1) hh s.heap.objs.size l (Nat.ne_of_lt hlt) items
 have hs1:(s.heap.push { cls:=.type "list_iterator",data:=.fields #[.ref l,.int 0 0] }).objs.size=s.heap.objs.size+1:=Heap.size_push _ _
 refine wpAny_pure ⟨plainId_quiet PySem.F.plain_min_loop _,OP W bt (λh'=>∀b o,s.heap.get? b=some o->h'.get? b=some o) (λi j vi vj s' Q E hc h1 h2 q=>hcmp i j vi vj s' Q E hc h1 h2 q) (s.heap.push { cls:=.type "list_iterator",data:=.fields #[.ref l,.int 0 0] }).objs.size (λhm=>?_) (λh1 h2 hc hk b o e=>hk b o (λhm=>?_) ?_ (hc b o e)) hn ⟨⟨_,Heap.get?_push_of_some _ (Heap.get?_push_size _ rfl),rfl,rfl⟩,(hl.push _).push _⟩ (λb o e=>Heap.get?_push_of_some _ (Heap.get?_push_of_some _ e)) (Heap.get?_push_size _ rfl) λv h' tk hP hk=>?_⟩
 ·rw [hs1] at hm
  rcases List.mem_cons.mp hm with e | hm
  ·exact absurd e (Nat.succ_ne_self _)
  ·rw [← List.mem_singleton.mp hm] at hlt
   exact absurd hlt (Nat.not_lt.mpr (Nat.le_succ _))
 ·rw [List.mem_singleton.mp hm] at e
  exact absurd (Heap.lt_size e) (Nat.lt_irrefl _)
 ·rw [hs1]
  exact Nat.ne_of_lt (Nat.lt_succ_of_lt (Heap.lt_size e))
 ·refine h v h' tk hP λb o e=>hk b o (λhm=>?_) ?_ (Heap.get?_push_of_some _ (Heap.get?_push_of_some _ e))
  ·rw [List.mem_singleton.mp hm] at e
   exact absurd (Heap.lt_size e) (Nat.lt_irrefl _)
  ·rw [hs1]
   exact Nat.ne_of_lt (Nat.lt_succ_of_lt (Heap.lt_size e))
end
theorem Je(keys:List (List Key)):∀m:Nat,argBest (λi j=>Bh (keys.getD i []) (keys.getD j [])) m<=m/\∀i,i<=m->Bh (keys.getD i []) (keys.getD (argBest (λi j=>Bh (keys.getD i []) (keys.getD j [])) m) [])=false
 | 0=>⟨Nat.le_refl _,λi hi=>by
  have:i=0:=by omega
  subst this
  exact DF _⟩
 | m+1=>by
  obtain⟨h1,h2⟩:=Je keys m
  unfold argBest
  by_cases c:Bh (keys.getD (m+1) []) (keys.getD (argBest (λi j=>Bh (keys.getD i []) (keys.getD j [])) m) [])=true
  ·rw [if_pos c]
   refine⟨Nat.le_refl _,λi hi=>?_⟩
   by_cases e:i=m+1
   ·subst e; exact DF _
   ·cases z:Bh (keys.getD i []) (keys.getD (m+1) []) with
    | false=>rfl
    | true =>
     have:=C5 _ _ _ z c
     rw [h2 i (by omega)] at this
     cases this
  ·rw [if_neg c]
   refine⟨by omega,λi hi=>?_⟩
   by_cases e:i=m+1
   ·subst e
    cases z:Bh (keys.getD (m+1) []) (keys.getD (argBest (λi j=>Bh (keys.getD i []) (keys.getD j [])) m) []) with
    | false=>rfl
    | true=>exact absurd z c
   ·exact h2 i (by omega)
section
variable {X:Cx}
def UO(K:Frag):List V->Hp->VK->Prop:=λxs H Q=>∃(p:Addr) (vs:List V) (keys:List (List Key)),xs=[.ref p]/\SqL K H p vs/\0<vs.length/\KeysAt K H vs keys /\
 ∀j v,vs[j]?=some v->(∀i,i<vs.length->Bh (keys.getD i []) (keys.getD j [])=false)->Q v H
theorem Q2{k:Nat}(hr:Room k X.A):EM X (.builtin "min") (UO X.K):=by
 intro pins s σ H xs us Q I r h
 obtain⟨p,vs,keys,rfl,hq,hn,hk,q⟩:=h
 obtain⟨u,rfl,rx⟩:=vals1 r
 cases rx
 obtain⟨its,r',pl,hz⟩:=I.list hq
 have hl:=r'.length
 have tk:=hk.tups I r' λb o e=>e
 have hu:=hr.un
 refine min_list (λi j=>Bh (keys.getD i []) (keys.getD j [])) hr.hd pl.isList (by rw [List.size_toArray]; omega) (λi j vi vj s' Q' E' hold h1 h2 q'=>?_) λv h' tk' hv hold=>?_
 ·have hi:i<keys.length:=by rw [← hk.len,hl]; have:=(Array.getElem?_eq_some_iff.mp h1).1; simpa using this
  have hj:j<keys.length:=by rw [← hk.len,hl]; have:=(Array.getElem?_eq_some_iff.mp h2).1; simpa using this
  obtain⟨a,⟨cls,dd,data,sl⟩,xs,n,e1,e2,e3,e4,e5⟩:=tk.at_ i keys[i] (List.getElem?_eq_getElem hi)
  obtain⟨a',⟨cls',dd',data',sl'⟩,xs',n',e1',e2',e3',e4',e5'⟩:=tk.at_ j keys[j] (List.getElem?_eq_getElem hj)
  simp only at e3 e4 e3' e4'
  subst e3 e4 e3' e4'
  have e1:its.toArray[i]?=some (.ref a):=by rw [← e1]; simp
  have e1':its.toArray[j]?=some (.ref a'):=by rw [← e1']; simp
  rw [e1] at h1
  rw [e1'] at h2
  cases h1
  cases h2
  have hsm:=hk.same _ (List.getElem_mem hi) _ (List.getElem_mem hj)
  have g1:keys.getD i []=keys[i]:=by rw [List.getD_eq_getElem?_getD,List.getElem?_eq_getElem hi]; rfl
  have g2:keys.getD j []=keys[j]:=by rw [List.getD_eq_getElem?_getD,List.getElem?_eq_getElem hj]; rfl
  simp only [g1,g2] at q'
  rw [← GH _ _ hsm] at q'
  exact richCompare_meets_room (op:=.Lt) ⟨_,hold _ _ e2,rfl⟩ ⟨_,hold _ _ e2',rfl⟩ PySem.F.slot_tuple_lt PySem.F.entry_tuple_lt (PySem.F.args_tuple_lt_2 _ _) (FU a a' xs xs' n n' dd dd' sl sl' keys[i] keys[j] e5 e5' hsm)
   ⟨hold _ _ e2,hold _ _ e2',show Value.bool (ER keys[i] keys[j])≠Value.notImplemented/\Q' (.bool (ER keys[i] keys[j])) s' from⟨(λx=>nomatch x),q'⟩⟩ (by show X.A.units+1<cLine; omega)
 ·obtain⟨b1,b2⟩:=Je keys (its.toArray.size - 1)
  rw [List.size_toArray] at hv b1 b2
  have hj:argBest (λi j=>Bh (keys.getD i []) (keys.getD j [])) (its.length - 1)<vs.length:=by omega
  obtain⟨u,e1,ru⟩:=r'.get (List.getElem?_eq_getElem hj)
  have e2:its.toArray[argBest (λi j=>Bh (keys.getD i []) (keys.getD j [])) (its.length - 1)]?=some u:=by rw [← e1]; simp
  rw [e2] at hv
  cases hv
  exact⟨_,H,I.kept (t':=tk') hold,ru,q _ _ (List.getElem?_eq_getElem hj) λi hi=>b2 i (by omega)⟩
end
end L2
namespace Dp
open PySem PySem.Spec PyProof.Rows L2
def UY(ds:List D)(P:D->Prop):Prop:=∃xs,ds=[.lst xs]/\0<xs.length/\Keyed C7 xs/\∀x∈xs,(∀y∈xs,∀kx ky,C7 x=some kx->C7 y=some ky->Bh ky kx=false)->P x
theorem Vz{K:Frag}:Fe K .sh (UO K) UY:=by
 intro U M H ds vs P Q dom vM hp w q
 obtain⟨xs,rfl,hn,hK,w⟩:=w
 obtain⟨v,rfl,hx⟩:=GB hp
 obtain⟨a,us,rfl,_,hq,hs⟩:=hx
 obtain⟨keys,hl,hk⟩:=FI hK.1
 have hlen:=hs.length
 refine⟨a,us,keys,rfl,.inl hq,by omega,G_ (λd k v _=>HA) hs hK hl hk,λj v hv hle=>?_⟩
 have hj:j<xs.length:=by rw [← hlen]; exact(List.getElem?_eq_some_iff.mp hv).1
 obtain⟨v',e1,h1⟩:=hs.get (List.getElem?_eq_getElem hj)
 rw [hv] at e1
 cases e1
 refine q v H xs[j] .refl h1 (w _ (List.getElem_mem hj) λy hy kx ky ex ey=>?_)
 obtain⟨i,hi⟩:=List.mem_iff_getElem?.mp hy
 have hil:i<xs.length:=(List.getElem?_eq_some_iff.mp hi).1
 obtain⟨k1,a1,b1,_⟩:=hk i y hi
 obtain⟨k2,a2,b2,_⟩:=hk j xs[j] (List.getElem?_eq_getElem hj)
 have:=hle i (by omega)
 rw [List.getD_eq_getElem?_getD,List.getD_eq_getElem?_getD,a1,a2] at this
 rw [ey] at b1
 rw [ex] at b2
 cases b1
 cases b2
 exact this
end Dp
namespace L2
open PySem PySem.Spec PyProof.Rows
def YK(d:Addr)(o:Obj)(kvs:List (Key×V)):It :=
 ⟨λi H=>H d=some (.frz o (.dK kvs))/\i<kvs.length,λi H x H'=>∃T p,x=.ref T/\H T=none/\kvs[i]?=some p/\H'=BG H T (.tup [kV p.1,p.2]),λi H=>H d=some (.frz o (.dK kvs))/\kvs.length<=i⟩
theorem Va{P:Program}{w:World}{k:Key}{u:Value}(h:(A_ P w).is k u=true):RelV (kV k) u:=by
 rcases BQ h with ⟨i,t,rfl,rfl⟩ | ⟨x,t,rfl,rfl⟩
 ·exact⟨t,rfl⟩
 ·exact⟨t,rfl⟩
theorem Lz{X:Cx}{pins:List (Addr×Obj)}{σ:L2.St}{H:Hp}{s:Shared}{d:Addr}{o:Obj}{kvs:List (Key×V)}{es:Array DictEntry}{ep:Nat}(I:Inv X pins σ H s)(h:H d=some (.frz o (.dK kvs)))(hd:o.data=.dict es ep) :
  ∃ws,KV kvs ws/\s.heap.DictAt (A_ X.prog X.w) d ws ep:=by
 obtain⟨e0,_,_,ws,kv,o',es',ep',e1,e2,e3,e4⟩:=(show ObjOk X.prog X.w H s.heap d (.frz o (.dK kvs)) from I.hok d _ h)
 rw [e0] at e1
 cases e1
 rw [hd] at e3
 cases e3
 exact⟨ws,kv,o,es,e0,e2,hd,e4⟩
theorem N0{P:Program}{w:World}{K:Frag}{els:List Expr}{j:Nat}{pos:Pos}(d it:Addr)(o:Obj)(kvs:List (Key×V))(es:Array DictEntry)(ep:Nat)(hdat:o.data=.dict es ep) :
  Turn P w K (.Tuple els j pos) (YK d o kvs) [it] it (λi h=>∃ok ov,IsItemIter h it d i kvs.length ep ok ov) where
 mem:=by simp
 obj:=λi h ⟨ok,ov,st⟩ c hc=>by
  rw [List.mem_singleton.mp hc]
  exact⟨_,st,λv q=>by cases q⟩
 keep:=λi h h' ⟨ok,ov,st⟩ k=>⟨ok,ov,k it (by simp) _ st⟩
 item:=by
  intro X hP hw hK hc i pins s σ H E I hf st hg
  subst hP hw hK
  obtain⟨hH,hi⟩:=hg
  obtain⟨ok,ov,st⟩:=st
  obtain⟨ws,kv,D⟩:=Lz I hH hdat
  have hl:=kv.length
  have hiw:i<ws.length:=by omega
  rw [hl] at st
  obtain⟨k,v,hkv⟩:∃k v,ws[i]=(k,v):=⟨_,_,rfl⟩
  have hx:ws[i]?=some (k,v):=by rw [List.getElem?_eq_getElem hiw,hkv]
  have hp:kvs[i]?=some kvs[i]:=List.getElem?_eq_getElem hi
  obtain⟨ek,rv⟩:=Mh kv hp hx
  have ek:kvs[i].1=k:=ek
  refine wpAny_pyNext_items_item st D hx λkey h' hkey hout htup hsz hold=>⟨_,rfl,?_⟩
  refine wpAny_letOwnedTupleGo_items hout λh2 hit2 hsame=>?_
  have hT:H s.heap.objs.size=none:=I.hok.fresh (Nat.le_refl _)
  have nit:s.heap.objs.size≠it:=Nat.ne_of_gt (Heap.lt_size st)
  have kk:∀c o,c∉[it]->s.heap.get? c=some o->h2.get? c=some o:=λc o hc e=>by
   have hc:c≠it:=λz=>hc (by rw [z]; exact List.mem_singleton.mpr rfl)
   exact(hsame.2 c hc).trans (hold c o hc e)
  have I2:Inv X pins σ (BG H s.heap.objs.size (.tup [kV kvs[i].1,kvs[i].2])) { s with heap:=h2 }:=by
   refine I.turnLaid (t':=s.toks) (ch:=[it]) (λc hc=>hf c hc) kk (Nat.le_refl _) ?_
   exact⟨by show 2<=sizeLine; decide,[key,v],.cons (Va (by rw [ek]; exact hkey)) (.cons rv .nil),⟨_,(hsame.2 _ nit).trans htup,rfl,_,rfl,rfl,rfl⟩⟩
  refine⟨.ref s.heap.objs.size,_,I2,rfl,⟨_,_,rfl,hT,hp,rfl⟩,⟨key,v,by rw [hl]; exact hit2⟩,λc hc=>?_⟩
  rw [List.mem_singleton.mp hc,AT (Ne.symm nit)]
  exact(hf it (by simp)).1
 done:=by
  intro X hP hw hK hc i pins s σ H E I hf st hg
  subst hP hw hK
  obtain⟨hH,hi⟩:=hg
  obtain⟨ok,ov,st⟩:=st
  obtain⟨ws,kv,D⟩:=Lz I hH hdat
  have hl:=kv.length
  rw [hl] at st
  refine wpAny_pyNext_items_end (I.ok.hd hc) st D (List.getElem?_eq_none (by omega)) λh' ext=>⟨rfl,?_⟩
  exact I.turnedL (t':=s.toks) (ch:=[it]) (λc hc=>hf c hc) λc o hc e=>ext c o (λz=>hc (by rw [z]; exact List.mem_singleton.mpr rfl)) e
 self:=λA i s Q E ⟨ok,ov,st⟩ h=>PySem.W.kcp_self st h
def Vh(to:TE):TI:=λσ H R=>to σ H λx H1=>∃d o kvs,x=.ref d/\H1 d=some (.frz o (.dK kvs))/\∀r,H1 r=none->R (YK d o kvs) (BG H1 r (.ext λh=>h.IsItemsView r d))
theorem Rt{X:Cx}{e:Expr}{els:List Expr}{j:Nat}{tpos apos cpos:Pos}{to:TE}(ho:PE X e to)(hbase:attributeBase e "items" X.env (eval e X.env)=eval e X.env:=by rfl)(hline:(apos.endLine==cpos.line)=true:=by rfl) :
  PI X (.Tuple els j tpos) (.Call (.Attribute e "items" apos) [] [] cpos) (Vh to):=by
 intro pins s σ H R I h
 refine wpAny_Call_method0_late hbase hline (thn (ho pins s σ H _ I h) λv s1 ⟨x,H1,I1,r1,d,o,kvs,ex,hd,q⟩=>?_)
 subst ex
 cases r1
 obtain⟨h1,h2,lo⟩:=OX I1 (.inl ⟨kvs,.inr ⟨o,hd⟩⟩)
 obtain⟨_,_,ws,kv,D⟩:=GQ I1.hok (.inr ⟨o,hd⟩)
 refine⟨"dict","dict.items",PySem.F.plainAttrs_dict,PySem.F.slot_dict_items,PySem.F.type_dict_items,h1,h2,Calls.callWith_builtin rfl (PySem.evalArgs_none ?_)⟩
 refine call_meetsIn PySem.F.slot_dict_items D.typeIs PySem.F.entry_dict_items (PySem.F.args_dict_items_1 _) (meets_dict_items (A_ X.prog X.w) d lo) ⟨⟨ws,D⟩,?_⟩
 have hf:H1 s1.heap.objs.size=none:=I1.fresh
 have hv:(s1.heap.push { cls:=.type "dict_items",data:=.fields #[.ref d] }).IsItemsView s1.heap.objs.size d:=⟨_,Heap.get?_push_size _ rfl,rfl,rfl⟩
 have I2:Inv X pins σ (BG H1 s1.heap.objs.size (.ext λh=>h.IsItemsView s1.heap.objs.size d)) { s1 with heap:=s1.heap.push { cls:=.type "dict_items",data:=.fields #[.ref d] } } :=
  I1.laid (t':=s1.toks) (λb o e=>Heap.get?_push_of_some _ e) (Nat.le_refl _) ⟨hv,⟨_,Heap.get?_push_size _ rfl⟩,λh1 h2 ⟨o,e,c⟩ k=>⟨o,k o e,c⟩⟩
 have hd2:(BG H1 s1.heap.objs.size (.ext λh=>h.IsItemsView s1.heap.objs.size d)) d=some (.frz o (.dK kvs)):=by rw [AT (Ar hd hf)]; exact hd
 obtain⟨es,ep,hdat⟩:∃es ep,o.data=.dict es ep:=by
  obtain⟨e0,_,_,ws,kv,o',es',ep',e1,e2,e3,e4⟩:=(show ObjOk X.prog X.w H1 s1.heap d (.frz o (.dK kvs)) from I1.hok d _ hd)
  rw [e0] at e1
  cases e1
  exact⟨es',ep',e3⟩
 obtain⟨ws2,kv2,D2⟩:=Lz I2 hd2 hdat
 have hl:=kv2.length
 refine wpAny_pyIter_items (s:={ s1 with heap:=s1.heap.push { cls:=.type "dict_items",data:=.fields #[.ref d] } }) hv D2 ?_
 refine⟨_,[(s1.heap.push { cls:=.type "dict_items",data:=.fields #[.ref d] }).objs.size],_,YK d o kvs,_,rfl,I2.kept (t':=s1.toks) (λb o e=>Heap.get?_push_of_some _ e),N0 d _ o kvs es ep hdat,⟨.none,.none,by rw [hl]; exact Heap.get?_push_size _ rfl⟩,λc hc=>?_,q _ hf⟩
 rw [List.mem_singleton.mp hc]
 exact I2.fpOk (Nat.le_refl _) I2.fresh
end L2
namespace Dp
open PySem PySem.Spec PyProof.Rows L2
def wItems(wa:DW):FT:=λn ρ P=>wa n ρ λd n1=>∃ks ds,d=.fdi ks ds/\(∀k∈ks,PQ k)/\P (EA (ks.map WF) ds) n1
theorem Vb(k:Key):kV k=kOf k:=by cases k <;> rfl
section
variable {X:Cx}{a:Expr}{κa:Kd}{wa:DW}{els:List Expr}{j:Nat}{tpos apos cpos:Pos}
theorem Sh(ha:DE X a κa wa)(hbase:attributeBase a "items" X.env (eval a X.env)=eval a X.env:=by rfl)(hline:(apos.endLine==cpos.line)=true:=by rfl):DI X (.Tuple els j tpos) (.Call (.Attribute a "items" apos) [] [] cpos) (wItems wa):=by
 obtain⟨t,a1,a2⟩:=ha
 refine⟨_,Rt a1 hbase hline,λC M H n ρ σ P Rr R w q=>?_⟩
 refine a2 C M H n ρ σ _ _ R w λv H1 d n1 ee f1 r1 p=>?_
 obtain⟨ks,ds,rfl,hfit,p⟩:=p
 have R1:=R.step ee f1
 obtain⟨ad,vs,rfl,⟨o,nM,hd⟩,hlen,hs⟩:∃a vs,v=.ref a/\NdF M H1 a ks vs/\ks.length=ds.length/\Ats X.K M H1 ds vs:=r1.tpOf R.dom R.vM
 have hl:=hs.length
 refine⟨ad,o,_,rfl,hd,λr hr=>?_⟩
 have g:Grow H1 (BG H1 r (.ext λh=>h.IsItemsView r ad)):=A9 hr
 refine q _ _ _ n1 (ee.trans g.ext) (f1.grow g) (λi M' H' pr dom=>?_) p
 have pr2:Pres M H1 M' H':=g.pres.trans pr
 have hd':H' ad=some (.frz o (.dK (ks.zip vs))):=(pr2.nd nM hd).2
 have zl:(ks.zip vs).length=ks.length:=by rw [List.length_zip]; omega
 have zd:(EA (ks.map WF) ds).length=ks.length:=by unfold EA; rw [List.length_zipWith,List.length_map]; omega
 refine⟨λe he=>?_,λhle=>⟨hd',by omega⟩⟩
 have hi:i<ks.length:=by rw [← zd]; exact(List.getElem?_eq_some_iff.mp he).1
 have hid:i<ds.length:=by omega
 refine⟨⟨hd',by omega⟩,λx H2 y=>?_⟩
 obtain⟨T,pp,rfl,hT,hp,rfl⟩:=y
 obtain⟨v',e1,h1⟩:=(hs.pres pr2).get (List.getElem?_eq_getElem hid)
 have e2:(ks.zip vs)[i]?=some (ks[i],v'):=by
  rw [List.getElem?_zip_eq_some]
  exact⟨List.getElem?_eq_getElem hi,e1⟩
 rw [e2] at hp
 cases hp
 have e3:e=.tup [WF ks[i],ds[i]]:=by
  unfold EA at he
  rw [List.getElem?_zipWith,List.getElem?_map,List.getElem?_eq_getElem hi,List.getElem?_eq_getElem hid] at he
  exact(Option.some.inj he).symm
 subst e3
 refine⟨A9 hT,Dk dom hT ⟨_,_,rfl,?_,_,_,rfl,h1,rfl⟩⟩
 show At X.K M' H' (WF ks[i]) (kV ks[i])
 rw [Vb]
 exact Vt (hfit _ (List.getElem_mem hi))
end
section
variable {K:Frag}{C:Fm}{M:Addr->Prop}{H H':Hp}{n n':Nat}{ρ:List Slot}{σ:L2.St}
theorem Rel.hold(R:Rel K C M H n ρ σ){p:Addr}{o:HO}(hp:H p=none):Rel K C (λb=>M b\/b=p) (BG H p o) n ρ σ:=by
 have g:Grow H (BG H p o):=A9 hp
 have pr:Pres M H (λb=>M b\/b=p) (BG H p o):=Fo hp
 refine⟨R.len,λa z=>.inl (R.sub a z),λa z=>?_,R.ext.trans g.ext,R.fU,R.uV,λa z=>.inl (R.vM a z),(R.feed.grow g).more p λf hf q=>?_,λi s q=>(R.sl i s q).pres pr (λ_ z=>.inl z) g.ext R.uV,λq hq=>(R.pin q hq).trans pr,R.br0,R.new,R.two,λq hq=>?_⟩
 ·rcases z with z | z
  ·obtain⟨u,h1⟩:=R.dom a z
   exact⟨u,g.all a u h1⟩
  ·rw [z]; exact⟨o,Ak⟩
 ·obtain⟨_,_,_,_,_,h3,_⟩:=R.feed f hf
  have:=h3.2
  rw [q,hp] at this; cases this
 ·obtain⟨h1,h2,h3,h4⟩:=R.kept q hq
  exact⟨g.all _ _ h1,.inl h2,h3,h4⟩
end
def JI(ks:List Key)(k:Key):Bool:=ks.any λk0=>decide (k0=k)
theorem hasK_iff{ks:List Key}{k:Key}:JI ks k=true↔k∈ks:=by
 unfold JI
 rw [List.any_eq_true]
 exact⟨fun⟨x,hx,e⟩=>by rw [← of_decide_eq_true e]; exact hx,λh=>⟨k,h,decide_eq_true rfl⟩⟩
def DN(ks:List Key)(k:Key):List Key:=if JI ks k=true then ks else ks++[k]
def Dd{α:Type}(ks:List Key)(ds:List α)(k:Key)(d:α):List α:=if JI ks k=true then List.zipWith (λk0 d0=>if k0=k then d else d0) ks ds else ds++[d]
theorem T9{ks:List Key}{vs:List V}(hl:ks.length=vs.length)(k:Key):((ks.zip vs).any λkv=>decide (kv.1=k))=JI ks k:=by
 rw [Bool.eq_iff_iff,List.any_eq_true,hasK_iff]
 constructor
 ·rintro ⟨⟨a,b⟩,hm,e⟩
  have e:a=k:=of_decide_eq_true e
  rw [← e]
  exact(List.of_mem_zip hm).1
 ·intro h
  obtain⟨i,hi,e⟩:=List.mem_iff_getElem.mp h
  refine⟨(ks[i],vs[i]'(by omega)),?_,by rw [e]; exact decide_eq_true rfl⟩
  exact List.mem_iff_getElem.mpr ⟨i,by rw [List.length_zip]; omega,by rw [List.getElem_zip]⟩
theorem Ri{ks:List Key}{vs:List V}(hl:ks.length=vs.length)(k:Key)(v:V):putK (ks.zip vs) k v=(DN ks k).zip (Dd ks vs k v):=by
 unfold putK DN Dd
 rw [T9 hl]
 by_cases h:JI ks k=true
 ·rw [if_pos h,if_pos h,if_pos h]
  have go:∀(ks:List Key) (vs:List V),((ks.zip vs).map λkv=>if kv.1=k then (kv.1,v) else kv)=ks.zip (List.zipWith (λk0 d0=>if k0=k then v else d0) ks vs):=by
   intro ks
   induction ks with
   | nil=>intro vs; rfl
   | cons a ks ih =>
    intro vs
    cases vs with
    | nil=>rfl
    | cons b vs =>
     show (if a=k then (a,v) else (a,b))::_=(a,if a=k then v else b)::_
     exact List.cons_eq_cons.mpr ⟨by split <;> rfl,ih vs⟩
  exact go ks vs
 ·rw [if_neg h,if_neg h,if_neg h,List.zip_append hl]
  rfl
theorem Ats.put{K:Frag}{M:Addr->Prop}{H:Hp}{k:Key}{d:D}{v:V}(hd:At K M H d v):∀{ks:List Key} {ds:List D} {vs:List V},Ats K M H ds vs->Ats K M H (List.zipWith (λk0 d0=>if k0=k then d else d0) ks ds) (List.zipWith (λk0 d0=>if k0=k then v else d0) ks vs)
 | [],ds,vs,h=>rfl
 | a::ks,[],vs,h=>by cases (show vs=[] from h); rfl
 | a::ks,e::ds,vs,h=>by
  obtain⟨u,r,rfl,h1,h2⟩:=h
  refine⟨_,_,rfl,?_,Ats.put hd h2⟩
  show At K M H (if a=k then d else e) (if a=k then v else u)
  by_cases e1:a=k
  ·rw [if_pos e1,if_pos e1]; exact hd
  ·rw [if_neg e1,if_neg e1]; exact h1
theorem Ats.putX{K:Frag}{M:Addr->Prop}{H:Hp}{k:Key}{d:D}{v:V}{ks:List Key}{ds:List D}{vs:List V}(hd:At K M H d v)(h:Ats K M H ds vs):Ats K M H (Dd ks ds k d) (Dd ks vs k v):=by
 unfold Dd
 split
 ·exact Ats.put hd h
 ·exact h.append (Ats.one hd)
theorem O3{α:Type}{ks:List Key}{ds:List α}{k:Key}{d:α}(hl:ks.length=ds.length):(DN ks k).length=(Dd ks ds k d).length:=by
 unfold DN Dd
 split
 ·rw [List.length_zipWith]; omega
 ·rw [List.length_append,List.length_append]; show ks.length+1=ds.length+1; omega
theorem KP:∀{ks:List Key} {ds:List D} {k:Key},k∉ks->Bg ks ds k=none
 | [],ds,k,_=>by unfold Bg; rfl
 | a::ks,[],k,_=>rfl
 | a::ks,d::ds,k,h=>by
  unfold Bg
  rw [if_neg (λe=>h (by rw [e]; exact List.mem_cons_self))]
  exact KP λz=>h (List.mem_cons_of_mem _ z)
theorem KO:∀{ks:List Key} {ds:List D} {k:Key},ks.length=ds.length->k∈ks->∃z,Bg ks ds k=some z
 | [],ds,k,_,h=>by cases h
 | a::ks,[],k,h,_=>by cases h
 | a::ks,d::ds,k,hl,h=>by
  unfold Bg
  by_cases e:a=k
  ·exact⟨d,if_pos e⟩
  ·rw [if_neg e]
   exact KO (by simpa using hl) ((List.mem_cons.mp h).resolve_left λz=>e z.symm)
theorem RJ{ks:List Key}{ds:List D}{k:Key}{d:D}(hl:ks.length=ds.length)(j:Key):Bg (DN ks k) (Dd ks ds k d) j=if j=k then some d else Bg ks ds j:=by
 unfold DN Dd
 by_cases h':JI ks k=true
 ·have h:=hasK_iff.mp h'
  rw [if_pos h',if_pos h']
  have go:∀(ks:List Key) (ds:List D),ks.length=ds.length->(j=k->k∈ks)->Bg ks (List.zipWith (λk0 d0=>if k0=k then d else d0) ks ds) j=if j=k then some d else Bg ks ds j:=by
   intro ks
   induction ks with
   | nil =>
    intro ds _ hm
    by_cases e:j=k
    ·exact absurd (hm e) List.not_mem_nil
    ·rw [if_neg e]; cases ds <;> rfl
   | cons a ks ih =>
    intro ds hl hm
    cases ds with
    | nil=>cases hl
    | cons e ds =>
     show (if a=j then some (if a=k then d else e) else Bg ks _ j)=if j=k then some d else if a=j then some e else Bg ks ds j
     by_cases e1:a=j
     ·rw [if_pos e1,if_pos e1]
      by_cases e2:j=k
      ·rw [if_pos e2,if_pos (e1.trans e2)]
      ·rw [if_neg e2,if_neg (λz=>e2 (e1.symm.trans z))]
     ·rw [if_neg e1,if_neg e1]
      refine ih ds (by simpa using hl) λz=>(List.mem_cons.mp (hm z)).resolve_left λw=>e1 (w.symm.trans z.symm)
  exact go ks ds hl λ_=>h
 ·have h:k∉ks:=λz=>h' (hasK_iff.mpr z)
  rw [if_neg h',if_neg h']
  have go:∀(ks:List Key) (ds:List D),ks.length=ds.length->k∉ks->Bg (ks++[k]) (ds++[d]) j=if j=k then some d else Bg ks ds j:=by
   intro ks
   induction ks with
   | nil =>
    intro ds hl _
    cases ds with
    | nil =>
     show (if k=j then some d else none)=if j=k then some d else none
     by_cases e:j=k
     ·rw [if_pos e,if_pos e.symm]
     ·rw [if_neg e,if_neg (λz=>e z.symm)]
    | cons e ds=>cases hl
   | cons a ks ih =>
    intro ds hl hm
    cases ds with
    | nil=>cases hl
    | cons e ds =>
     show (if a=j then some e else Bg (ks++[k]) (ds++[d]) j)=if j=k then some d else if a=j then some e else Bg ks ds j
     rw [ih ds (by simpa using hl) λz=>hm (List.mem_cons_of_mem _ z)]
     by_cases e1:a=j
     ·rw [if_pos e1,if_pos e1,if_neg (λz=>hm (by rw [← z,← e1]; exact List.mem_cons_self))]
     ·rw [if_neg e1,if_neg e1]
  exact go ks ds hl h
section
variable {X:Cx}{a b e:Expr}{κ κa κb:Kd}{wa wb:DW}{pos pos':Pos}
def Ny(wk wv:DW):DW:=λn ρ P=>wk n ρ λk n1=>wv n1 ρ λd n2=>∃key,keyOf k=some key/\P (.dic [key] [d]) n2
theorem NS(ha:DE X a κa wa)(hb:DE X b κb wb)(hk:κb≠.tp:=by intro z; cases z):DE X (.Dict [some a] [b] pos) .fr (Ny wa wb):=by
 obtain⟨t,h1,h2⟩:=ha
 obtain⟨u,g1,g2⟩:=hb
 refine⟨_,TV (Rn h1 g1 TN) rfl rfl (List.cons_ne_nil _ _) (by show 1<=15; decide),λC M H n ρ σ P Q R w q=>λp hp=>?_⟩
 have R1:=R.hold (o:=.dK []) hp
 have np:¬C.U p:=λz=>by
  obtain⟨o,w⟩:=R.dom p (R.vM p (R.uV p z))
  rw [hp] at w; cases w
 refine h2 C _ _ n ρ σ _ _ R1 w λx H2 k n1 e1 f1 r1 p1=>?_
 have R2:=R1.step e1 f1
 refine g2 C _ _ n1 ρ σ _ _ R2 p1 λy H3 d n2 e2 f2 r2 p2=>?_
 obtain⟨key,hkey,p2⟩:=p2
 have R3:=R2.step e2 f2
 have hat:At X.K (λb=>M b\/b=p) H3 d y:=r2.shOf R2.dom hk
 have hp3:H3 p=some (.dK []):=e2.keep (e1.keep Ak np) np
 have hx:x=kV key:=Di hkey (r1.tpOf R1.dom R1.vM)
 refine⟨hp3,[(key,y)],by rw [hx]; rfl,by show 1<=15; decide,?_⟩
 show Q (.ref p) (BG H3 p (.dK [(key,y)]))
 refine q _ _ (.dic [key] [d]) n2 (λb o eb=>?_) ?_ ⟨p,rfl,hp,[y],Ak,rfl,?_⟩ p2
 ·have nb:b≠p:=Ar eb hp
  obtain⟨o1,z1,k1,t1⟩:=e1 b o (by rw [AT nb]; exact eb)
  obtain⟨o2,z2,k2,t2⟩:=e2 b o1 z1
  exact⟨o2,by rw [AT nb]; exact z2,λnu=>(k2 nu).trans (k1 nu),λvs z=>(t2 vs ((t1 vs z).trans z)).trans (t1 vs z)⟩
 ·refine f2.pres ⟨λb o eb nb=>by rw [AT (λz=>nb (.inr z))]; exact eb,λb z=>.inl (.inl z),λb vs eb=>by rw [AT (λz=>by rw [z,hp3] at eb; cases eb)]; exact eb⟩ λf o hf eb=>?_
  rw [AT (λz=>np (by rw [← z]; exact R.fU f hf))]
  exact eb
 ·exact⟨y,[],rfl,hat.pres (EN (.inr rfl) hp3),rfl⟩
def Fs(i:Nat)(wk wv:DW):Al:=λD2 n ρ=>∃ks ds,ρ[i]?=some (.ow (.dic ks ds))/\wv n ρ λd n1=>wk n1 ρ λk n2=>∃key,keyOf k=some key/\ks.length<sizeLine/\D2.nx n2 (ρ.set i (.ow (.dic (DN ks key) (Dd ks ds key d))))
theorem Ly{i k:Nat}{x:Expr}(hr:Room k X.A)(hx:PE X x (CN i))(ha:DE X a κa wa)(hb:DE X b κb wb)(hk:κb≠.tp:=by intro z; cases z)
  (hs:swapsWith b (some (.Subscript x a pos')) pos.line X.env=pure false:=by rfl):DS X κ (.Assign [.Subscript x a pos'] b pos) (Fs i wa wb):=by
 obtain⟨t,h1,h2⟩:=ha
 obtain⟨u,g1,g2⟩:=hb
 refine⟨_,Hx (JH hr) hx h1 g1 hs,λC M H n ρ σ D2 E R L w=>?_⟩
 obtain⟨ks,ds,hd,w⟩:=w
 refine g2 C M H n ρ σ _ _ R w λv H1 d n1 e1 f1 r1 p=>?_
 have R1:=R.step e1 f1
 obtain⟨ad,ea,m,nv,tt⟩:=R1.sl i _ hd
 refine⟨.ref ad,getD_some ea,?_⟩
 refine h2 C M H1 n1 ρ σ _ _ R1 p λy H2 kk n2 e2 f2 r2 p=>?_
 obtain⟨key,hkey,hlt,p⟩:=p
 have R2:=R1.step e2 f2
 obtain⟨ad',ea',m',nv',tt'⟩:=R2.sl i _ hd
 rw [ea] at ea'
 cases ea'
 obtain⟨vs,hH,hl,hs'⟩:=tt'
 have hat:At X.K M H2 d v:=(r1.shOf R.dom hk).pres (R1.pres e2)
 have hvl:ks.length=vs.length:=by rw [hl,hs'.length]
 refine⟨ad,_,rfl,by rw [Di hkey (r2.tpOf R1.dom R1.vM)]; exact DPut.k hH (by rw [List.length_zip]; omega),L.nx M _ n2 _ σ (R2.mut (e:=.dic (DN ks key) (Dd ks ds key d)) hd ea ⟨Dd ks vs key v,by rw [Ak,Ri hvl],O3 hl,(hs'.putX hat).pres (EN m' hH)⟩) p⟩
def WN:D->Option Bool
 | .lst xs=>some (!xs.isEmpty)
 | .tup xs=>some (!xs.isEmpty)
 | .bl b=>some b
 | .non=>some false
 | _=>none
def Uo(wa:DW):Ht:=λn ρ P=>wa n ρ λd n1=>∃c,WN d=some c/\P c n1
theorem Kt{K:Frag}{M:Addr->Prop}{H:Hp}{ds:List D}{vs:List V}(h:Ats K M H ds vs):vs.isEmpty=ds.isEmpty:=by
 have:=h.length
 cases vs <;> cases ds <;> first | rfl | cases this
theorem Uw{U M:Addr->Prop}{H:Hp}{K:Frag}{d:D}{x:V}{c:Bool}(h:AtT K U M H d x)(e:WN d=some c):V3 K x H c:=by
 cases d with
 | lst ds=>cases e; obtain⟨a,vs,rfl,_,hq,hs⟩:=h; exact .inl ⟨vs,.inl hq,by rw [Kt hs]⟩
 | tup ds=>cases e; obtain⟨a,vs,rfl,hq,hs⟩:=h; exact .inr (.inl ⟨vs,.inl (.inl hq),by rw [Kt hs]⟩)
 | bl b=>cases e; rw [h.bl]; exact rfl
 | non=>cases e; rw [show x=.non from h]; exact rfl
 | _=>cases e
theorem Vo(h:DE X e κ wa)(he:∀whole,isTrue e X.env whole=(do let v ← whole; standAt e.pos; holding [v] (truthy v)):=by intro _; rfl):DT X e (Uo wa):=by
 obtain⟨t,h1,h2⟩:=h
 refine⟨_,Rj h1 he,λC M H n ρ σ P Q R w q=>?_⟩
 refine h2 C M H n ρ σ _ _ R w λv H' d n' e1 f1 r1 p=>?_
 obtain⟨c,hc,p⟩:=p
 exact⟨c,Uw (r1.tpOf R.dom R.vM) hc,q c H' n' e1 f1 p⟩
def Ef(neg:Bool)(d e:D)(P:D->Prop):Prop:=e=.non/\P (.bl (if neg then !NH d else NH d))
theorem Ji{K:Frag}:EW K .sh (λx y H Q=>y=.non/\Q (.bl (decide (x=.non))) H) (Ef false):=λU M H d e x y P Q dom vM hx hy w q=>by
 obtain⟨rfl,w⟩:=w
 exact⟨hy,q _ H (.bl (NH d)) .refl (by rw [NG hx]; rfl) w⟩
theorem MC{K:Frag}:EW K .sh (λx y H Q=>y=.non/\Q (.bl (!decide (x=.non))) H) (Ef true):=λU M H d e x y P Q dom vM hx hy w q=>by
 obtain⟨rfl,w⟩:=w
 exact⟨hy,q _ H (.bl (!NH d)) .refl (by rw [NG hx]; rfl) w⟩
variable {apos cpos:Pos}{f:Expr}{κf:Kd}{wf:DW}
def KJ(wa wk:DW):DW:=λn ρ P=>wa n ρ λd n1=>∃ks ds,JR d=some (ks,ds)/\wk n1 ρ λk n2=>∃key,keyOf k=some key/\P ((Bg ks ds key).getD .non) n2
def Oq(wa wk wx:DW):DW:=λn ρ P=>wa n ρ λd n1=>∃ks ds,JR d=some (ks,ds)/\wk n1 ρ λk n2=>wx n2 ρ λz n3=>∃key,keyOf k=some key/\P ((Bg ks ds key).getD z) n3
theorem RI{U M:Addr->Prop}{H:Hp}{K:Frag}{d z:D}{x v:V}{ks:List Key}{ds:List D}{key:Key}(e:JR d=some (ks,ds))(h:AtT K U M H d x)(hz:At K M H z v):∃a o,x=.ref a/\DGet H a (kV key) o/\At K M H ((Bg ks ds key).getD z) (o.getD v):=by
 obtain⟨a,vs,rfl,ha,hs⟩:=JQ e h
 refine⟨a,DR (ks.zip vs) key,rfl,IA ha,?_⟩
 have h:=Fu (k:=key) (ks:=ks) hs
 cases c:Bg ks ds key with
 | none=>rw [c] at h; rw [show DR (ks.zip vs) key=none from h]; exact hz
 | some y=>rw [c] at h; obtain⟨u,h1,h2⟩:=h; rw [h1]; exact h2
theorem SV{U M:Addr->Prop}{H:Hp}{K:Frag}{d:D}{x:V}{ks:List Key}{ds:List D}(e:JR d=some (ks,ds))(h:AtT K U M H d x):∃a,x=.ref a/\Xl H a:=by
 obtain⟨a,vs,rfl,ha,hs⟩:=JQ e h
 exact⟨a,rfl,.inl ⟨_,ha⟩⟩
theorem Pl{k:Nat}(hr:Room k X.A)(ha:DE X a κa wa)(hb:DE X b κb wb)(m:M1 X a "get" apos b cpos:=by exact⟨rfl,rfl,rfl,rfl⟩):DE X (.Call (.Attribute a "get" apos) [b] [] cpos) .sh (KJ wa wb):=by
 obtain⟨t,h1,h2⟩:=ha
 obtain⟨u,g1,g2⟩:=hb
 refine⟨_,Ry (JH hr) h1 g1 m,λC M H n ρ σ P Q R w q=>?_⟩
 refine h2 C M H n ρ σ _ _ R w λv H1 d n1 e1 f1 r1 p=>?_
 obtain⟨ks,ds,hd,p⟩:=p
 have R1:=R.step e1 f1
 obtain⟨ad,rfl,hI⟩:=SV hd (r1.tpOf R.dom R.vM)
 refine⟨ad,rfl,hI,?_⟩
 refine g2 C M H1 n1 ρ σ _ _ R1 p λy H2 kk n2 e2 f2 r2 p=>?_
 obtain⟨key,hkey,p⟩:=p
 have R2:=R1.step e2 f2
 have hat:=(r1.tpOf R.dom R.vM).pres (R1.pres e2) e2 R.uV
 obtain⟨ad',o,ex,g,hz⟩:=RI (key:=key) hd hat (z:=.non) (v:=.non) rfl
 cases ex
 exact⟨o,by rw [Di hkey (r2.tpOf R1.dom R1.vM)]; exact g,q _ H2 _ n2 (e1.trans e2) f2 hz p⟩
theorem T4{k:Nat}(hr:Room k X.A)(ha:DE X a κa wa)(hb:DE X b κb wb)(hf:DE X f κf wf)(hk:κf≠.tp:=by intro z; cases z)(m:M2 X a "get" apos b f cpos:=by exact⟨rfl,rfl,rfl,rfl⟩):DE X (.Call (.Attribute a "get" apos) [b,f] [] cpos) .sh (Oq wa wb wf):=by
 obtain⟨t,h1,h2⟩:=ha
 obtain⟨u,g1,g2⟩:=hb
 obtain⟨u2,k1,k2⟩:=hf
 refine⟨_,Rx (JH hr) h1 g1 k1 m,λC M H n ρ σ P Q R w q=>?_⟩
 refine h2 C M H n ρ σ _ _ R w λv H1 d n1 e1 f1 r1 p=>?_
 obtain⟨ks,ds,hd,p⟩:=p
 have R1:=R.step e1 f1
 obtain⟨ad,rfl,hI⟩:=SV hd (r1.tpOf R.dom R.vM)
 refine⟨ad,rfl,hI,?_⟩
 refine g2 C M H1 n1 ρ σ _ _ R1 p λy H2 kk n2 e2 f2 r2 p=>?_
 have R2:=R1.step e2 f2
 refine k2 C M H2 n2 ρ σ _ _ R2 p λz H3 dz n3 e3 f3 r3 p=>?_
 obtain⟨key,hkey,p⟩:=p
 have R3:=R2.step e3 f3
 have hat:=((r1.tpOf R.dom R.vM).pres (R1.pres e2) e2 R.uV).pres (R2.pres e3) e3 R.uV
 have hy:=(r2.tpOf R1.dom R1.vM).pres (R2.pres e3) e3 R.uV
 obtain⟨ad',o,ex,g,hz⟩:=RI (key:=key) hd hat (r3.shOf R2.dom hk)
 cases ex
 exact⟨o,by rw [Di hkey hy]; exact g,q _ H3 _ n3 ((e1.trans e2).trans e3) f3 hz p⟩
end
end Dp
namespace L2
open PySem PySem.Spec PyProof.Rows
open AutoSeq1 (wpAny_loadPart')
theorem QY:typeLookup (.type "list_reverseiterator") "__len__"=pure none:=by rw [typeLookup_type,builtinLookup_eq_fast]; kernel_rfl
theorem SW:typeLookup (.type "list_reverseiterator") "__length_hint__"=pure (some (.builtin "list_reverseiterator.__length_hint__")):=by rw [typeLookup_type,builtinLookup_eq_fast]; kernel_rfl
theorem boot_reversed:bootBuiltins "reversed"=some (.type "reversed"):=by decide +kernel
section
variable {prog:Program}{w:World}{A:Around}{E:Value->Shared->Prop}{s:Shared}{I:Addr}{fp wr:List Addr}{G:Array GenState->Array GenState->Prop}{n:Nat}{P:Nat->Value->Prop}{St:Nat->Shared->Prop}
theorem NV{Q:List Value->Shared->Prop}
  (W:WalksS prog w A.in1 I fp wr G n P St) (hT:∀i s,St i s->s.TypeIs (.ref I) "list_reverseiterator") (hst:St 0 s) (hfp:∀b∈fp,b<s.heap.objs.size) (hI:I∈fp)
  (hQ:∀s' acc,Moved wr G s s'->ItemsOf P acc n->Q acc.toList s') (hn:n<=sizeLine):wpAny (model prog w) A (collect (.ref I)) Q E s:=by
 have hSf:s.heap.objs.size∉fp:=λhm=>Nat.lt_irrefl _ (hfp _ hm)
 have hSI:s.heap.objs.size≠I:=λe=>hSf (e▸hI)
 unfold collect
 refine wpAny_bind (wpAny_runValue (codeAny_builtin F.entry_proto_collect ?_))
 rw [Around.under_plainId F.plain_proto_collect _]
 show wpAny _ A.in1 (newList [] >>= λl=>again (.builtin "list.__iadd__" ⟨[l,.ref I],[]⟩)) _ _ s
 refine wpAny_bind (wpAny_newObj_type ?_)
 refine wpAny_pure ⟨plainId_quiet F.plain_list_iadd _,codeAny_builtin F.entry_list_iadd ?_⟩
 rw [Around.under_plainId F.plain_list_iadd _]
 have hst₁:=W.frame 0 s (s.heap.push { cls:=.type "list",data:=.seq ([]:List Value).toArray }) s.toks hst (Nat.le_refl _) λb _ o e=>Heap.get?_push_of_some _ e
 have hS₁:(s.heap.push { cls:=.type "list",data:=.seq ([]:List Value).toArray }).get? s.heap.objs.size=some { cls:=.type "list",data:=.seq ([]:List Value).toArray }:=Heap.get?_push_size _ rfl
 have h1:Builtin.List.listSameRef (.ref s.heap.objs.size) (.ref I)=false:=by simp [Builtin.List.listSameRef,hSI]
 show wpAny _ A.in1 (Builtin.List.listExtendWith (.ref s.heap.objs.size) (.ref I) (.ref s.heap.objs.size)) _ _ _
 unfold Builtin.List.listExtendWith
 refine wpAny_bind (wpAny_typeOf (hT 0 _ hst₁) ?_)
 rw [if_neg (by rw [h1]; decide)]
 refine wpAny_bind (W.self 0 _ _ _ hst₁ ?_)
 refine wpAny_bind (wpAny_holding ?_)
 unfold Builtin.List.listLengthHint
 refine wpAny_bind (wpAny_specialOf (hT 0 _ hst₁) QY ?_)
 show wpAny _ A.in1 (specialOf (Value.ref I) (Str.ofString "__length_hint__") >>= _) _ _ _
 refine wpAny_bind (wpAny_specialOf (hT 0 _ hst₁) SW ?_)
 (generalize hid:("list_reverseiterator.__length_hint__" : String)=id0; wp_delta; rw [show splitId id0=some ("list_reverseiterator","__length_hint__") from by subst hid; decide +kernel]; subst hid)
 refine wpAny_bind (wpAny_isInstance (b:=true) (hT 0 _ hst₁) (by rw [isSubtype_type]; kernel_rfl) ?_)
 refine wpAny_pure ?_
 rw [if_neg (by decide)]
 refine wpAny_pure ⟨plainId_quiet F.plain_extend_loop _,codeAny_extend_loopS W hn _ hSf _ n 0 _ _ _ rfl (Nat.zero_le _) hst₁ hS₁ (ItemsOf.nil P) λs' acc' c' hm hS' hacc=>?_⟩
 show wpAny _ A (load s.heap.objs.size >>= _) _ _ s'
 refine wpAny_bind (wpAny_load hS' ?_)
 exact wpAny_pure (hQ s' acc' (Moved.drop_new (o:={ cls:=.type "list",data:=.seq ([]:List Value).toArray }) (tk:=s.toks) hm (Nat.le_refl _)) hacc)
theorem JU{Q₁:Value->Shared->Prop}(W:WalksS prog w A.in1.in1 I fp wr G n P St)(hT:∀i s,St i s->s.TypeIs (.ref I) "list_reverseiterator")(hst:St 0 s)(hfp:∀b∈fp,b<s.heap.objs.size)(hI:I∈fp)
  (h:∀s' acc,Moved wr G s s'->ItemsOf P acc n->Q₁ (.ref s'.heap.objs.size) { s' with heap:=s'.heap.push { cls:=.type "tuple",data:=.seq acc } }) (hsz:n<=sizeLine) :
  codeAny (model prog w) A (.call (.builtin "tuple.__new__") ⟨[.type "tuple",.ref I],[]⟩) (wants Q₁ E) s:=by
 refine codeAny_of_tree ?_
 show wpAny _ A.in1 (do checkBuiltinCall "tuple.__new__" ⟨[.type "tuple",.ref I],[]⟩; again (.builtin "tuple.__new__" ⟨[.type "tuple",.ref I],[]⟩)) _ _ s
 refine wpAny_bind (wpAny_of_eq (F.newCall_tuple_1 _) (wpAny_pure ⟨plainId_quiet F.plain_tuple_new _,codeAny_builtin F.entry_tuple_new ?_⟩))
 rw [Around.under_plainId F.plain_tuple_new _]
 have hsub:=sub_tuple_self
 have hinit:=init_tuple_lookup
 have hmh:=madeHere_tuple
 have hTI:=hT 0 s hst
 wp_walk using wpAny_typeOf hTI,NV (hn:=hsz) W hT hst hfp hI
 intro s' acc hm hacc
 show wpAny _ _ (Builtin.Tuple.tupleExact acc.toList.toArray >>= λv=>ret v) _ _ _
 unfold Builtin.Tuple.tupleExact
 refine wpAny_bind (wpAny_newObj_type ?_ (by show acc.toList.toArray.size<=sizeLine; simp only [Array.toArray_toList]; rw [hacc.1]; exact hsz))
 refine wpAny_pure ?_
 have e:acc.toList.toArray=acc:=by simp
 rw [e]
 exact h s' acc hm hacc
theorem JX{Q:Value->Shared->Prop}(W:WalksS prog w A.in1.in1.in1 I fp wr G n P St)(hT:∀i s,St i s->s.TypeIs (.ref I) "list_reverseiterator")(hst:St 0 s)(hfp:∀b∈fp,b<s.heap.objs.size)(hI:I∈fp)
  (hQ:∀s' acc,Moved wr G s s'->ItemsOf P acc n->Q (.ref s'.heap.objs.size) { s' with heap:=s'.heap.push { cls:=.type "tuple",data:=.seq acc } }) (hsz:n<=sizeLine) :
  wpAny (model prog w) A (call (.type "tuple") [.ref I]) Q E s:=by
 refine callType_codes (Q₁:=λobj s₁=>s₁.TypeIs obj "tuple"/\Q obj s₁) F.called_tuple (F.typeCall_tuple_1 _) F.entry_object_init
  (JU (hsz:=hsz) W hT hst hfp hI λs' acc hm hacc=>⟨⟨_,Heap.get?_push_size _ rfl,rfl⟩,hQ s' acc hm hacc⟩) λobj s₁ h₁=>?_
 exact⟨h₁.1,F.args_object_init_2 obj _,object_init_meets F.called_tuple.init.lookup F.called_tuple.made (by decide) prog w A.in1 _ s₁ ⟨h₁.1,rfl,h₁.2⟩⟩
end
section
variable {X:Cx}{e:Expr}{te:TE}{p1 p2 q1 q2:Pos}
def TD(K:Frag)(te:TE):TE:=λσ H Q=>te σ H λx H1=>∃l xs,x=.ref l/\SqL K H1 l xs/\∀r,H1 r=none->Q (.ref r) (BG H1 r (.tup xs.reverse))
theorem QO(hc:X.calm=true)(he:PE X e te)(hg1:Gl X "tuple")(hm1:X.mg "tuple"=none)(hg2:Gl X "reversed")(hm2:X.mg "reversed"=none)(h1:starEach [Expr.Call (.Name "reversed" p2) [e] [] q2] X.env=[(false,eval (Expr.Call (.Name "reversed" p2) [e] [] q2) X.env)]:=by rfl)
  (h2:starEach [e] X.env=[(false,eval e X.env)]:=by rfl):PE X (.Call (.Name "tuple" p1) [.Call (.Name "reversed" p2) [e] [] q2] [] q1) (TD X.K te):=by
 intro pins s σ H Q I h
 refine wpAny_Call_Name_kw (Dz I hg1 hm1 boot_tuple ?_)
 refine PyProof.Rows.callWith_type1 ?_ h1 rfl
 rw [h1]
 refine Calls.spliced_cons ?_
 refine wpAny_Call_Name_kw (Dz I hg2 hm2 boot_reversed ?_)
 refine PyProof.Rows.callWith_type1 ?_ h2 rfl
 rw [h2]
 refine Calls.spliced_cons (thn (he pins s σ H _ I h) λu s1 ⟨x,H1,I1,r1,l,xs,ex,hq,q⟩=>Calls.spliced_nil ?_)
 subst ex
 cases r1
 obtain⟨its,r',pl,hz⟩:=I1.list hq
 have hlen:=r'.length
 have hl:s1.heap.IsList l its.toArray:=pl.isList
 have hlt:l<s1.heap.objs.size:=by obtain⟨_,e,_⟩:=id hl; exact Heap.lt_size e
 refine call_reversed_list hl (Calls.spliced_nil ?_)
 have hn1:H1 s1.heap.objs.size=none:=I1.fresh
 have I2:Inv X pins σ H1 { s1 with heap:=s1.heap.push (revObj l ((its.toArray.size:Int) - 1)) }:=I1.kept (t':=s1.toks) λb o e=>Heap.get?_push_of_some _ e
 have fpk:Gm X pins H1 s1.heap.objs.size:=I1.fpOk (Nat.le_refl _) hn1
 refine JX (s:={ s1 with heap:=s1.heap.push (revObj l ((its.toArray.size:Int) - 1)) }) (Walks.listRev (A:=X.A.in1.in1.in1) (I1.ok.hd hc) s1.heap.objs.size l (Nat.ne_of_lt hlt) its.toArray).toS (λi s' hs=>hs.2.1.typeIs) ⟨Nat.zero_le _,⟨_,Heap.get?_push_size _ rfl,rfl,by show Data.fields _=_; simp [revObj]⟩,hl.push _⟩ (λb hb=>?_) List.mem_cons_self (λs' acc hm hacc=>?_) (by rw [List.size_toArray,← hlen]; exact hz)
 ·rcases List.mem_cons.mp hb with rfl | hb
  ·exact Heap.lt_size (Heap.get?_push_size _ rfl)
  ·obtain rfl:=List.mem_singleton.mp hb
   exact Nat.lt_of_lt_of_le hlt (by show s1.heap.objs.size<=(s1.heap.push _).objs.size; rw [size_push']; exact Nat.le_succ _)
 ·obtain⟨h',g',d',tk',os'⟩:=s'
  have e1:g'=s1.gens:=hm.gens
  have e2:d'=s1.drawn:=hm.drawn
  have e3:os'=s1.os:=hm.os
  subst e1 e2 e3
  have I3':=I2.turnedL (h':=h') (t':=tk') (ch:=[s1.heap.objs.size]) (λc hc=>by rw [List.mem_singleton.mp hc]; exact fpk) λb o hb e=>hm.heap b o hb e
  have I3:Inv X pins σ H1 { s1 with heap:=h',toks:=tk' }:=I3'
  have hv:acc.toList=its.reverse:=by
   refine List.ext_getElem? λi=>?_
   obtain⟨a1,a2⟩:=hacc
   have e0:acc.toList[i]?=acc[i]?:=by simp
   rw [e0]
   by_cases hi:i<its.length
   ·have hi2:i<acc.size:=by rw [a1,List.size_toArray]; exact hi
    have a3:=a2 i acc[i] (Array.getElem?_eq_getElem hi2)
    rw [List.getElem?_reverse hi,Array.getElem?_eq_getElem hi2,← a3,List.size_toArray]
    simp
   ·rw [List.getElem?_eq_none (by rw [List.length_reverse]; omega)]
    exact Array.getElem?_eq_none (by rw [a1,List.size_toArray]; omega)
  have hv2:acc=its.reverse.toArray:=by rw [← hv]
  have rr:Vals xs.reverse its.reverse:=r'.reverse
  refine⟨.ref h'.objs.size,BG H1 h'.objs.size (.tup xs.reverse),I3.laid (t':=tk') (λb o e=>Heap.get?_push_of_some _ e) (Nat.le_refl _) (show ObjOk X.prog X.w _ _ _ (.tup xs.reverse) from⟨by rw [List.length_reverse]; exact hz,its.reverse,rr,by rw [hv2]; exact IsTupN.new _ _⟩),rfl,q _ (I3.hok.fresh (Nat.le_refl _))⟩
end
end L2
namespace Dp
open PySem PySem.Spec PyProof.Rows L2
def Oo(wa:DW):DW:=λn ρ P=>wa n ρ λd n1=>∃xs,d=.lst xs/\P (.tup xs.reverse) n1
section
variable {X:Cx}{a:Expr}{κa:Kd}{wa:DW}{p1 p2 q1 q2:Pos}
theorem Qz(hc:X.calm=true)(ha:DE X a κa wa)(hg1:Gl X "tuple")(hm1:X.mg "tuple"=none)(hg2:Gl X "reversed")(hm2:X.mg "reversed"=none)(h1:starEach [Expr.Call (.Name "reversed" p2) [a] [] q2] X.env=[(false,eval (Expr.Call (.Name "reversed" p2) [a] [] q2) X.env)]:=by rfl)
  (h2:starEach [a] X.env=[(false,eval a X.env)]:=by rfl):DE X (.Call (.Name "tuple" p1) [.Call (.Name "reversed" p2) [a] [] q2] [] q1) .sh (Oo wa):=by
 obtain⟨t,a1,a2⟩:=ha
 refine⟨_,QO hc a1 hg1 hm1 hg2 hm2 h1 h2,λC M H n ρ σ P Q R w q=>?_⟩
 refine a2 C M H n ρ σ _ _ R w λv H1 d n1 e1 f1 r1 p=>?_
 obtain⟨xs,rfl,p⟩:=p
 have R1:=R.step e1 f1
 obtain⟨ad,vs,rfl,nV,hq,hs⟩:=r1.tpOf R.dom R.vM
 refine⟨ad,vs,rfl,.inl hq,λr hr=>?_⟩
 have g:Grow H1 (BG H1 r (.tup vs.reverse)):=A9 hr
 exact q _ _ (.tup xs.reverse) n1 (e1.trans g.ext) (f1.grow g) (Dk R1.dom hr (hs.reverse)) p
end
end Dp
namespace Nt
open PySem PySem.Spec PyProof.Rows L2 Dp
def Ed(N:Net)(x y:Str)(l:Int):Prop:=(y,l)∈Dt N.ts x
inductive Wk (N:Net) (s:Str):Str->Int->Prop
 | nil:Wk N s s 0
 | snoc {x y:Str} {d l:Int}:Wk N s x d->Ed N x y l->Wk N s y (d+l)
def Least(N:Net)(s x:Str)(d:Int):Prop:=Wk N s x d/\∀d',Wk N s x d'->d<=d'
theorem Ed.pos{N:Net}(ok:N.Ok){x y:Str}{l:Int}(h:Ed N x y l):1<=l/\l<=1000000:=by
 obtain⟨_,h1,h2,_⟩:=Lm ok h
 exact⟨h1,h2⟩
theorem Ed.ins{N:Net}(ok:N.Ok){x y:Str}{l:Int}(h:Ed N x y l):y∈N.ps:=(Lm ok h).1
theorem Wk.pos{N:Net}(ok:N.Ok){s x:Str}{d:Int}(h:Wk N s x d):0<=d:=by
 induction h with
 | nil=>exact Int.le_refl _
 | snoc _ he ih=>have:=he.pos ok; omega
theorem Least.unique{N:Net}{s x:Str}{d d':Int}(h:Least N s x d)(h':Least N s x d'):d=d':=by
 have:=h.2 d' h'.1
 have:=h'.2 d h.1
 omega
theorem GV{N:Net}{s:Str}{F:Str->Option Int}(h0:∃d,F s=some d/\d<=0)(hw:∀x d,F x=some d->Wk N s x d)(hc:∀x d y l,F x=some d->Ed N x y l->∃d',F y=some d'/\d'<=d+l) :
  (∀x d,F x=some d->Least N s x d)/\∀x d,Wk N s x d->F x≠none:=by
 have main:∀x d,Wk N s x d->∃d',F x=some d'/\d'<=d:=by
  intro x d h
  induction h with
  | nil=>exact h0
  | snoc _ he ih =>
   obtain⟨d1,e1,h1⟩:=ih
   obtain⟨d2,e2,h2⟩:=hc _ _ _ _ e1 he
   exact⟨d2,e2,by omega⟩
 refine⟨λx d e=>⟨hw x d e,λd' h=>?_⟩,λx d h e=>?_⟩
 ·obtain⟨d1,e1,h1⟩:=main x d' h
  rw [e] at e1
  cases e1
  exact h1
 ·obtain⟨d1,e1,_⟩:=main x d h
  rw [e] at e1
  cases e1
theorem Pf{N:Net}{t:BC}(ht:t∈N.ts):Ed N t.a t.b t.len/\Ed N t.b t.a t.len:=by
 constructor
 ·exact List.mem_flatMap.mpr ⟨t,ht,List.mem_append_left _ (by rw [if_pos rfl]; exact List.mem_singleton.mpr rfl)⟩
 ·exact List.mem_flatMap.mpr ⟨t,ht,List.mem_append_right _ (by rw [if_pos rfl]; exact List.mem_singleton.mpr rfl)⟩
theorem Ed.tie{N:Net}(ok:N.Ok){x y:Str}{l:Int}(h:Ed N x y l):∃t∈N.ts,t.len=l/\((t.a=x/\t.b=y)\/(t.b=x/\t.a=y)):=by
 obtain⟨_,_,_,t,ht,e,h⟩:=Lm ok h
 exact⟨t,ht,e,h⟩
structure Dmap (ks:List Key) (ds:List D) (enc:α->D) (F:Str->Option α):Prop where
 len:ks.length=ds.length
 at_:∀x:Str,Bg ks ds (.inr x)=(F x).map enc
 dom:∀k∈ks,∃x:Str,k=.inr x
 nd:ks.Nodup
theorem Dmap.mem{α:Type}{ks:List Key}{ds:List D}{enc:α->D}{F:Str->Option α}(h:Dmap ks ds enc F)(x:Str):(.inr x∈ks)↔F x≠none:=by
 constructor
 ·intro hm e
  obtain⟨z,hz⟩:=KO h.len hm
  rw [h.at_,e] at hz
  cases hz
 ·intro hn
  by_cases hm:(Sum.inr x:Key)∈ks
  ·exact hm
  ·have:=KP (ds:=ds) hm
   rw [h.at_] at this
   cases e:F x with
   | none=>exact absurd e hn
   | some a=>rw [e] at this; cases this
theorem Dmap.one{α:Type}{enc:α->D}{s:Str}{a:α}:Dmap [.inr s] [enc a] enc (λx=>if x=s then some a else none):=by
 refine⟨rfl,λx=>?_,λk hk=>⟨s,List.mem_singleton.mp hk⟩,List.nodup_cons.mpr ⟨List.not_mem_nil,List.nodup_nil⟩⟩
 show (if (Sum.inr s:Key)=.inr x then some (enc a) else none)=(if x=s then some a else none).map enc
 by_cases e:x=s
 ·rw [if_pos e,if_pos (by rw [e])]; rfl
 ·rw [if_neg e,if_neg (λz=>e (Sum.inr.inj z).symm)]; rfl
def Gx{α:Type}(F:Str->Option α)(x:Str)(a:α):Str->Option α:=λy=>if y=x then some a else F y
theorem Bm{α:Type}{F:Str->Option α}{x:Str}{a:α}:Gx F x a x=some a:=if_pos rfl
theorem Bl{α:Type}{F:Str->Option α}{x y:Str}{a:α}(h:y≠x):Gx F x a y=F y:=if_neg h
theorem Dmap.put{α:Type}{ks:List Key}{ds:List D}{enc:α->D}{F:Str->Option α}(h:Dmap ks ds enc F)(x:Str)(a:α):Dmap (DN ks (.inr x)) (Dd ks ds (.inr x) (enc a)) enc (Gx F x a):=by
 refine⟨O3 h.len,λy=>?_,λk hk=>?_,?_⟩
 ·rw [RJ h.len]
  unfold Gx
  by_cases e:y=x
  ·rw [if_pos e,if_pos (by rw [e])]; rfl
  ·rw [if_neg e,if_neg (λz=>e (Sum.inr.inj z)),h.at_]
 ·unfold DN at hk
  split at hk
  ·exact h.dom k hk
  ·rcases List.mem_append.mp hk with hk | hk
   ·exact h.dom k hk
   ·exact⟨x,List.mem_singleton.mp hk⟩
 ·unfold DN
  split
  ·exact h.nd
  ·rename_i hn
   rw [List.nodup_append]
   refine⟨h.nd,List.nodup_cons.mpr ⟨List.not_mem_nil,List.nodup_nil⟩,λa ha b hb e=>hn (hasK_iff.mpr ?_)⟩
   rw [← List.mem_singleton.mp hb,← e]
   exact ha
theorem Dmap.le{α:Type}{ks:List Key}{ds:List D}{enc:α->D}{F:Str->Option α}(h:Dmap ks ds enc F){ps:List Str}(hp:∀x,F x≠none->x∈ps):ks.length<=ps.length:=by
 have:∀(ks:List Key) (ps:List Str),ks.Nodup->(∀k∈ks,∃x:Str,k=.inr x/\x∈ps)->ks.length<=ps.length:=by
  intro ks
  induction ks with
  | nil=>intro ps _ _; exact Nat.zero_le _
  | cons k ks ih =>
   intro ps hn hm
   obtain⟨x,rfl,hx⟩:=hm k List.mem_cons_self
   have hn:=List.nodup_cons.mp hn
   have h1:=ih (ps.erase x) hn.2 λj hj=>by
    obtain⟨y,rfl,hy⟩:=hm j (List.mem_cons_of_mem _ hj)
    refine⟨y,rfl,(List.mem_erase_of_ne λe=>?_).mpr hy⟩
    rw [e] at hj
    exact hn.1 hj
   rw [List.length_erase_of_mem hx] at h1
   have:=List.length_pos_of_mem hx
   rw [List.length_cons]
   omega
 refine this ks ps h.nd λk hk=>?_
 obtain⟨x,rfl⟩:=h.dom k hk
 exact⟨x,rfl,hp x ((h.mem x).mp hk)⟩
abbrev Nu:=Str->Option (Int×Option Str)
structure Dj (N:Net) (s:Str) (F:Nu) (Wt:List Str):Prop where
 start:F s=some (0,none)
 ins:∀x,F x≠none->x∈N.ps
 wk:∀x d p,F x=some (d,p)->Wk N s x d
 prev:∀x d p,F x=some (d,p)->(p=none/\x=s)\/∃y dy q l,p=some y/\F y=some (dy,q)/\y∉Wt/\Ed N y x l/\d=dy+l
 wfound:∀x∈Wt,F x≠none
 nd:Wt.Nodup
 done:∀x d p y l,F x=some (d,p)->x∉Wt->Ed N x y l->∃dy q,F y=some (dy,q)/\dy<=d+l
 near:∀x d p y dy q,F x=some (d,p)->x∉Wt->F y=some (dy,q)->y∈Wt->d<=dy
theorem Dj.init{N:Net}{s:Str}(hs:s∈N.ps):Dj N s (λx=>if x=s then some (0,none) else none) [s]:=by
 have iff:∀x d p,(if x=s then some ((0:Int),(none:Option Str)) else none)=some (d,p)->x=s/\d=0/\p=none:=λx d p e=>by
  by_cases h:x=s
  ·rw [if_pos h] at e; cases e; exact⟨h,rfl,rfl⟩
  ·rw [if_neg h] at e; cases e
 refine⟨if_pos rfl,λx e=>?_,λx d p e=>?_,λx d p e=>?_,λx hx=>?_,List.nodup_cons.mpr ⟨List.not_mem_nil,List.nodup_nil⟩,λx d p y l e hx=>?_,λx d p y dy q e hx=>?_⟩
 ·by_cases h:x=s
  ·rw [h]; exact hs
  ·exact absurd (if_neg h) e
 ·obtain⟨rfl,rfl,rfl⟩:=iff x d p e
  exact .nil
 ·obtain⟨rfl,rfl,rfl⟩:=iff x d p e
  exact .inl ⟨rfl,rfl⟩
 ·rw [List.mem_singleton.mp hx,if_pos rfl]
  intro z; cases z
 ·exact absurd (List.mem_singleton.mpr (iff x d p e).1) hx
 ·exact absurd (List.mem_singleton.mpr (iff x d p e).1) hx
structure Dm (N:Net) (s:Str) (F:Nu) (Wt:List Str) (v:Str) (dv:Int) (seen:List (Str×Int)):Prop where
 start:F s=some (0,none)
 ins:∀x,F x≠none->x∈N.ps
 wk:∀x d p,F x=some (d,p)->Wk N s x d
 prev:∀x d p,F x=some (d,p)->(p=none/\x=s)\/∃y dy q l,p=some y/\F y=some (dy,q)/\y∉Wt/\Ed N y x l/\d=dy+l
 wfound:∀x∈Wt,F x≠none
 nd:Wt.Nodup
 done:∀x d p y l,F x=some (d,p)->x∉Wt->x≠v->Ed N x y l->∃dy q,F y=some (dy,q)/\dy<=d+l
 near:∀x d p y dy q,F x=some (d,p)->x∉Wt->F y=some (dy,q)->y∈Wt->d<=dy
 here:∃p,F v=some (dv,p)
 out:v∉Wt
 least:∀x d p,F x=some (d,p)->x∉Wt->d<=dv
 gone:∀y l,(y,l)∈seen->∃dy q,F y=some (dy,q)/\dy<=dv+l
theorem Dj.take{N:Net}{s:Str}{F:Nu}{Wt:List Str}(h:Dj N s F Wt){v:Str}{dv:Int}{p:Option Str}(hv:v∈Wt)(e:F v=some (dv,p))(hmin:∀y∈Wt,∀dy q,F y=some (dy,q)->dv<=dy):Dm N s F (Wt.erase v) v dv []:=by
 have sub:∀x,x∈Wt.erase v->x∈Wt:=λx hx=>List.mem_of_mem_erase hx
 have out:v∉Wt.erase v:=λz=>(h.nd.mem_erase_iff.mp z).1 rfl
 have back:∀x,x∉Wt.erase v->x=v\/x∉Wt:=λx hx=>by
  by_cases e:x=v
  ·exact .inl e
  ·exact .inr λz=>hx (h.nd.mem_erase_iff.mpr ⟨e,z⟩)
 refine⟨h.start,h.ins,h.wk,λx d q ex=>?_,λx hx=>h.wfound x (sub x hx),h.nd.erase v,λx d q y l ex hx nx he=>?_,λx d q y dy q2 ex hx ey hy=>?_,⟨p,e⟩,out,λx d q ex hx=>?_,λy l hy=>by cases hy⟩
 ·rcases h.prev x d q ex with z | ⟨y,dy,q2,l,e1,e2,e3,e4,e5⟩
  ·exact .inl z
  ·exact .inr ⟨y,dy,q2,l,e1,e2,λz=>e3 (sub y z),e4,e5⟩
 ·rcases back x hx with z | z
  ·exact absurd z nx
  ·exact h.done x d q y l ex z he
 ·rcases back x hx with z | z
  ·subst z
   rw [e] at ex
   cases ex
   exact hmin y (sub y hy) dy q2 ey
  ·exact h.near x d q y dy q2 ex z ey (sub y hy)
 ·rcases back x hx with z | z
  ·subst z
   rw [e] at ex
   cases ex
   exact Int.le_refl _
  ·exact h.near x d q v dv p ex z e hv
theorem Dm.finish{N:Net}{s:Str}{F:Nu}{Wt:List Str}{v:Str}{dv:Int}{seen:List (Str×Int)}(h:Dm N s F Wt v dv seen)(hs:∀y l,Ed N v y l->(y,l)∈seen):Dj N s F Wt:=by
 refine⟨h.start,h.ins,h.wk,h.prev,h.wfound,h.nd,λx d p y l e hx he=>?_,h.near⟩
 by_cases z:x=v
 ·subst z
  obtain⟨p',e'⟩:=h.here
  rw [e'] at e
  cases e
  exact h.gone y l (hs y l he)
 ·exact h.done x d p y l e hx z he
theorem Dm.find{N:Net}(ok:N.Ok){s:Str}{F:Nu}{Wt:List Str}{v:Str}{dv:Int}{seen:List (Str×Int)}(h:Dm N s F Wt v dv seen){y:Str}{l:Int}(he:Ed N v y l)(hy:F y=none):Dm N s (Gx F y (dv+l,some v)) (Wt++[y]) v dv (seen++[(y,l)]):=by
 have hpos:=(he.pos ok).1
 obtain⟨pv,ev⟩:=h.here
 have ne:∀x d p,F x=some (d,p)->x≠y:=λx d p e z=>by rw [z,hy] at e; cases e
 have keep:∀x d p,F x=some (d,p)->Gx F y (dv+l,some v) x=some (d,p):=λx d p e=>by rw [Bl (ne x d p e)]; exact e
 have yW:y∉Wt:=λz=>h.wfound y z hy
 have cases_:∀x d p,Gx F y (dv+l,some v) x=some (d,p)->(x=y/\d=dv+l/\p=some v)\/(x≠y/\F x=some (d,p)):=λx d p e=>by
  by_cases z:x=y
  ·rw [z,Bm] at e; cases e; exact .inl ⟨z,rfl,rfl⟩
  ·rw [Bl z] at e; exact .inr ⟨z,e⟩
 have inW:∀x,x∉Wt++[y]->x∉Wt/\x≠y:=λx hx=>⟨λz=>hx (List.mem_append_left _ z),λz=>hx (List.mem_append_right _ (by rw [z]; exact List.mem_singleton.mpr rfl))⟩
 have vW:v∉Wt++[y]:=λz=>by
  rcases List.mem_append.mp z with z | z
  ·exact h.out z
  ·exact ne v dv pv ev (List.mem_singleton.mp z)
 refine⟨keep _ _ _ h.start,λx hx=>?_,λx d p e=>?_,λx d p e=>?_,λx hx=>?_,?_,λx d p z l2 e hx nx he2=>?_,λx d p z dz q e hx ez hz=>?_,⟨pv,keep _ _ _ ev⟩,vW,λx d p e hx=>?_,λz l2 hz=>?_⟩
 ·by_cases z:x=y
  ·rw [z]; exact he.ins ok
  ·rw [Bl z] at hx; exact h.ins x hx
 ·rcases cases_ x d p e with ⟨rfl,rfl,_⟩ | ⟨_,e⟩
  ·exact .snoc (h.wk v dv pv ev) he
  ·exact h.wk x d p e
 ·rcases cases_ x d p e with ⟨rfl,rfl,rfl⟩ | ⟨_,e⟩
  ·exact .inr ⟨v,dv,pv,l,rfl,keep _ _ _ ev,vW,he,rfl⟩
  ·rcases h.prev x d p e with z | ⟨u,du,q,l2,e1,e2,e3,e4,e5⟩
   ·exact .inl z
   ·refine .inr ⟨u,du,q,l2,e1,keep _ _ _ e2,λz=>?_,e4,e5⟩
    rcases List.mem_append.mp z with z | z
    ·exact e3 z
    ·exact ne u du q e2 (List.mem_singleton.mp z)
 ·rcases List.mem_append.mp hx with hx | hx
  ·have:=h.wfound x hx
   cases e:F x with
   | none=>exact absurd e this
   | some a=>rw [keep x a.1 a.2 e]; intro z; cases z
  ·rw [List.mem_singleton.mp hx,Bm]; intro z; cases z
 ·rw [List.nodup_append]
  exact⟨h.nd,List.nodup_cons.mpr ⟨List.not_mem_nil,List.nodup_nil⟩,λa ha b hb e=>yW (by rw [← List.mem_singleton.mp hb,← e]; exact ha)⟩
 ·obtain⟨w1,w2⟩:=inW x hx
  rcases cases_ x d p e with ⟨z,_⟩ | ⟨_,e⟩
  ·exact absurd z w2
  ·obtain⟨d3,q3,e3,h3⟩:=h.done x d p z l2 e w1 nx he2
   exact⟨d3,q3,keep _ _ _ e3,h3⟩
 ·obtain⟨w1,w2⟩:=inW x hx
  rcases cases_ x d p e with ⟨z,_⟩ | ⟨_,ex⟩
  ·exact absurd z w2
  ·rcases cases_ z dz q ez with ⟨_,e2,_⟩ | ⟨nz,ez⟩
   ·have:=h.least x d p ex w1
    omega
   ·rcases List.mem_append.mp hz with hz | hz
    ·exact h.near x d p z dz q ex w1 ez hz
    ·exact absurd (List.mem_singleton.mp hz) nz
 ·obtain⟨w1,w2⟩:=inW x hx
  rcases cases_ x d p e with ⟨z,_⟩ | ⟨_,e⟩
  ·exact absurd z w2
  ·exact h.least x d p e w1
 ·rcases List.mem_append.mp hz with hz | hz
  ·obtain⟨d3,q3,e3,h3⟩:=h.gone z l2 hz
   exact⟨d3,q3,keep _ _ _ e3,h3⟩
  ·cases List.mem_singleton.mp hz
   exact⟨_,_,Bm,Int.le_refl _⟩
theorem Dm.nearer{N:Net}(ok:N.Ok){s:Str}{F:Nu}{Wt:List Str}{v:Str}{dv:Int}{seen:List (Str×Int)}(h:Dm N s F Wt v dv seen){y:Str}{l dy:Int}{qy:Option Str}(he:Ed N v y l)(hy:F y=some (dy,qy))(hlt:dv+l<dy):Dm N s (Gx F y (dv+l,some v)) Wt v dv (seen++[(y,l)]):=by
 have hpos:=(he.pos ok).1
 obtain⟨pv,ev⟩:=h.here
 have yW:y∈Wt:=by
  by_cases z:y∈Wt
  ·exact z
  ·have:=h.least y dy qy hy z
   omega
 have vy:v≠y:=λz=>h.out (by rw [z]; exact yW)
 have keep:∀x,x∉Wt->Gx F y (dv+l,some v) x=F x:=λx hx=>Bl λz=>hx (by rw [z]; exact yW)
 have cases_:∀x d p,Gx F y (dv+l,some v) x=some (d,p)->(x=y/\d=dv+l/\p=some v)\/(x≠y/\F x=some (d,p)):=λx d p e=>by
  by_cases z:x=y
  ·rw [z,Bm] at e; cases e; exact .inl ⟨z,rfl,rfl⟩
  ·rw [Bl z] at e; exact .inr ⟨z,e⟩
 have less:∀x d p,F x=some (d,p)->∃d' q,Gx F y (dv+l,some v) x=some (d',q)/\d'<=d:=λx d p e=>by
  by_cases z:x=y
  ·subst z
   rw [hy] at e
   cases e
   exact⟨_,_,Bm,by omega⟩
  ·exact⟨d,p,by rw [Bl z]; exact e,Int.le_refl _⟩
 have sy:s≠y:=λz=>by
  have:=h.start
  rw [z,hy] at this
  cases this
  have:=(h.wk v dv pv ev).pos ok
  omega
 refine⟨by rw [Bl sy]; exact h.start,λx hx=>?_,λx d p e=>?_,λx d p e=>?_,λx hx=>?_,h.nd,λx d p z l2 e hx nx he2=>?_,λx d p z dz q e hx ez hz=>?_,⟨pv,by rw [Bl vy]; exact ev⟩,h.out,λx d p e hx=>?_,λz l2 hz=>?_⟩
 ·by_cases z:x=y
  ·rw [z]; exact he.ins ok
  ·rw [Bl z] at hx; exact h.ins x hx
 ·rcases cases_ x d p e with ⟨rfl,rfl,_⟩ | ⟨_,e⟩
  ·exact .snoc (h.wk v dv pv ev) he
  ·exact h.wk x d p e
 ·rcases cases_ x d p e with ⟨rfl,rfl,rfl⟩ | ⟨_,e⟩
  ·exact .inr ⟨v,dv,pv,l,rfl,by rw [Bl vy]; exact ev,h.out,he,rfl⟩
  ·rcases h.prev x d p e with z | ⟨u,du,q,l2,e1,e2,e3,e4,e5⟩
   ·exact .inl z
   ·exact .inr ⟨u,du,q,l2,e1,by rw [keep u e3]; exact e2,e3,e4,e5⟩
 ·by_cases z:x=y
  ·rw [z,Bm]; intro w; cases w
  ·rw [Bl z]; exact h.wfound x hx
 ·rw [keep x hx] at e
  obtain⟨d3,q3,e3,h3⟩:=h.done x d p z l2 e hx nx he2
  obtain⟨d4,q4,e4,h4⟩:=less z d3 q3 e3
  exact⟨d4,q4,e4,by omega⟩
 ·rw [keep x hx] at e
  rcases cases_ z dz q ez with ⟨rfl,rfl,_⟩ | ⟨nz,ez⟩
  ·have:=h.least x d p e hx
   omega
  ·exact h.near x d p z dz q e hx ez hz
 ·rw [keep x hx] at e
  exact h.least x d p e hx
 ·rcases List.mem_append.mp hz with hz | hz
  ·obtain⟨d3,q3,e3,h3⟩:=h.gone z l2 hz
   obtain⟨d4,q4,e4,h4⟩:=less z d3 q3 e3
   exact⟨d4,q4,e4,by omega⟩
  ·cases List.mem_singleton.mp hz
   exact⟨_,_,Bm,Int.le_refl _⟩
theorem Dm.skip{N:Net}{s:Str}{F:Nu}{Wt:List Str}{v:Str}{dv:Int}{seen:List (Str×Int)}(h:Dm N s F Wt v dv seen){y:Str}{l dy:Int}{qy:Option Str}(hy:F y=some (dy,qy))(hle:dy<=dv+l):Dm N s F Wt v dv (seen++[(y,l)]):=by
 refine⟨h.start,h.ins,h.wk,h.prev,h.wfound,h.nd,h.done,h.near,h.here,h.out,h.least,λz l2 hz=>?_⟩
 rcases List.mem_append.mp hz with hz | hz
 ·exact h.gone z l2 hz
 ·cases List.mem_singleton.mp hz
  exact⟨_,_,hy,hle⟩
structure Told (N:Net) (s:Str) (F:Nu):Prop where
 start:F s=some (0,none)
 ins:∀x,F x≠none->x∈N.ps
 least:∀x d p,F x=some (d,p)->Least N s x d
 all:∀x d,Wk N s x d->F x≠none
 prev:∀x d p,F x=some (d,p)->(p=none/\x=s)\/∃y dy q l,p=some y/\F y=some (dy,q)/\Ed N y x l/\d=dy+l
theorem Dj.told{N:Net}{s:Str}{F:Nu}(h:Dj N s F []):Told N s F:=by
 have cl:=GV (N:=N) (s:=s) (F:=λx=>(F x).map (·.1)) ⟨0,by rw [h.start]; rfl,Int.le_refl _⟩ (λx d e=>by
  obtain⟨⟨d',p⟩,e1,e2⟩:=Option.map_eq_some_iff.mp e
  cases e2
  exact h.wk x _ p e1) (λx d y l e he=>by
  obtain⟨⟨d',p⟩,e1,e2⟩:=Option.map_eq_some_iff.mp e
  cases e2
  obtain⟨dy,q,e3,h3⟩:=h.done x _ p y l e1 List.not_mem_nil he
  exact⟨dy,by rw [e3]; rfl,h3⟩)
 refine⟨h.start,h.ins,λx d p e=>cl.1 x d (by rw [e]; rfl),λx d hw e=>cl.2 x d hw (by rw [e]; rfl),λx d p e=>?_⟩
 rcases h.prev x d p e with z | ⟨y,dy,q,l,e1,e2,_,e4,e5⟩
 ·exact .inl z
 ·exact .inr ⟨y,dy,q,l,e1,e2,e4,e5⟩
abbrev Kn:=Str->Option Int
structure Bf (N:Net) (s:Str) (c:Nat) (K:Kn):Prop where
 start:∃d,K s=some d/\d<=0
 ins:∀x,K x≠none->x∈N.ps
 wk:∀x d,K x=some d->Wk N s x d
 top:∀x d,K x=some d->d<=1000000*(c:Int)
def big:Nat:=27000001
def wt(K:Kn)(x:Str):Nat:=match K x with
 | some d=>d.toNat
 | none=>big
def Q_(ps:List Str)(K:Kn):Nat:=(ps.map (wt K)).sum
theorem RS{f g:Str->Nat}:∀{ps:List Str},(∀x∈ps,f x<=g x)->(ps.map f).sum<=(ps.map g).sum
 | [],_=>Nat.le_refl _
 | x::ps,h=>by
  have h1:=h x List.mem_cons_self
  have h2:=RS λy hy=>h y (List.mem_cons_of_mem _ hy)
  rw [List.map_cons,List.map_cons,List.sum_cons,List.sum_cons]
  omega
theorem RR{f g:Str->Nat}:∀{ps:List Str},(∀x∈ps,f x<=g x)->(∃x∈ps,f x<g x)->(ps.map f).sum<(ps.map g).sum
 | [],_,⟨x,hx,_⟩=>by cases hx
 | x::ps,h,⟨y,hy,hl⟩=>by
  have h1:=h x List.mem_cons_self
  rw [List.map_cons,List.map_cons,List.sum_cons,List.sum_cons]
  rcases List.mem_cons.mp hy with rfl | hy
  ·have h2:=RS λy hy=>h y (List.mem_cons_of_mem _ hy)
   omega
  ·have h2:=RR (λy hy=>h y (List.mem_cons_of_mem _ hy)) ⟨y,hy,hl⟩
   omega
theorem Bf.put {N : Net} (ok : N.Ok) {s : Str} {c c' : Nat} {K : Kn} (h : Bf N s c K) (hc : c' ≤ 26) (hcc : c ≤ c') {x y : Str} {d l : Int} (hx : K x = some d) (he : Ed N x y l) (hn : K y = none → c' = c + 1) (hl : ∀ d', K y = some d' → d + l < d') : Bf N s c' (Gx K y (d + l)) ∧ Q_ N.ps (Gx K y (d + l)) < Q_ N.ps K := by
  have hp := he.pos ok
  have hd := (h.wk x d hx).pos ok
  have hw : Wk N s y (d + l) := .snoc (h.wk x d hx) he
  have td := h.top x d hx
  have ht : d + l ≤ 1000000 * (c' : Int) := by
    cases e : K y with
    | none => rw [hn e]; have : ((c + 1 : Nat) : Int) = (c : Int) + 1 := by omega
              rw [this, Int.mul_add]; omega
    | some d' =>
      have h1 := hl d' e
      have h2 := h.top y d' e
      have : (1000000 : Int) * (c : Int) ≤ 1000000 * (c' : Int) := Int.mul_le_mul_of_nonneg_left (by omega) (by omega)
      omega
  refine ⟨⟨?_, λz hz => ?_, λz dz e => ?_, λz dz e => ?_⟩, RR (λz _ => ?_) ⟨y, he.ins ok, ?_⟩⟩
  · obtain ⟨d0, e0, h0⟩ := h.start
    by_cases z : s = y
    · have := hl d0 (by rw [← z]; exact e0)
      omega
    · exact ⟨d0, by rw [Bl z]; exact e0, h0⟩
  · by_cases e : z = y
    · rw [e]; exact he.ins ok
    · rw [Bl e] at hz; exact h.ins z hz
  · by_cases w : z = y
    · rw [w, Bm] at e; cases e; rw [w]; exact hw
    · rw [Bl w] at e; exact h.wk z dz e
  · by_cases w : z = y
    · rw [w, Bm] at e; cases e; exact ht
    · rw [Bl w] at e
      have h2 := h.top z dz e
      have : (1000000 : Int) * (c : Int) ≤ 1000000 * (c' : Int) := Int.mul_le_mul_of_nonneg_left (by omega) (by omega)
      omega
  · unfold wt
    by_cases w : z = y
    · rw [w, Bm]
      cases e : K y with
      | none => show (d + l).toNat ≤ big; unfold big; omega
      | some d' => show (d + l).toNat ≤ d'.toNat; have := hl d' e; omega
    · rw [Bl w]
      exact Nat.le_refl _
  · unfold wt
    rw [Bm]
    cases e : K y with
    | none => show (d + l).toNat < big; unfold big; omega
    | some d' => show (d + l).toNat < d'.toNat; have := hl d' e; omega
theorem Bf.init{N:Net}{s:Str}(hs:s∈N.ps):Bf N s 1 (λx=>if x=s then some 0 else none):=by
 have iff:∀x d,(if x=s then some (0:Int) else none)=some d->x=s/\d=0:=λx d e=>by
  by_cases h:x=s
  ·rw [if_pos h] at e; cases e; exact⟨h,rfl⟩
  ·rw [if_neg h] at e; cases e
 refine⟨⟨0,if_pos rfl,Int.le_refl _⟩,λx e=>?_,λx d e=>?_,λx d e=>?_⟩
 ·by_cases h:x=s
  ·rw [h]; exact hs
  ·exact absurd (if_neg h) e
 ·obtain⟨rfl,rfl⟩:=iff x d e
  exact .nil
 ·obtain⟨rfl,rfl⟩:=iff x d e
  decide
def IQ(K:Kn)(e:Str×Str×Int):Prop:=∀d,K e.1=some d->∃d',K e.2.1=some d'/\d'<=d+e.2.2
structure LTold (N:Net) (s:Str) (K:Kn):Prop where
 ins:∀x,K x≠none->x∈N.ps
 least:∀x d,K x=some d->Least N s x d
 all:∀x d,Wk N s x d->K x≠none
 top:∀x d,K x=some d->d<=30000000
theorem Bf.told{N:Net}(ok:N.Ok){s:Str}{c:Nat}{K:Kn}(h:Bf N s c K)(hc:c<=26)(ht:∀t∈N.ts,IQ K (t.a,t.b,t.len)/\IQ K (t.b,t.a,t.len)):LTold N s K:=by
 have cl:=GV h.start h.wk (λx d y l e he=>by
  obtain⟨t,hm,e1,h2⟩:=he.tie ok
  subst e1
  rcases h2 with ⟨rfl,rfl⟩ | ⟨rfl,rfl⟩
  ·exact(ht t hm).1 d e
  ·exact(ht t hm).2 d e)
 exact⟨h.ins,cl.1,cl.2,λx d e=>by have:=h.top x d e; omega⟩
def walk(N:Net):List Str->Int->Prop
 | [],_=>False
 | [_],d=>d=0
 | x::y::r,d=>∃l e,Ed N x y l/\walk N (y::r) e/\d=l+e
theorem P2{N:Net}{x y:Str}{r:List Str}{d l:Int}(he:Ed N x y l)(h:walk N (y::r) d):walk N (x::y::r) (l+d):=⟨l,d,he,h,rfl⟩
def YW(N:Net)(a b:Str):Option Int->Prop
 | some d=>Least N a b d
 | none=>∀d,¬Wk N a b d
theorem Told.far{N:Net}{s:Str}{F:Nu}(h:Told N s F)(x:Str):YW N s x ((F x).map (·.1)):=by
 cases e:F x with
 | none=>exact λd hw=>h.all x d hw e
 | some a=>exact h.least x a.1 a.2 e
theorem LTold.far{N:Net}{s:Str}{K:Kn}(h:LTold N s K)(x:Str):YW N s x (K x):=by
 cases e:K x with
 | none=>exact λd hw=>h.all x d hw e
 | some d=>exact h.least x d e
def Way(N:Net)(a b:Str)(o:Option (List Str)):Prop:=match o with
 | some w=>∃d r,w=a::r/\w.getLast?=some b/\walk N w d/\Least N a b d/\w.length<=30/\∀x∈w,x∈N.ps
 | none=>∀d,¬Wk N a b d
def Ww:Option Str->D
 | some y=>.str y
 | none=>.non
def Xy:Option Int->D
 | some y=>.int y
 | none=>.non
def Fi:Option (List Str)->D
 | some w=>.tup (w.map .str)
 | none=>.non
def JO(p:Int×Option Str):D:=.tup [.int p.1,Ww p.2]
def okN(N:Net):Prop:=N.Ok/\N.ps.length<=25/\N.ts.length<=60
def Nn:W2:=λss n P=>∃(Wt:List Str) (ks:List Key) (ds:List D) (F:Nu),ss=[.br (.lst (Wt.map .str)),.br (.dic ks ds)]/\Dmap ks ds JO F/\(∀x∈Wt,F x≠none)/\Wt≠[]/\Wt.length<=100 /\
 ∀v∈Wt,(∀y∈Wt,∀dv pv dy py,F v=some (dv,pv)->F y=some (dy,py)->dv<=dy)->P (.str v) n
def Jn:W2:=λss n P=>∃(N:Net) (s:Str),ss=[.sh (enc N),.sh (.str s)]/\okN N/\s∈N.ps/\∀(ks:List Key) (ds:List D) (F:Nu),Dmap ks ds JO F->Told N s F->P (.dic ks ds) n
def Sz:W2:=λss n P=>∃(N:Net) (a b:Str),ss=[.sh (enc N),.sh (.str a),.sh (.str b)]/\okN N/\a∈N.ps/\b∈N.ps/\∀o,Way N a b o->P (Fi o) n
def GY:Al:=(As (AS A5 (DQ UY (AF (BY [some 1,none] (BL (A7 0)) (AX 1) CM (Bt (AF (AS A5 (AS Ct (A7 0) (AA 1)) (wC (D.int 0))) (AF (AA 1) AZ)))) AZ)) (wC (D.int 1))))
def Ga:Al:=(Ae (A0 2 (Aa HI (AD (AK (AA 0)) Ac)))
 (Ae (EX 3 (Ny (AA 1) (Bt (AF (wC (D.int 0)) (AF (wC D.non) AZ)))))
 (Ae (EX 4 (Ff (AF (AA 1) AZ)))
 (Ae (IJ (Uo (A7 4)) (Ae (A0 5 (Aa Nn (AD (Ei (A7 4)) (AD (Ei (A7 3)) Ac))))
 (Ae (P4 4 "list" XA (AF (AA 5) AZ))
 (Ek (wItems (AS Ct (AA 2) (AA 5))) (D6 2 (Ao (AX 6) (Ao (AX 7) CS))) (Ae (A0 8 (AS A8 (AS A5 (AS Ct (A7 3) (AA 5)) (wC (D.int 0))) (AA 7)))
 (BD (AO (AS (JN true) (AA 6) (A7 3))) (Ae (P4 4 "list" Hr (AF (AA 6) AZ))
 (Fs 3 (AA 6) (Bt (AF (AA 8) (AF (AA 5) AZ))))) (BD (AO (AS Du (AA 8) (AS A5 (AS Ct (A7 3) (AA 6)) (wC (D.int 0))))) (Fs 3 (AA 6) (Bt (AF (AA 8) (AF (AA 5) AZ)))) Au)))))))
 (MH 3)))))
def Nd:Al:=(Ae (A0 3 (Aa Jn (AD (AK (AA 0)) (AD (AK (AA 1)) Ac))))
 (Ae (BD (AO (AS (JN true) (AA 2) (AA 3))) (As (wC D.non)) Au)
 (Ae (EX 4 (Ff AZ))
 (Ae (A0 5 (AA 2))
 (Ae (IJ (AO (AS (Ef true) (AA 5) (wC D.non))) (Ae (P4 4 "list" Hr (AF (AA 5) AZ))
 (A0 5 (AS A5 (AS Ct (AA 3) (AA 5)) (wC (D.int 1))))))
 (As (Oo (A7 4))))))))
theorem YD{i j:Int}{x y:Str}(h:Bh [.inl j,.inr y] [.inl i,.inr x]=false):i<=j:=by
 have h:(if (Sum.inl j:Key)=.inl i then (if (Sum.inr y:Key)=.inr x then false else decide (y.cps.toList<x.cps.toList)) else decide (j<i))=false:=h
 by_cases e:j=i
 ·omega
 ·rw [if_neg (λz=>e (Sum.inl.inj z)),decide_eq_false_iff_not] at h
  omega
section
variable {ss:List Slot}{n:Nat}{Pd:D->Nat->Prop}
theorem Jt(h:Nn ss n Pd):GY (EE Pd) n (ss++List.replicate 0 .no):=by
 obtain⟨Wt,ks,ds,F,rfl,M,hF,hne,hl,p⟩:=h
 unfold GY
 refine⟨by show (Wt.map D.str).length<=10000000; rw [List.length_map]; omega,?_⟩
 have dist:∀x∈Wt,∃d q,F x=some (d,q):=λx hx=>by
  cases e:F x with
  | none=>exact absurd e (hF x hx)
  | some a=>exact⟨a.1,a.2,rfl⟩
 refine BB (λd=>match d with | .str x=>.tup [.int ((F x).getD (0,none)).1,.str x] | d=>d) (λρ=>∃s,ρ=[.br (.dic ks ds),s]) _ _ _ _ ?_ ⟨_,rfl⟩ ?_
 ·rintro d hd ρ m nx ⟨s,rfl⟩ hnx
  obtain⟨x,hx,rfl⟩:=List.mem_map.mp hd
  obtain⟨dx,q,ex⟩:=dist x hx
  refine⟨ks,ds,_,JO (dx,q),rfl,rfl,by rw [M.at_,ex]; rfl,_,AL (j:=0) rfl,(by decide:2<=sizeLine),?_⟩
  have this:nx (.tup [.int ((F x).getD (0,none)).1,.str x]) m [.br (.dic ks ds),.sh (.str x)]:=hnx [.br (.dic ks ds),.sh (.str x)] ⟨_,rfl⟩
  rw [show ((F x).getD (0,none)).1=dx by rw [ex]; rfl] at this
  exact this
 rw [List.nil_append,List.map_map]
 refine⟨_,rfl,?_,⟨λx hx=>?_,λx hx y hy ka kb ea eb=>?_⟩,λx hx hmin=>?_⟩
 ·rw [List.length_map]
  cases Wt with
  | nil=>exact absurd rfl hne
  | cons a r=>exact Nat.succ_pos _
 ·obtain⟨z,_,rfl⟩:=List.mem_map.mp hx
  exact⟨_,rfl,List.cons_ne_nil _ _⟩
 ·obtain⟨z,_,rfl⟩:=List.mem_map.mp hx
  obtain⟨u,_,rfl⟩:=List.mem_map.mp hy
  cases (show some [Sum.inl _,Sum.inr _]=some ka from ea)
  cases (show some [Sum.inl _,Sum.inr _]=some kb from eb)
  rfl
 ·obtain⟨v,hv,rfl⟩:=List.mem_map.mp hx
  refine⟨_,AL (j:=1) rfl,p v hv λy hy dv pv dy py ev ey=>?_⟩
  have:=YD (hmin _ (List.mem_map.mpr ⟨y,hy,rfl⟩) _ _ rfl rfl)
  rw [ev,ey] at this
  exact this
theorem BN(x:Str):keyOf (.str x)=some (.inr x):=rfl
theorem Qc{N:Net}(ok:N.Ok){xs:List Str}(h:∀x∈xs,x∈N.ps):EH (.lst (xs.map .str)):=by
 have it:∀d∈xs.map D.str,item d:=λd hd=>by
  obtain⟨x,hx,rfl⟩:=List.mem_map.mp hd
  exact C8 (ok.names x (h x hx))
 exact Ka it
theorem Nv{N:Net}{Wt:List Str}(hn:Wt.Nodup)(h:∀x∈Wt,x∈N.ps):Wt.length<=N.ps.length:=by
 have:∀(xs ps:List Str),xs.Nodup->(∀x∈xs,x∈ps)->xs.length<=ps.length:=by
  intro xs
  induction xs with
  | nil=>intro ps _ _; exact Nat.zero_le _
  | cons x xs ih =>
   intro ps hn hm
   have hx:=hm x List.mem_cons_self
   have hn:=List.nodup_cons.mp hn
   have h1:=ih (ps.erase x) hn.2 λj hj=>(List.mem_erase_of_ne λe=>hn.1 (by rw [← e]; exact hj)).mpr (hm j (List.mem_cons_of_mem _ hj))
   rw [List.length_erase_of_mem hx] at h1
   have:=List.length_pos_of_mem hx
   rw [List.length_cons]
   omega
 exact this Wt N.ps hn h
theorem Io(ks:List Key)(k:Key):(DN ks k).length=if JI ks k=true then ks.length else ks.length+1:=by
 unfold DN
 split
 ·rfl
 ·rw [List.length_append]; rfl
theorem Dmap.has{α:Type}{ks:List Key}{ds:List D}{enc:α->D}{F:Str->Option α}(h:Dmap ks ds enc F){x:Str}:(F x=none->JI ks (.inr x)=false)/\(F x≠none->JI ks (.inr x)=true):=by
 constructor
 ·intro e
  cases c:JI ks (.inr x) with
  | false=>rfl
  | true=>exact absurd e ((h.mem x).mp (hasK_iff.mp c))
 ·intro e
  exact hasK_iff.mpr ((h.mem x).mpr e)
theorem P_{N:Net}{x:Str}(hx:x∈N.ps):Bg (N.ps.map .inr) (N.ps.map (Q9 N.ts)) (.inr x)=some (Q9 N.ts x):=by
 have go:∀ps:List Str,x∈ps->Bg (ps.map .inr) (ps.map (Q9 N.ts)) (.inr x)=some (Q9 N.ts x):=by
  intro ps
  induction ps with
  | nil=>intro h; cases h
  | cons q ps ih =>
   intro h
   show (if (Sum.inr q:Key)=.inr x then some (Q9 N.ts q) else Bg (ps.map .inr) (ps.map (Q9 N.ts)) (.inr x))=_
   by_cases e:q=x
   ·rw [if_pos (by rw [e]),e]
   ·rw [if_neg (λz=>e (Sum.inr.inj z))]
    exact ih ((List.mem_cons.mp h).resolve_left λz=>e z.symm)
 exact go N.ps hx
theorem S7(l:List (Str×Int)):EA ((l.map λx=>(.inr x.1:Key)).map WF) (l.map λx=>.int x.2)=l.map Xg:=by
 induction l with
 | nil=>rfl
 | cons p l ih =>
  show D.tup [.str p.1,.int p.2]::EA _ _=Xg p::l.map Xg
  rw [← ih]
  rfl
theorem Jv(h:Jn ss n Pd):Ga (EF Pd) n (ss++List.replicate 7 .no):=by
 obtain⟨N,s,rfl,⟨ok,lp,lt⟩,hs,p⟩:=h
 have szl:=PySem.sizeLine_eq
 unfold Ga
 refine⟨N,rfl,ok,by omega,by omega,?_⟩
 refine⟨(by decide:2<=sizeLine),_,BN s,(by decide:1<=sizeLine),?_⟩
 refine Gr (λm n' ρ=>n'=n/\∃(Wt:List Str) (ks:List Key) (ds:List D) (F:Nu) (s5 s6 s7 s8:Slot),ρ=[.sh (enc N),.sh (.str s),.sh (En N),.ow (.dic ks ds),.ow (.lst (Wt.map .str)),s5,s6,s7,s8]/\Dmap ks ds JO F/\Dj N s F Wt/\m+ks.length=N.ps.length+Wt.length) (N.ps.length) ⟨rfl,[s],[.inr s],[JO (0,none)],_,_,_,_,_,rfl,Dmap.one,Dj.init hs,rfl⟩ ?_ ?_
 ·rintro m n' ρ N' ⟨rfl,Wt,ks,ds,F,s5,s6,s7,s8,rfl,M,J,hm⟩ hN
  cases Wt with
  | nil =>
   exact⟨false,rfl,_,rfl,p ks ds F M J.told⟩
  | cons w0 Wr =>
   refine⟨true,rfl,?_⟩
   have insW:∀x∈w0::Wr,x∈N.ps:=λx hx=>J.ins x (J.wfound x hx)
   have wl:=Nv J.nd insW
   refine⟨w0::Wr,ks,ds,F,rfl,M,J.wfound,List.cons_ne_nil _ _,by omega,λv hv hmin=>?_⟩
   obtain⟨dv,pv,ev⟩:∃d q,F v=some (d,q):=by
    cases e:F v with
    | none=>exact absurd e (J.wfound v hv)
    | some a=>exact⟨a.1,a.2,rfl⟩
   have D0:=J.take hv ev λy hy dy q ey=>hmin y hy dv pv dy q ev ey
   have hvp:=insW v hv
   have hidx:(w0::Wr).idxOf v<(w0::Wr).length:=List.idxOf_lt_length_of_mem hv
   have hget:(w0::Wr)[(w0::Wr).idxOf v]?=some v:=by rw [List.getElem?_eq_getElem hidx,List.getElem_idxOf]
   have ee:((w0::Wr).map D.str).eraseIdx ((w0::Wr).idxOf v)=((w0::Wr).erase v).map D.str:=by
    rw [List.erase_eq_eraseIdx_of_idxOf (rfl:(w0::Wr).idxOf v=_),HD]
   refine⟨_,rfl,rfl,_,_,(w0::Wr).idxOf v,rfl,rfl,Qc ok insW,GI (ok.names v hvp),⟨.str v,by rw [List.getElem?_map,hget]; rfl,by show (v==v)=true; exact beq_self_eq_true v⟩,λk x hk hx=>?_,?_⟩
   ·rw [List.getElem?_map] at hx
    obtain⟨t,ht,rfl⟩:=Option.map_eq_some_iff.mp hx
    have hkl:k<(w0::Wr).length:=(List.getElem?_eq_some_iff.mp ht).1
    have hh:=List.not_of_lt_findIdx (p:=λy=>y==v) (xs:=w0::Wr) hk
    have e2:(w0::Wr)[k]=t:=(List.getElem?_eq_some_iff.mp ht).2
    have h3:((w0::Wr)[k]==v)=false:=hh
    rw [e2] at h3
    exact h3
   rw [ee]
   refine⟨_,_,_,Q9 N.ts v,rfl,BN v,P_ hvp,_,_,rfl,λk hk=>?_,?_⟩
   ·obtain⟨q,hq,rfl⟩:=List.mem_map.mp hk
    have:=(ok.names _ (Lm ok hq).1).2.1
    show q.1.length<=sizeLine
    omega
   rw [S7]
   have el:=List.length_erase_of_mem hv
   have inner:∀(rest seen:List (Str×Int)) (Wt:List Str) (ks:List Key) (ds:List D) (F:Nu) (s6 s7 s8:Slot),seen++rest=Dt N.ts v->Dmap ks ds JO F->Dm N s F Wt v dv seen->m+ks.length=N.ps.length+Wt.length+1 ->
     Bj (D6 2 (Ao (AX 6) (Ao (AX 7) CS))) (Ae (A0 8 (AS A8 (AS A5 (AS Ct (A7 3) (AA 5)) (wC (D.int 0))) (AA 7)))
 (BD (AO (AS (JN true) (AA 6) (A7 3))) (Ae (P4 4 "list" Hr (AF (AA 6) AZ))
 (Fs 3 (AA 6) (Bt (AF (AA 8) (AF (AA 5) AZ))))) (BD (AO (AS Du (AA 8) (AS A5 (AS Ct (A7 3) (AA 6)) (wC (D.int 0))))) (Fs 3 (AA 6) (Bt (AF (AA 8) (AF (AA 5) AZ)))) Au))) { EF Pd with nx:=N',ct:=N',bk:=MH 3 (EF Pd) } (rest.map Xg) n' [.sh (enc N),.sh (.str s),.sh (En N),.ow (.dic ks ds),.ow (.lst (Wt.map .str)),.sh (.str v),s6,s7,s8]:=by
    intro rest
    induction rest with
    | nil =>
     intro seen Wt ks ds F s6 s7 s8 e M D0 hm
     rw [List.append_nil] at e
     exact hN (m - 1) n' _ (by have:=M.le D0.ins; omega) ⟨rfl,Wt,ks,ds,F,_,_,_,_,rfl,M,D0.finish λy l hy=>by rw [e]; exact hy,by have:=M.le D0.ins; omega⟩
    | cons q rest ih =>
     intro seen Wt ks ds F s6 s7 s8 e M D0 hm
     obtain⟨y,l⟩:=q
     have he:Ed N v y l:=by show (y,l)∈Dt N.ts v; rw [← e]; exact List.mem_append_right _ List.mem_cons_self
     have e':(seen++[(y,l)])++rest=Dt N.ts v:=by rw [List.append_assoc]; exact e
     obtain⟨pv,ev⟩:=D0.here
     have kl:=M.le D0.ins
     have hyp:=he.ins ok
     have insW:∀x∈Wt,x∈N.ps:=λx hx=>D0.ins x (D0.wfound x hx)
     have wl:=Nv D0.nd insW
     refine⟨rfl,rfl,?_⟩
     refine⟨ks,ds,_,JO (dv,pv),rfl,BN v,by rw [M.at_,ev]; rfl,_,AL (j:=0) rfl,?_⟩
     refine⟨ks,ds,_,rfl,BN y,?_⟩
     show if (!(Bg ks ds (.inr y)).isSome)=true then _ else _
     cases ey:F y with
     | none =>
      have hno:=(M.has (x:=y)).1 ey
      rw [M.at_,ey]
      refine B6 ⟨_,rfl,rfl,_,_,rfl,rfl,by rw [List.length_map]; omega,?_⟩
      refine⟨ks,ds,rfl,(by decide:2<=sizeLine),_,BN y,by omega,?_⟩
      have:=ih (seen++[(y,l)]) (Wt++[y]) (DN ks (.inr y)) (Dd ks ds (.inr y) (JO (dv+l,some v))) _ (.sh (.str y)) (.sh (.int l)) (.sh (.int (dv+l))) e' (M.put y (dv+l,some v)) (D0.find ok he ey) (by rw [Io,if_neg (by rw [hno]; decide),List.length_append,List.length_singleton]; omega)
      rw [List.map_append] at this
      exact this
     | some a =>
      obtain⟨dy,qy⟩:=a
      have hyes:=(M.has (x:=y)).2 (by rw [ey]; intro z; cases z)
      rw [M.at_,ey]
      refine Bk ⟨ks,ds,_,JO (dy,qy),rfl,BN y,by rw [M.at_,ey]; rfl,_,AL (j:=0) rfl,?_⟩
      show if decide (dv+l<dy)=true then _ else _
      by_cases c:dv+l<dy
      ·rw [decide_eq_true c]
       refine B6 ⟨ks,ds,rfl,(by decide:2<=sizeLine),_,BN y,by omega,?_⟩
       exact ih (seen++[(y,l)]) Wt (DN ks (.inr y)) (Dd ks ds (.inr y) (JO (dv+l,some v))) _ (.sh (.str y)) (.sh (.int l)) (.sh (.int (dv+l))) e' (M.put y (dv+l,some v)) (D0.nearer ok he ey c) (by rw [Io,if_pos hyes]; omega)
      ·rw [decide_eq_false c]
       exact Bk (ih (seen++[(y,l)]) Wt ks ds F (.sh (.str y)) (.sh (.int l)) (.sh (.int (dv+l))) e' M (D0.skip ey (by omega)) hm)
   exact inner (Dt N.ts v) [] ((w0::Wr).erase v) ks ds F _ _ _ rfl M D0 (by have:=List.length_pos_of_mem hv; omega)
 ·rintro n' ρ P Q hPQ h
  unfold Uo A7 at h ⊢
  split at h
  all_goals first
   | exact h.elim
   | (obtain⟨c,hc,h⟩:=h; exact⟨c,hc,hPQ _ _ h⟩)
end
structure WInv (N:Net) (F:Nu) (b:Str) (db:Int) (acc:List Str) (pl:Option Str):Prop where
 st:(acc=[]/\pl=some b)\/∃z r dz,acc.reverse=z::r/\F z=some (dz,pl)/\walk N acc.reverse (db - dz)/\acc.reverse.getLast?=some b
 nd:acc.Nodup
 ins:∀x∈acc,x∈N.ps
 less:∀y dy q,pl=some y->F y=some (dy,q)->∀x∈acc,∃dx qx,F x=some (dx,qx)/\dy<dx
 fnd:∀y,pl=some y->F y≠none
def wm(F:Nu):Option Str->Nat
 | none=>0
 | some y=>((F y).getD (0,none)).1.toNat+1
theorem WInv.step{N:Net}(ok:N.Ok){a:Str}{F:Nu}(T:Told N a F){b:Str}{db:Int}{qb:Option Str}(eb:F b=some (db,qb)){acc:List Str}{y:Str}{dy:Int}{qy:Option Str}(h:WInv N F b db acc (some y))(ey:F y=some (dy,qy)):WInv N F b db (acc++[y]) qy/\wm F qy<wm F (some y):=by
 have hy0:=(T.least y dy qy ey).1.pos ok
 have nx:∀w dw q,qy=some w->F w=some (dw,q)->dw<dy:=λw dw q e ew=>by
  rcases T.prev y dy qy ey with ⟨z,_⟩ | ⟨w',dw',q',l,e1,e2,e3,e4⟩
  ·rw [e] at z; cases z
  ·rw [e] at e1
   cases e1
   rw [ew] at e2
   cases e2
   have:=(e3.pos ok).1
   omega
 have hf:∀w,qy=some w->F w≠none:=λw e=>by
  rcases T.prev y dy qy ey with ⟨z,_⟩ | ⟨w',dw',q',l,e1,e2,_⟩
  ·rw [e] at z; cases z
  ·rw [e] at e1
   cases e1
   rw [e2]
   intro z; cases z
 refine⟨⟨.inr ?_,?_,λx hx=>?_,λw dw q e ew x hx=>?_,hf⟩,?_⟩
 ·rw [List.reverse_append,List.reverse_singleton,List.singleton_append]
  rcases h.st with ⟨rfl,e⟩ | ⟨z,r,dz,e1,e2,e3,e4⟩
  ·cases e
   rw [eb] at ey
   cases ey
   exact⟨_,_,_,rfl,eb,(by show db - db=0; omega),rfl⟩
  ·refine⟨y,acc.reverse,dy,rfl,ey,?_,?_⟩
   ·rw [e1] at e3 ⊢
    rcases T.prev z dz (some y) e2 with ⟨w,_⟩ | ⟨w',dw',q',l,k1,k2,k3,k4⟩
    ·cases w
    ·cases k1
     rw [ey] at k2
     cases k2
     have:=P2 k3 e3
     rw [show l+(db - dz)=db - dy by omega] at this
     exact this
   ·rw [e1] at e4 ⊢
    exact e4
 ·rw [List.nodup_append]
  refine⟨h.nd,List.nodup_cons.mpr ⟨List.not_mem_nil,List.nodup_nil⟩,λx hx z hz e=>?_⟩
  rw [List.mem_singleton.mp hz] at e
  obtain⟨dx,qx,ex,hlt⟩:=h.less y dy qy rfl ey x hx
  rw [e,ey] at ex
  cases ex
  omega
 ·rcases List.mem_append.mp hx with hx | hx
  ·exact h.ins x hx
  ·rw [List.mem_singleton.mp hx]
   exact T.ins y (by rw [ey]; intro z; cases z)
 ·have h1:=nx w dw q e ew
  rcases List.mem_append.mp hx with hx | hx
  ·obtain⟨dx,qx,ex,hlt⟩:=h.less y dy qy rfl ey x hx
   exact⟨dx,qx,ex,by omega⟩
  ·rw [List.mem_singleton.mp hx]
   exact⟨dy,qy,ey,h1⟩
 ·cases qy with
  | none=>exact Nat.succ_pos _
  | some w =>
   cases ew:F w with
   | none=>exact absurd ew (hf w rfl)
   | some p =>
    have h1:=nx w p.1 p.2 rfl ew
    have h2:=(T.least w p.1 p.2 ew).1.pos ok
    show ((F w).getD (0,none)).1.toNat+1<((F y).getD (0,none)).1.toNat+1
    rw [ew,ey]
    show p.1.toNat+1<dy.toNat+1
    omega
section
variable {ss:List Slot}{n:Nat}{Pd:D->Nat->Prop}
theorem QI(h:Sz ss n Pd):Nd (EE Pd) n (ss++List.replicate 3 .no):=by
 obtain⟨N,a,b,rfl,okn,ha,hb,p⟩:=h
 have szl:=PySem.sizeLine_eq
 have ok:=okn.1
 unfold Nd
 refine⟨N,a,rfl,okn,ha,λks ds F M T=>?_⟩
 refine⟨ks,ds,_,rfl,BN b,?_⟩
 show if (!(Bg ks ds (.inr b)).isSome)=true then _ else _
 have hfar:=T.far b
 cases eb:F b with
 | none =>
  rw [M.at_,eb]
  rw [eb] at hfar
  exact B6 (p none hfar)
 | some x =>
  obtain⟨db,qb⟩:=x
  rw [M.at_,eb]
  refine Bk ⟨z0,?_⟩
  refine Gr (λm n' ρ=>n'=n/\∃(acc:List Str) (pl:Option Str),ρ=[.sh (enc N),.sh (.str a),.sh (.str b),.sh (.dic ks ds),.ow (.lst (acc.map .str)),.sh (Ww pl)]/\WInv N F b db acc pl/\m=wm F pl) (wm F (some b)) ⟨rfl,[],some b,rfl,⟨.inl ⟨rfl,rfl⟩,List.nodup_nil,(λx hx=>by cases hx),(λ_ _ _ _ _ x hx=>by cases hx),λy e=>by cases e; rw [eb]; intro z; cases z⟩,rfl⟩ ?_ ?_
  ·rintro m n' ρ N' ⟨rfl,acc,pl,rfl,J,rfl⟩ hN
   have wl:=Nv J.nd J.ins
   have l25:=okn.2.1
   cases pl with
   | none =>
    refine⟨rfl,_,rfl,?_⟩
    rcases J.st with ⟨_,e⟩ | ⟨z,r,dz,e1,e2,e3,e4⟩
    ·cases e
    ·have hz:z=a:=by
      rcases T.prev z dz none e2 with ⟨_,w⟩ | ⟨w',dw',q',l,k1,_⟩
      ·exact w
      ·cases k1
     subst hz
     rw [T.start] at e2
     cases e2
     rw [← List.map_reverse]
     refine p (some acc.reverse) ⟨db - 0,r,e1,e4,e3,?_,by rw [List.length_reverse]; omega,λx hx=>J.ins x (List.mem_reverse.mp hx)⟩
     rw [show db - 0=db by omega]
     exact T.least b db qb eb
   | some y =>
    cases ey:F y with
    | none=>exact absurd ey (J.fnd y rfl)
    | some q =>
     obtain⟨dy,qy⟩:=q
     obtain⟨J2,lt2⟩:=J.step ok T eb ey
     refine⟨rfl,?_⟩
     refine⟨_,rfl,rfl,_,_,rfl,rfl,by rw [List.length_map]; omega,?_⟩
     refine⟨ks,ds,_,JO (dy,qy),rfl,BN y,by rw [M.at_,ey]; rfl,_,AL (j:=1) rfl,?_⟩
     refine hN (wm F qy) _ _ lt2 ⟨rfl,acc++[y],qy,?_,J2,rfl⟩
     rw [List.map_append]
     rfl
  ·rintro n' ρ P Q hPQ h
   unfold AO AS AA wC Ef at h ⊢
   split at h
   ·exact⟨h.1,hPQ _ _ h.2⟩
   ·exact h.elim
end
theorem PN{w:List Str}{b:Str}(h:w.getLast?=some b):atI (w.map D.str) (-1)=some (.str b):=by
 obtain⟨ys,rfl⟩:=List.getLast?_eq_some_iff.mp h
 rw [List.map_append]
 exact Sw _ _
section
variable {ss:List Slot}{n:Nat}{Pd:D->Nat->Prop}
end
section
variable {ss:List Slot}{n:Nat}{Pd:D->Nat->Prop}
end
theorem PV{ks:List Key}{ds:List D}{K:Kn}(M:Dmap ks ds D.int K)(x:Str):(Bg ks ds (.inr x)).getD .non=Xy (K x):=by
 rw [M.at_]
 cases K x <;> rfl
theorem K7{N:Net}(okn:okN N):FQ 1000001 (enc N)/\MP (enc N)<=48000/\NP (enc N)<=3:=Ut (Tp okn.1) (JD okn.1) (by rw [List.length_map]; have:=okn.2.1; omega) (by rw [List.length_map]; have:=okn.2.2; omega)
end Nt
namespace Dp
open PySem PySem.Spec PyProof.Rows L2
def UC(i:Nat)(b:BW)(body:Al):Al:=λD2 n ρ=>∃d ds,ρ[i]?=some (.br d)/\Hg d=some ds/\Bj b body D2 ds n ρ
section
variable {X:Cx}{κ:Kd}{tg:Expr}{body:List Stmt}{b:BW}{wb:Al}{pos p:Pos}{x:Str}{i:Nat}
theorem Rel.lessKp{K:Frag}{C:Fm}{q:Addr×HO}{M:Addr->Prop}{H:Hp}{n:Nat}{ρ:List Slot}{σ:L2.St}(R:Rel K { C with kp:=q::C.kp } M H n ρ σ):Rel K C M H n ρ σ :=
 ⟨R.len,R.sub,R.dom,R.ext,R.fU,R.uV,R.vM,R.feed,R.sl,R.pin,R.br0,R.new,R.two,λp hp=>R.kept p (List.mem_cons_of_mem _ hp)⟩
theorem Tz(hp:PassesOwn (model X.prog X.w) X.A X.env X.xe)(hc:X.calm=true)(h:PE X (.Name x p) (CN i))(hg:DG X tg b)(hb:S5 X κ body wb)
  (hs:∀y,foldedSetIterable (.Name x p) X.env y=pure y:=by intro _; rfl):DS X κ (.For tg (.Name x p) body [] pos) (UC i b wb):=by
 obtain⟨g,g1,g2⟩:=hg
 obtain⟨tb,b1,b2⟩:=hb
 refine⟨_,LS hp hc (OG h) g1 b1 hs,λC M H n ρ σ D2 E R L w=>?_⟩
 obtain⟨d,ds,hi,hd,w⟩:=w
 obtain⟨v,e1,hAt⟩:=R.sl i _ hi
 cases d with
 | tup ds' =>
  cases hd
  obtain⟨a,vs,rfl,hn,hat⟩:=hAt
  refine⟨.ref a,getD_some e1,.inr (.inl ⟨a,rfl,⟨vs,hn.sq⟩,?_⟩)⟩
  obtain⟨kp',ek⟩:∃kp',kp'=C.kp:=⟨_,rfl⟩
  have R1:Rel X.K { C with kp:=kp' } M H n ρ σ:=by rw [ek]; exact R
  have less:∀{M H n ρ σ},Rel X.K { C with kp:=kp' } M H n ρ σ->Rel X.K C M H n ρ σ:=λR=>by rw [ek] at R; exact R
  have st:∀M' H' n' ρ' σ',Rel X.K { C with kp:=kp',pins:=(M,H)::C.pins } M' H' n' ρ' σ'->SqT X.K H' a vs:=λM' H' n' ρ' σ' R'=>(hn.pres (R'.pin (M,H) List.mem_cons_self)).sq
  refine⟨λi m σ' H'=>m=ds.length - i/\i<=ds.length/\∃M' n' ρ',Rel X.K { C with kp:=kp',pins:=(M,H)::C.pins } M' H' n' ρ' σ'/\Bj b wb D2 (ds.drop i) n' ρ',⟨ds.length,by simp,Nat.zero_le _,M,n,ρ,R1.pinned,w⟩,?_⟩
  rintro i m σ' H' ⟨rfl,hil,M',n',ρ',R',w'⟩
  have pr:Pres M H M' H':=R'.pin (M,H) List.mem_cons_self
  have hq:=st M' H' n' ρ' σ' R'
  by_cases hlt:i<ds.length
  ·have ed:ds.drop i=ds[i]::ds.drop (i+1):=List.drop_eq_getElem_cons hlt
   rw [ed] at w'
   obtain⟨v,ev,hv⟩:=(hat.pres pr).get (List.getElem?_eq_getElem hlt)
   refine .inr ⟨⟨vs,v,hq,ev⟩,λσ2 H2=>∃M2 n2 ρ2,Rel X.K { C with kp:=kp',pins:=(M,H)::C.pins } M2 H2 n2 ρ2 σ2/\Bj b wb D2 (ds.drop (i+1)) n2 ρ2,λσ2 H2 ⟨M2,n2,ρ2,R2',w2⟩=>⟨ds.length - (i+1),by omega,rfl,hlt,M2,n2,ρ2,R2',w2⟩,λy H2 hy=>?_⟩
   obtain⟨e2,hy⟩:=hy
   subst e2
   have:some v=some y:=ev.symm.trans (hy vs hq)
   cases this
   refine g2 _ M' H2 n' ρ' σ' ds[i] v _ _ R' hv w' λρ3 σ3 R3 w3=>?_
   refine b2 _ M' H2 n' ρ3 σ3 { D2 with nx:=Bj b wb D2 (ds.drop (i+1)),ct:=Bj b wb D2 (ds.drop (i+1)),bk:=D2.nx } _ R3 ⟨λM4 H4 n4 ρ4 σ4 R4 w4=>⟨M4,n4,ρ4,R4,w4⟩,L.rt,λM4 H4 n4 ρ4 σ4 R4 w4=>L.nx M4 H4 n4 ρ4 σ4 (less R4.unpin) w4,λM4 H4 n4 ρ4 σ4 R4 w4=>⟨M4,n4,ρ4,R4,w4⟩⟩ w3
  ·have e:i=ds.length:=by omega
   subst e
   rw [List.drop_length] at w'
   exact .inl ⟨⟨vs,hq,by rw [hat.length]; exact Nat.le_refl _⟩,L.nx M' H' n' ρ' σ' (less R'.unpin) w'⟩
 | lst ds' =>
  cases hd
  obtain⟨a,vs,rfl,nV,hH,hat⟩:=hAt
  obtain⟨o,ho,hro⟩:∃o,H a=some o/\∀H':Hp,H' a=some o->SqL X.K H' a vs:=by
   rcases hH with z | ⟨u,z⟩
   ·exact⟨_,z,λH' e=>.inl (.inl e)⟩
   ·exact⟨_,z,λH' e=>.inl (.inr ⟨u,e⟩)⟩
  refine⟨.ref a,getD_some e1,.inl ⟨a,rfl,⟨vs,hro H ho⟩,?_⟩⟩
  obtain⟨kp',R1,less,st⟩:∃kp',Rel X.K { C with kp:=kp' } M H n ρ σ/\(∀{M H n ρ σ},Rel X.K { C with kp:=kp' } M H n ρ σ->Rel X.K C M H n ρ σ)/\(∀M' H' n' ρ' σ',Rel X.K { C with kp:=kp',pins:=(M,H)::C.pins } M' H' n' ρ' σ'->SqL X.K H' a vs):=by
   by_cases hM:M a
   ·refine⟨(a,o)::C.kp,⟨R.len,R.sub,R.dom,R.ext,R.fU,R.uV,R.vM,R.feed,R.sl,R.pin,R.br0,R.new,R.two,λq hq=>?_⟩,λR=>R.lessKp,λM' H' n' ρ' σ' R'=>hro H' (R'.kept (a,o) List.mem_cons_self).1⟩
    rcases List.mem_cons.mp hq with rfl | hq
    ·refine⟨ho,hM,nV,λj e q z=>?_⟩
     obtain⟨u,hu⟩:=R.br0 i _ a hi e1
     have:=(R.new j _ a q rfl z).2
     rw [hu] at this
     cases this
    ·exact R.kept q hq
   ·exact⟨C.kp,R,λR=>R,λM' H' n' ρ' σ' R'=>hro H' ((R'.pin (M,H) List.mem_cons_self).1 a o ho hM)⟩
  refine⟨λi m σ' H'=>m=ds.length - i/\i<=ds.length/\∃M' n' ρ',Rel X.K { C with kp:=kp',pins:=(M,H)::C.pins } M' H' n' ρ' σ'/\Bj b wb D2 (ds.drop i) n' ρ',⟨ds.length,by simp,Nat.zero_le _,M,n,ρ,R1.pinned,w⟩,?_⟩
  rintro i m σ' H' ⟨rfl,hil,M',n',ρ',R',w'⟩
  have pr:Pres M H M' H':=R'.pin (M,H) List.mem_cons_self
  have hq:=st M' H' n' ρ' σ' R'
  by_cases hlt:i<ds.length
  ·have ed:ds.drop i=ds[i]::ds.drop (i+1):=List.drop_eq_getElem_cons hlt
   rw [ed] at w'
   obtain⟨v,ev,hv⟩:=(hat.pres pr).get (List.getElem?_eq_getElem hlt)
   refine .inr ⟨⟨vs,v,hq,ev⟩,λσ2 H2=>∃M2 n2 ρ2,Rel X.K { C with kp:=kp',pins:=(M,H)::C.pins } M2 H2 n2 ρ2 σ2/\Bj b wb D2 (ds.drop (i+1)) n2 ρ2,λσ2 H2 ⟨M2,n2,ρ2,R2',w2⟩=>⟨ds.length - (i+1),by omega,rfl,hlt,M2,n2,ρ2,R2',w2⟩,λy H2 hy=>?_⟩
   obtain⟨e2,hy⟩:=hy
   subst e2
   have:some v=some y:=ev.symm.trans (hy vs hq)
   cases this
   refine g2 _ M' H2 n' ρ' σ' ds[i] v _ _ R' hv w' λρ3 σ3 R3 w3=>?_
   refine b2 _ M' H2 n' ρ3 σ3 { D2 with nx:=Bj b wb D2 (ds.drop (i+1)),ct:=Bj b wb D2 (ds.drop (i+1)),bk:=D2.nx } _ R3 ⟨λM4 H4 n4 ρ4 σ4 R4 w4=>⟨M4,n4,ρ4,R4,w4⟩,L.rt,λM4 H4 n4 ρ4 σ4 R4 w4=>L.nx M4 H4 n4 ρ4 σ4 (less R4.unpin) w4,λM4 H4 n4 ρ4 σ4 R4 w4=>⟨M4,n4,ρ4,R4,w4⟩⟩ w3
  ·have e:i=ds.length:=by omega
   subst e
   rw [List.drop_length] at w'
   exact .inl ⟨⟨vs,hq,by rw [hat.length]; exact Nat.le_refl _⟩,L.nx M' H' n' ρ' σ' (less R'.unpin) w'⟩
 | _=>cases hd
end
end Dp
namespace Nt
open PySem PySem.Spec PyProof.Rows L2 Dp
def sub(N:Net)(kept:List BC):Net:=⟨N.ps,N.ts.filter λu=>decide (u∈kept)⟩
def Er(N:Net)(t b:Int)(u:BC):Prop:=∃d,Least N u.a u.b d/\d*b<=u.len*t
noncomputable def Es(N:Net)(t b:Int)(u:BC):Bool:=@decide (Er N t b u) (Classical.propDecidable _)
theorem nearB_iff{N:Net}{t b:Int}{u:BC}:Es N t b u=true↔Er N t b u:=by
 unfold Es
 exact @decide_eq_true_iff _ (Classical.propDecidable _)
noncomputable def EZ(N:Net)(t b:Int):List BC->List BC->List BC
 | kept,[]=>kept
 | kept,u::r=>if Es (sub N kept) t b u=true then EZ N t b kept r else EZ N t b (kept++[u]) r
def HJ:W2:=λss n P=>∃(N:Net) (u:BC) (t b:Int),ss=[.sh (enc N),.sh (.tup [.int t,.int b]),.sh (AW u)]/\okN N/\u.a∈N.ps/\u.b∈N.ps/\1<=b/\b<=1000000/\1<=t/\t<=1000000/\∀o:Option (List Str),(∀w,o=some w->Way N u.a u.b (some w)/\Es N t b u=true)->(o=none->Es N t b u=false)->P (Fi o) n
def FD:W2:=λss n P=>∃(N:Net) (t b:Int),ss=[.sh (enc N),.sh (.tup [.int t,.int b])]/\okN N/\1<=b/\b<=1000000/\1<=t/\t<=1000000/\∀ord:List BC,ord.Perm N.ts->E6 ord->P (enc (sub N (EZ N t b [] ord))) n
def CT:W2:=λss n P=>∃(N:Net) (s:Str) (z:D) (us:List BC),ss=[.br z,.sh (.str s)]/\Hg z=some (us.map AW)/\(∀u,u∈us↔u∈N.ts)/\okN N/\s∈N.ps/\∀(ks:List Key) (ds:List D) (K:Kn),Dmap ks ds D.int K->LTold N s K->P (.dic ks ds) n
def GZ:Al:=(Ae (A0 3 (Aa Sz (AD (AK (AA 0)) (AD (AK (AS A5 (AA 2) (wC (D.int 0)))) (AD (AK (AS A5 (AA 2) (wC (D.int 1)))) Ac)))))
 (Ae (BD (CP (AO (AS (Ef false) (AA 3) (wC D.non))) (B8 (AO (Aa EV (AD (AK (Aa Hs (AD (AK (AA 0)) (AD (AK (AA 3)) Ac)))) (AD (AK (AA 1)) (AD (AK (AS A5 (AA 2) (wC (D.int 2)))) Ac))))))) (As (wC D.non)) Au)
 (As (AA 3))))
def E9:Al:=(Ae (EX 2 (Ny (AA 1) (wC (D.int 0))))
 (Ae (A0 3 (wC (D.bl true)))
 (Ae (IJ (AO (AA 3)) (Ae (A0 3 (wC (D.bl false)))
 (UC 0 (D6 3 (Ao (AX 4) (Ao (AX 5) (Ao (AX 6) CS)))) (Ek (BL (Ff (AF (Bt (AF (AA 4) (AF (AA 5) AZ))) (AF (Bt (AF (AA 5) (AF (AA 4) AZ))) AZ)))) (D6 2 (Ao (AX 7) (Ao (AX 8) CS))) (BD (AO (AS (JN false) (AA 7) (A7 2))) (Ae (A0 9 (AS A8 (AS Ct (A7 2) (AA 7)) (AA 6)))
 (BD (AO (AS Du (AA 9) (Oq (A7 2) (AA 8) (AS A8 (AA 9) (wC (D.int 1)))))) (Ae (Fs 2 (AA 8) (AA 9))
 (A0 3 (wC (D.bl true)))) Au)) Au)))))
 (MH 2))))
def EJ:Al:=(Ae (EX 2 (Ff AZ))
 (Ae (Ek (BL (Aa DM (AD (AK (AS A5 (AA 0) (wC (D.int 1)))) Ac))) (AX 3) (Ae (A0 4 (KJ (Aa CT (AD (Ei (A7 2)) (AD (AK (AS A5 (AA 3) (wC (D.int 0)))) Ac))) (AS A5 (AA 3) (wC (D.int 1)))))
 (BD (CP (AO (AS (Ef false) (AA 4) (wC D.non))) (AO (AS (f2 λi j=>D.bl (decide (j<i))) (AS Ci (AA 4) (AS A5 (AA 1) (wC (D.int 1)))) (AS Ci (AS A5 (AA 3) (wC (D.int 2))) (AS A5 (AA 1) (wC (D.int 0))))))) (P4 2 "list" Hr (AF (AA 3) AZ)) Au)))
 (As (Bt (AF (AS A5 (AA 0) (wC (D.int 0))) (AF (DQ CU (AF (DQ HC (AF (A7 2) AZ)) AZ)) AZ))))))
theorem sub_mem{N:Net}{kept:List BC}{u:BC}:u∈(sub N kept).ts↔u∈N.ts/\u∈kept:=by
 show u∈N.ts.filter _↔_
 rw [List.mem_filter,decide_eq_true_eq]
theorem Oz{N:Net}(okn:okN N)(kept:List BC):okN (sub N kept):=⟨N5 okn.1 (λt h=>(sub_mem.mp h).1) (okn.1.trise.filter _),okn.2.1,Nat.le_trans (List.length_filter_le _ _) okn.2.2⟩
theorem U2{N:Net}(ok:N.Ok){kept ts:List BC}(hk:∀t∈kept,t∈N.ts)(nd:kept.Nodup)(hp:ts.Perm kept)(hb:Nb ts):(⟨N.ps,ts⟩:Net)=sub N kept:=by
 unfold sub
 congr 1
 refine N2 ((List.perm_ext_iff_of_nodup (hp.nodup_iff.mpr nd) ((CC ok.trise).filter _)).mpr λt=>?_) hb (Oc (ok.trise.filter _))
 rw [List.mem_filter,decide_eq_true_eq,hp.mem_iff]
 exact⟨λh=>⟨hk t h,h⟩,λh=>h.2⟩
theorem OU{N:Net}{t b:Int}{kept r:List BC}{u:BC}:EZ N t b kept (u::r)=if Es (sub N kept) t b u=true then EZ N t b kept r else EZ N t b (kept++[u]) r:=rfl
theorem I0{α β:Type}:∀{l:List (α×β)},(l.map (·.1)).Nodup->∀{p q:α×β},p∈l->q∈l->p.1=q.1->p=q
 | a::l,nd,p,q,hp,hq,e=>by
  rw [List.map_cons,List.nodup_cons] at nd
  rcases List.mem_cons.mp hp with hp2 | hp2 <;> rcases List.mem_cons.mp hq with hq2 | hq2
  ·rw [hp2,hq2]
  ·exact absurd (List.mem_map.mpr ⟨q,hq2,by rw [← e,hp2]⟩:a.1∈l.map (·.1)) nd.1
  ·exact absurd (List.mem_map.mpr ⟨p,hp2,by rw [e,hq2]⟩:a.1∈l.map (·.1)) nd.1
  ·exact I0 nd.2 hp2 hq2 e
theorem Tj{N:Net}(ok:N.Ok){x y:Str}{l:Int}(h:Ed N x y l):look N.ts x y=some l:=by
 unfold look
 cases e:(Dt N.ts x).find? λz=>decide (z.1=y) with
 | none=>exact absurd (List.find?_eq_none.mp e (y,l) h) (by simp)
 | some q =>
  have h1:decide (q.1=y)=true:=List.find?_some (p:=λz:Str×Int=>decide (z.1=y)) e
  have e1:q.1=y:=of_decide_eq_true h1
  rw [I0 (Qb ok x) (List.mem_of_find?_eq_some e) h e1]
  rfl
theorem MG{N:Net}(ok:N.Ok):∀{r:List Str} {x:Str} {s d:Int},walk N (x::r) d->FP N.ts x r s=some (s+d)
 | [],x,s,d,h=>by
  have:d=0:=h
  subst this
  show some s=some (s+0)
  rw [Int.add_zero]
 | y::r,x,s,d,h=>by
  obtain⟨l,e,he,hw,rfl⟩:=h
  show (match look N.ts x y with | some l=>FP N.ts y r (s+l) | none=>none)=_
  rw [Tj ok he]
  show FP N.ts y r (s+l)=_
  rw [MG ok hw,Int.add_assoc]
theorem PF{N:Net}(ok:N.Ok){x:Str}{r:List Str}{d:Int}(hx:x∈N.ps)(hw:walk N (x::r) d):VU N (.tup ((x::r).map .str))=.int d:=by
 show (if ((x::r).map D.str).all C9 then Tl N (strsOf ((x::r).map .str)) else .non)=_
 rw [if_pos (all_strs _),Cu]
 show (if x∈N.ps then QG (FP N.ts x r 0) else .non)=_
 rw [if_pos hx,MG ok hw,Int.zero_add]
 rfl
theorem Gq{N:Net}{B:Nat}(ok:N.Ok):∀{w:List Str},(∀x∈w,x∈N.ps)->FY B (w.map .str)/\Jo (w.map .str)<=9*w.length/\FS (w.map .str)<=0
 | [],_=>⟨trivial,Nat.le_refl _,Nat.le_refl _⟩
 | x::r,h=>by
  obtain⟨a,b,c⟩:=Gq ok (w:=r) λy hy=>h y (List.mem_cons_of_mem _ hy)
  have hx:=ok.names x (h x List.mem_cons_self)
  refine⟨⟨λch hc=>by have:=hx.2.2 ch hc; omega,a⟩,?_,?_⟩
  ·show x.length+1+Jo (r.map .str)<=9*(r.length+1)
   have:=hx.2.1
   omega
  ·show max 0 (FS (r.map .str))<=0
   omega
theorem II{N:Net}(ok:N.Ok){w:List Str}(hl:w.length<=30)(h:∀x∈w,x∈N.ps):W_ (.tup (w.map .str)):=by
 obtain⟨a,b,c⟩:=Gq ok h
 exact⟨a,by show Jo (w.map .str)<=60000; omega,by show FS (w.map .str)+1<=50; omega⟩
section
variable {ss:List Slot}{n:Nat}{Pd:D->Nat->Prop}
theorem Ju(h:HJ ss n Pd):GZ (EE Pd) n (ss++List.replicate 1 .no):=by
 obtain⟨N,u,t,b,rfl,okn,ha,hb,b1,b2,t1,t2,p⟩:=h
 unfold GZ
 refine⟨_,AL (j:=0) rfl,_,AL (j:=1) rfl,N,u.a,u.b,rfl,okn,ha,hb,λo ho=>⟨rfl,?_⟩⟩
 cases o with
 | none =>
  refine p none (λw e=>by cases e) λ_=>?_
  rw [Bool.eq_false_iff]
  intro z
  obtain⟨d,hd,_⟩:=nearB_iff.mp z
  exact ho d hd.1
 | some w =>
  have ho':=ho
  obtain⟨d,r,rfl,hl,hw,hd,h30,hin⟩:=ho'
  have near:Es N t b u=decide (d*b<=u.len*t):=by
   rw [Bool.eq_iff_iff,nearB_iff,decide_eq_true_eq]
   exact⟨fun⟨d',hd',h2⟩=>by rw [Least.unique hd hd']; exact h2,λh2=>⟨d,hd,h2⟩⟩
  refine⟨N,.tup ((u.a::r).map .str),rfl,okn.1,by have:=okn.2.1; omega,okn.2.2,II okn.1 h30 hin,?_⟩
  rw [PF okn.1 (hin _ List.mem_cons_self) hw]
  refine⟨_,AL (j:=2) rfl,d,t,b,u.len,rfl,b1,b2,t1,t2,?_⟩
  by_cases c:d*b<=u.len*t
  ·rw [decide_eq_true c]
   exact p (some _) (λw e=>by cases e; exact⟨ho,by rw [near]; exact decide_eq_true c⟩) λe=>by cases e
  ·rw [decide_eq_false c]
   exact p none (λw e=>by cases e) λ_=>by rw [near]; exact decide_eq_false c
end
section
variable {ss:List Slot}{n:Nat}{Pd:D->Nat->Prop}
theorem Ij(h:CT ss n Pd):E9 (EF Pd) n (ss++List.replicate 8 .no):=by
 obtain⟨N,s,zz,us,rfl,hzz,hus,okn,hs,p⟩:=h
 have szl:=PySem.sizeLine_eq
 have ok:=okn.1
 have l25:=okn.2.1
 unfold E9
 refine⟨_,BN s,?_⟩
 have step:∀(D3:E2) (x y:Str) (l:Int),Ed N x y l->∀(ks:List Key) (ds:List D) (K:Kn) (g:Bool) (s4 s5 s7 s8 s9:Slot),Dmap ks ds D.int K->Bf N s ks.length K ->
   (∀(ks':List Key) (ds':List D) (K':Kn) (g':Bool) (t7 t8 t9:Slot),Dmap ks' ds' D.int K'->Bf N s ks'.length K'->((g'=g/\K'=K/\IQ K (x,y,l))\/(g'=true/\Q_ N.ps K'<Q_ N.ps K)) ->
    D3.nx n [.br zz,.sh (.str s),.ow (.dic ks' ds'),.sh (.bl g'),s4,s5,.sh (.int l),t7,t8,t9]) ->
   (BD (AO (AS (JN false) (AA 7) (A7 2))) (Ae (A0 9 (AS A8 (AS Ct (A7 2) (AA 7)) (AA 6)))
 (BD (AO (AS Du (AA 9) (Oq (A7 2) (AA 8) (AS A8 (AA 9) (wC (D.int 1)))))) (Ae (Fs 2 (AA 8) (AA 9))
 (A0 3 (wC (D.bl true)))) Au)) Au) D3 n [.br zz,.sh (.str s),.ow (.dic ks ds),.sh (.bl g),s4,s5,.sh (.int l),.sh (.str x),.sh (.str y),s9]:=by
  intro D3 x y l he ks ds K g s4 s5 s7 s8 s9 M B hD
  have kl:=M.le B.ins
  refine⟨ks,ds,_,rfl,BN x,?_⟩
  show if ((Bg ks ds (.inr x)).isSome)=true then _ else _
  cases ex:K x with
  | none =>
   rw [M.at_,ex]
   exact Bk (hD ks ds K g _ _ _ M B (.inl ⟨rfl,rfl,λd e=>by rw [show K x=some d from e] at ex; cases ex⟩))
  | some d =>
   rw [M.at_,ex]
   refine B6 ⟨ks,ds,_,_,rfl,BN x,by rw [M.at_,ex]; rfl,?_⟩
   refine⟨ks,ds,rfl,_,BN y,?_⟩
   have put:(K y=none\/∃d',K y=some d'/\d+l<d')->(Ae (Fs 2 (AA 8) (AA 9)) (A0 3 (wC (D.bl true)))) D3 n [.br zz,.sh (.str s),.ow (.dic ks ds),.sh (.bl g),s4,s5,.sh (.int l),.sh (.str x),.sh (.str y),.sh (.int (d+l))]:=λhy=>by
    refine⟨ks,ds,rfl,_,BN y,by omega,?_⟩
    have hlen:=Io ks (.inr y)
    have key:=B.put ok (c':=(DN ks (.inr y)).length) (by rw [hlen]; split <;> omega) (by rw [hlen]; split <;> omega) ex he (λe=>by rw [hlen,if_neg (by rw [(M.has (x:=y)).1 e]; decide)]) (λd' e=>by
     rcases hy with hy | ⟨d2,hy,hlt⟩
     ·rw [e] at hy; cases hy
     ·rw [e] at hy; cases hy; exact hlt)
    exact hD _ _ _ true _ _ _ (M.put y (d+l)) key.1 (.inr ⟨rfl,key.2⟩)
   rw [M.at_]
   cases ey:K y with
   | none =>
    show if decide (d+l<d+l+1)=true then _ else _
    rw [decide_eq_true (by omega)]
    exact B6 (put (.inl ey))
   | some d' =>
    show if decide (d+l<d')=true then _ else _
    by_cases c:d+l<d'
    ·rw [decide_eq_true c]
     exact B6 (put (.inr ⟨d',ey,c⟩))
    ·rw [decide_eq_false c]
     refine Bk (hD ks ds K g _ _ _ M B (.inl ⟨rfl,rfl,λd2 e=>?_⟩))
     rw [show K x=some d2 from e] at ex
     cases ex
     exact⟨d',ey,by show d'<=d+l; omega⟩
 refine Gr (λm n' ρ=>n'=n/\∃(ks:List Key) (ds:List D) (K:Kn) (g:Bool) (s4 s5 s6 s7 s8 s9:Slot),ρ=[.br zz,.sh (.str s),.ow (.dic ks ds),.sh (.bl g),s4,s5,s6,s7,s8,s9]/\Dmap ks ds D.int K/\Bf N s ks.length K/\((g=true/\m=Q_ N.ps K+1)\/(g=false/\m=0/\∀t∈N.ts,IQ K (t.a,t.b,t.len)/\IQ K (t.b,t.a,t.len)))) _ ⟨rfl,_,_,_,true,_,_,_,_,_,_,rfl,Dmap.one (enc:=D.int) (a:=(0:Int)),Bf.init hs,.inl ⟨rfl,rfl⟩⟩ ?_ ?_
 ·rintro m n' ρ N' ⟨rfl,ks,ds,K,g,s4,s5,s6,s7,s8,s9,rfl,M,B,hg⟩ hN
  rcases hg with ⟨rfl,hm⟩ | ⟨rfl,_,ht⟩
  ·have outer:∀(rest done:List BC) (ks:List Key) (ds:List D) (K':Kn) (g:Bool) (s4 s5 s6 s7 s8 s9:Slot),done++rest=us->Dmap ks ds D.int K'->Bf N s ks.length K'->((g=true/\Q_ N.ps K'<Q_ N.ps K)\/(g=false/\Q_ N.ps K'<=Q_ N.ps K/\∀t∈done,IQ K' (t.a,t.b,t.len)/\IQ K' (t.b,t.a,t.len))) ->
     Bj (D6 3 (Ao (AX 4) (Ao (AX 5) (Ao (AX 6) CS)))) (Ek (BL (Ff (AF (Bt (AF (AA 4) (AF (AA 5) AZ))) (AF (Bt (AF (AA 5) (AF (AA 4) AZ))) AZ)))) (D6 2 (Ao (AX 7) (Ao (AX 8) CS))) (BD (AO (AS (JN false) (AA 7) (A7 2))) (Ae (A0 9 (AS A8 (AS Ct (A7 2) (AA 7)) (AA 6)))
 (BD (AO (AS Du (AA 9) (Oq (A7 2) (AA 8) (AS A8 (AA 9) (wC (D.int 1)))))) (Ae (Fs 2 (AA 8) (AA 9))
 (A0 3 (wC (D.bl true)))) Au)) Au)) { EF Pd with nx:=N',ct:=N',bk:=MH 2 (EF Pd) } (rest.map AW) n' [.br zz,.sh (.str s),.ow (.dic ks ds),.sh (.bl g),s4,s5,s6,s7,s8,s9]:=by
    intro rest
    induction rest with
    | nil =>
     intro done ks ds K' g s4 s5 s6 s7 s8 s9 e M B hg
     rw [List.append_nil] at e
     subst e
     rcases hg with ⟨rfl,hlt⟩ | ⟨rfl,_,ht⟩
     ·exact hN (Q_ N.ps K'+1) _ _ (by omega) ⟨rfl,ks,ds,K',true,_,_,_,_,_,_,rfl,M,B,.inl ⟨rfl,rfl⟩⟩
     ·exact hN 0 _ _ (by omega) ⟨rfl,ks,ds,K',false,_,_,_,_,_,_,rfl,M,B,.inr ⟨rfl,rfl,λt h=>ht t ((hus t).mpr h)⟩⟩
    | cons t rest ih =>
     intro done ks ds K' g s4 s5 s6 s7 s8 s9 e M B hg
     have hmem:t∈N.ts:=(hus t).mp (by rw [← e]; exact List.mem_append_right _ List.mem_cons_self)
     have e':(done++[t])++rest=us:=by rw [List.append_assoc]; exact e
     have ed:=Pf hmem
     refine⟨rfl,rfl,z2,z2,z2,?_⟩
     refine⟨rfl,rfl,?_⟩
     refine step _ t.a t.b t.len ed.1 ks ds K' g _ _ s7 s8 s9 M B λks1 ds1 K1 g1 t7 t8 t9 M1 B1 h1=>?_
     refine⟨rfl,rfl,?_⟩
     refine step _ t.b t.a t.len ed.2 ks1 ds1 K1 g1 _ _ t7 t8 t9 M1 B1 λks2 ds2 K2 g2 u7 u8 u9 M2 B2 h2=>?_
     refine ih (done++[t]) ks2 ds2 K2 g2 _ _ _ _ _ _ e' M2 B2 ?_
     rcases h1 with ⟨rfl,rfl,t1⟩ | ⟨rfl,lt1⟩
     ·rcases h2 with ⟨rfl,rfl,t2⟩ | ⟨rfl,lt2⟩
      ·rcases hg with z | ⟨z1,z2,z3⟩
       ·exact .inl z
       ·refine .inr ⟨z1,z2,λu hu=>?_⟩
        rcases List.mem_append.mp hu with hu | hu
        ·exact z3 u hu
        ·rw [List.mem_singleton.mp hu]; exact⟨t1,t2⟩
      ·refine .inl ⟨rfl,?_⟩
       rcases hg with ⟨_,z⟩ | ⟨_,z,_⟩ <;> omega
     ·have base:Q_ N.ps K1<Q_ N.ps K:=by rcases hg with ⟨_,z⟩ | ⟨_,z,_⟩ <;> omega
      rcases h2 with ⟨rfl,rfl,t2⟩ | ⟨rfl,lt2⟩
      ·exact .inl ⟨rfl,base⟩
      ·exact .inl ⟨rfl,by omega⟩
   exact⟨zz,_,rfl,hzz,outer us [] ks ds K false _ _ _ _ _ _ rfl M B (.inr ⟨rfl,Nat.le_refl _,λt h=>by cases h⟩)⟩
  ·exact⟨_,rfl,p ks ds K M (B.told ok (by have:=M.le B.ins; omega) ht)⟩
 ·rintro n' ρ P Q hPQ h
  unfold AO AA at h ⊢
  split at h
  ·rename_i d hd
   cases d with
   | bl b=>exact hPQ _ _ h
   | _=>exact h.elim
  ·exact h.elim
theorem Gz(h:FD ss n Pd):EJ (EE Pd) n (ss++List.replicate 3 .no):=by
 obtain⟨N,t,b,rfl,okn,b1,b2,t1,t2,p⟩:=h
 have ok:=okn.1
 have l60:=okn.2.2
 have szl:=PySem.sizeLine_eq
 unfold EJ
 refine⟨z0,_,AL (j:=1) rfl,_,N.ts,rfl,rfl,by omega,λord o1 o2=>?_⟩
 have ndo:ord.Nodup:=o1.nodup_iff.mpr (CC ok.trise)
 have go:∀(rest done kept:List BC) (s3 s4:Slot),done++rest=ord->(∀u∈kept,u∈done)->kept.Nodup->EZ N t b kept rest=EZ N t b [] ord ->
   Bj (AX 3) (Ae (A0 4 (KJ (Aa CT (AD (Ei (A7 2)) (AD (AK (AS A5 (AA 3) (wC (D.int 0)))) Ac))) (AS A5 (AA 3) (wC (D.int 1)))))
 (BD (CP (AO (AS (Ef false) (AA 4) (wC D.non))) (AO (AS (f2 λi j=>D.bl (decide (j<i))) (AS Ci (AA 4) (AS A5 (AA 1) (wC (D.int 1)))) (AS Ci (AS A5 (AA 3) (wC (D.int 2))) (AS A5 (AA 1) (wC (D.int 0))))))) (P4 2 "list" Hr (AF (AA 3) AZ)) Au)) { EE Pd with nx:=As (Bt (AF (AS A5 (AA 0) (wC (D.int 0))) (AF (DQ CU (AF (DQ HC (AF (A7 2) AZ)) AZ)) AZ))) (EE Pd) } (rest.map AW) n [.sh (enc N),.sh (.tup [.int t,.int b]),.ow (.lst (kept.map AW)),s3,s4]:=by
  intro rest
  induction rest with
  | nil =>
   intro done kept s3 s4 e h1 h2 h3
   rw [List.append_nil] at e
   subst e
   have hin:∀u∈kept,u∈N.ts:=λu hu=>o1.mem_iff.mp (h1 u hu)
   have hkl:=sub_len h2 (CC ok.trise) hin
   refine⟨_,AL (j:=0) rfl,_,_,rfl,rfl,by rw [List.length_map]; omega,⟨λx hx=>?_,λx hx y hy ka kb ea eb=>?_⟩,λxs' hp ho=>?_⟩
   ·obtain⟨t,_,rfl⟩:=List.mem_map.mp hx
    exact⟨Ec t,rfl,List.cons_ne_nil _ _⟩
   ·obtain⟨t,_,rfl⟩:=List.mem_map.mp hx
    obtain⟨u,_,rfl⟩:=List.mem_map.mp hy
    cases (show some (Ec t)=some ka from ea)
    cases (show some (Ec u)=some kb from eb)
    rfl
   ·obtain⟨ts',p1,rfl⟩:=RK (g:=XF) (λ_=>rfl) hp
    refine⟨z2,?_⟩
    have es:=U2 ok hin h2 p1 (Ta ho)
    have:Pd (enc (sub N kept)) n:=by rw [show kept=EZ N t b [] done from h3]; exact p done o1 o2
    rw [← es] at this
    exact this
  | cons u rest ih =>
   intro done kept s3 s4 e h1 h2 h3
   have hin:∀v∈kept,v∈N.ts:=λv hv=>o1.mem_iff.mp (by rw [← e]; exact List.mem_append_left _ (h1 v hv))
   have hkl:=sub_len h2 (CC ok.trise) hin
   have hu:u∈N.ts:=o1.mem_iff.mp (by rw [← e]; exact List.mem_append_right _ List.mem_cons_self)
   have hud:u∉done:=by
    rw [← e,List.nodup_append] at ndo
    exact λz=>ndo.2.2 u z u List.mem_cons_self rfl
   have e':(done++[u])++rest=ord:=by rw [List.append_assoc]; exact e
   obtain⟨m1,m2,_⟩:=ok.tin u hu
   rw [OU] at h3
   have keep:Es (sub N kept) t b u=false->∀s4',(P4 2 "list" Hr (AF (AA 3) AZ)) { nx:=Bj (AX 3) (Ae (A0 4 (KJ (Aa CT (AD (Ei (A7 2)) (AD (AK (AS A5 (AA 3) (wC (D.int 0)))) Ac))) (AS A5 (AA 3) (wC (D.int 1)))))
 (BD (CP (AO (AS (Ef false) (AA 4) (wC D.non))) (AO (AS (f2 λi j=>D.bl (decide (j<i))) (AS Ci (AA 4) (AS A5 (AA 1) (wC (D.int 1)))) (AS Ci (AS A5 (AA 3) (wC (D.int 2))) (AS A5 (AA 1) (wC (D.int 0))))))) (P4 2 "list" Hr (AF (AA 3) AZ)) Au)) { EE Pd with nx:=As (Bt (AF (AS A5 (AA 0) (wC (D.int 0))) (AF (DQ CU (AF (DQ HC (AF (A7 2) AZ)) AZ)) AZ))) (EE Pd) } (rest.map AW),rt:=Pd } n [.sh (enc N),.sh (.tup [.int t,.int b]),.ow (.lst (kept.map AW)),.sh (AW u),s4']:=λc s4'=>by
    rw [c,if_neg (by decide)] at h3
    refine⟨_,rfl,rfl,_,_,rfl,rfl,by rw [List.length_map]; omega,?_⟩
    have:=ih (done++[u]) (kept++[u]) (.sh (AW u)) s4' e' (λv hv=>by
     rcases List.mem_append.mp hv with hv | hv
     ·exact List.mem_append_left _ (h1 v hv)
     ·exact List.mem_append_right _ hv) (by
     rw [List.nodup_append]
     exact⟨h2,List.nodup_cons.mpr ⟨List.not_mem_nil,List.nodup_nil⟩,λx hx y hy z=>hud (by rw [← List.mem_singleton.mp hy,← z]; exact h1 x hx)⟩) h3
    rw [List.map_append] at this
    exact this
   refine⟨_,AL (j:=0) rfl,sub N kept,u.a,_,kept,rfl,rfl,λv=>⟨λhv=>sub_mem.mpr ⟨hin v hv,hv⟩,λhv=>(sub_mem.mp hv).2⟩,Oz okn kept,m1,λks ds K M T=>?_⟩
   refine⟨ks,ds,rfl,_,AL (j:=1) rfl,_,BN u.b,?_⟩
   rw [PV M]
   have hf:=T.far u.b
   cases ek:K u.b with
   | none =>
    rw [ek] at hf
    refine⟨rfl,?_⟩
    exact keep (by
     rw [Bool.eq_false_iff]
     intro z
     obtain⟨d,hd,_⟩:=nearB_iff.mp z
     exact hf d hd.1) _
   | some d =>
    rw [ek] at hf
    have en:Es (sub N kept) t b u=decide (d*b<=u.len*t):=by
     rw [Bool.eq_iff_iff,nearB_iff,decide_eq_true_eq]
     constructor
     ·rintro ⟨d',hd',h2⟩
      rw [Least.unique (show Least (sub N kept) u.a u.b d from hf) hd']
      exact h2
     ·intro h2
      exact⟨d,hf,h2⟩
    refine⟨rfl,?_⟩
    refine⟨_,AL (j:=1) rfl,.inr ⟨by omega,by omega⟩,_,AL (j:=2) rfl,_,AL (j:=0) rfl,.inr ⟨by omega,by omega⟩,?_⟩
    show if decide (u.len*t<d*b)=true then _ else _
    by_cases c:u.len*t<d*b
    ·rw [decide_eq_true c]
     exact B6 (keep (by rw [en]; exact decide_eq_false (by omega)) _)
    ·rw [decide_eq_false c]
     rw [en,decide_eq_true (by omega),if_pos rfl] at h3
     exact Bk (ih (done++[u]) kept _ _ e' (λv hv=>List.mem_append_left _ (h1 v hv)) h2 h3)
 exact go ord [] [] _ _ rfl (λu h=>by cases h) List.nodup_nil rfl
end
section
variable {ss:List Slot}{n:Nat}{Pd:D->Nat->Prop}
end
end Nt
namespace L2
open PySem PySem.Spec PyProof.Rows
open AutoSeq1 (wpAny_loadPart')
theorem boot_enumerate:bootBuiltins "enumerate"=some (.type "enumerate"):=by decide +kernel
section
variable {prog:Program}{w:World}{A:Around}{E:Value->Shared->Prop}{s:Shared}
theorem Qy{κ:Bool}(hh:A.handled=none)(it l:Addr)(hne:l≠it)(items:Array Value):Draws prog w A it [it,l] items.size (λi v=>items[i]?=some v) (λi h=>ItAt κ h it l i/\SqAt κ h l items) where
 live:=λ_ _ st=>let ⟨o,ho,_⟩:=st.1.lies; ⟨o,ho⟩
 frame:=λ_ _ _ st k=>⟨st.1.mv λo e=>k it (by simp) o e,st.2.mv λo e=>k l (by simp) o e⟩
 item:=λi s Q E hi st hQ=>FJ st.1 st.2 (x:=items[i]) (by simp [hi]) λh' a b=>hQ _ h' s.toks (by simp [hi]) ⟨a,st.2.eb b.extBut hne⟩ b
 done:=λs Q E st hE=>GP hh st.1 st.2 (by simp) hE
theorem OY{κ:Bool}(hh:A.handled=none)(it l:Addr)(items:Array Value)(k:Nat)(hk:items[k]?=none):Draws prog w A it [it,l] k (λ_ _=>True) (λi h=>ItAt κ h it l i/\SqAt κ h l items/\i=k) where
 live:=λ_ _ st=>let ⟨o,ho,_⟩:=st.1.lies; ⟨o,ho⟩
 frame:=λ_ _ _ st k=>⟨st.1.mv λo e=>k it (by simp) o e,st.2.1.mv λo e=>k l (by simp) o e,st.2.2⟩
 item:=λi s Q E hi st hQ=>absurd st.2.2 (Nat.ne_of_lt hi)
 done:=λs Q E st hE=>GP hh st.1 st.2.1 hk hE
theorem SD(κ:Bool)(l:Addr)(items:Array Value):Meets (Builtin.«enumerate.__new__» ⟨[.type "enumerate",.ref l],[]⟩) (λ_ R s=>SqAt κ s.heap l items /\
   R (.ok (.ret (.ref (s.heap.push (HU κ l)).objs.size))) { s with heap:=(s.heap.push (HU κ l)).push { cls:=.type "enumerate",data:=.fields #[.none,.bool false,.ref s.heap.objs.size,rawInt 0,.none,.none] } }) :=
 .of_wp λprog w A R s h=>by
  obtain⟨hp,g,d,tk,os⟩:=s; obtain⟨hl,h⟩:=h
  have hsub:=sub_enumerate
  cases κ with
  | true =>
   have hL:Heap.IsList (Shared.heap ⟨hp,g,d,tk,os⟩) l items:=hl
   obtain⟨⟨c,dct,dt,sl⟩,ho,hc,n,hd⟩:=id hL
   replace hc:c=.type "list":=hc
   replace hd:dt=.seq items n:=hd
   subst hc hd
   wp_walk using wpAny_loadPart' ho
   refine wpAny_stack_any λst=>wpAny_pure ?_
   split
   ·rename_i c _ _ _ _ _
    cases (c==Value.type "enumerate") <;> (wp_walk using wpAny_loadPart' ho,wpAny_pyIter_list hL; exact⟨_,rfl,h⟩)
   ·(wp_walk using wpAny_loadPart' ho,wpAny_pyIter_list hL; exact⟨_,rfl,h⟩)
  | false =>
   have hL:Heap.IsTuple (Shared.heap ⟨hp,g,d,tk,os⟩) l items:=hl
   obtain⟨⟨c,dct,dt,sl⟩,ho,hc,n,hd⟩:=id hL
   replace hc:c=.type "tuple":=hc
   replace hd:dt=.seq items n:=hd
   subst hc hd
   wp_walk using wpAny_loadPart' ho
   refine wpAny_stack_any λst=>wpAny_pure ?_
   split
   ·rename_i c _ _ _ _ _
    cases (c==Value.type "enumerate") <;> (wp_walk using wpAny_loadPart' ho,wpAny_pyIter_tuple hL; exact⟨_,rfl,h⟩)
   ·(wp_walk using wpAny_loadPart' ho,wpAny_pyIter_tuple hL; exact⟨_,rfl,h⟩)
theorem KA{κ:Bool}{l:Addr}{items:Array Value}{Q:Value->Shared->Prop}(hl:SqAt κ s.heap l items)
  (h:∀h',IsEnum h' (s.heap.objs.size+1) s.heap.objs.size 0 .none->ItAt κ h' s.heap.objs.size l 0->(∀b o,s.heap.get? b=some o->h'.get? b=some o)->Q (.ref (s.heap.objs.size+1)) { s with heap:=h' }) :
  wpAny (model prog w) A (call (.type "enumerate") [.ref l]) Q E s:=by
 refine callType_new F.called_enumerate (by decide) (F.typeCall_enumerate_1 _) (F.newCall_enumerate_1 _) (λobj=>F.args_object_init_2 obj _) F.entry_enumerate_new (SD κ l items) ⟨hl,?_⟩
 have hz:(s.heap.push (HU κ l)).objs.size=s.heap.objs.size+1:=Heap.size_push ..
 have g1:((s.heap.push (HU κ l)).push { cls:=.type "enumerate",data:=.fields #[.none,.bool false,.ref s.heap.objs.size,rawInt 0,.none,.none] }).get? (s.heap.push (HU κ l)).objs.size=some _:=Heap.get?_push_size _ rfl
 rw [hz] at g1
 refine⟨⟨_,by rw [hz]; exact g1,rfl⟩,?_⟩
 rw [hz]
 exact h _ g1 ((JE κ s.heap l).mv λo e=>Heap.get?_push_of_some _ e) λb o e=>Heap.get?_push_of_some _ (Heap.get?_push_of_some _ e)
end
def WI(K:Frag)(κ:Bool)(a:Addr)(xs:List V):It :=
 ⟨λi H=>SqK κ K H a xs/\i<xs.length,λi H x H'=>∃T p,x=.ref T/\H T=none/\H'=BG H T (.tup [.int i,p])/\xs[i]?=some p,λi H=>SqK κ K H a xs/\xs.length<=i⟩
structure WA (κ:Bool) (e it a:Addr) (k:Nat) (h:Heap):Prop where
 e:∃old,IsEnum h e it (k:Int) old
 i:ItAt κ h it a k
theorem P6{P:Program}{w:World}{K:Frag}{es:List Expr}{j:Nat}{pos:Pos}(κ:Bool)(e it a:Addr)(xs:List V)(ei:e≠it)(ae:a≠e)(ai:a≠it) :
  Turn P w K (.Tuple es j pos) (WI K κ a xs) [e,it] e (WA κ e it a) where
 mem:=by simp
 obj:=λi h st c hc=>by
  simp only [List.mem_cons,List.not_mem_nil,or_false] at hc
  rcases hc with rfl | rfl
  ·obtain⟨o,q⟩:=st.e
   exact⟨_,q,λv q=>by cases q⟩
  ·exact st.i.lies
 keep:=λi h h' st k=>by
  obtain⟨o,q⟩:=st.e
  exact⟨⟨o,k e (by simp) _ q⟩,st.i.mv λo e=>k it (by simp) o e⟩
 item:=by
  intro X hP hw hK hc i pins s σ H E I hf st hg
  subst hP hw hK
  obtain⟨ha,hi⟩:=hg
  obtain⟨us,r1,q1⟩:=ha.at I
  obtain⟨u,hu,ru⟩:=r1.get (List.getElem?_eq_getElem hi)
  obtain⟨old,ee⟩:=st.e
  have l1:=r1.length
  refine wpAny_pyNext_enum_itemD (Qy (κ:=κ) (A:=X.A.in1) (I.ok.hd hc) it a ai us.toArray) ee ⟨st.i,q1⟩ (by simp; omega) ei (by simp [ei,ae.symm]) λx h' tk hp a1 a2 a3 a4 a5=>⟨_,rfl,?_⟩
  have hxu:x=u:=by
   have e2:us[i]?=some x:=by simpa using hp
   rw [hu] at e2
   exact(Option.some.inj e2).symm
  subst hxu
  refine wpAny_letOwnedTupleGo_enum a1 λh2 b1 b2=>?_
  have hT:H s.heap.objs.size=none:=I.hok.fresh (Nat.le_refl _)
  have kk:∀c o,c∉[e,it]->s.heap.get? c=some o->h2.get? c=some o:=λc o hc z=>by
   simp only [List.mem_cons,List.not_mem_nil,or_false,not_or] at hc
   exact b2.extBut _ _ hc.1 (a5 c o hc.1 hc.2 z)
  have I2:Inv X pins σ (BG H s.heap.objs.size (.tup [.int i,xs[i]])) { s with heap:=h2,toks:=tk+1 }:=by
   refine I.turnLaid (t':=tk+1) (ch:=[e,it]) hf kk (Nat.le_refl _) ?_
   have nT:s.heap.objs.size≠e:=Nat.ne_of_gt (Heap.lt_size ee)
   exact⟨by show 2<=sizeLine; decide,[.int i tk,x],.cons ⟨_,rfl⟩ (.cons ru .nil),⟨_,b2.extBut _ _ nT a3,rfl,_,rfl,rfl,rfl⟩⟩
  refine⟨.ref s.heap.objs.size,_,I2,rfl,⟨_,_,rfl,hT,rfl,List.getElem?_eq_getElem hi⟩,⟨⟨_,b1⟩,a2.1.eb b2.extBut ei.symm⟩,λc hc=>?_⟩
  have hcn:H c=none:=(hf c hc).1
  have hlt:c≠s.heap.objs.size:=λz=>by
   obtain⟨o,ho⟩:∃o,s.heap.get? c=some o:=by
    simp only [List.mem_cons,List.not_mem_nil,or_false] at hc
    rcases hc with rfl | rfl
    ·exact⟨_,ee⟩
    ·obtain⟨o,q,_⟩:=st.i.lies; exact⟨o,q⟩
   rw [z] at ho
   exact Nat.lt_irrefl _ (Heap.lt_size ho)
  rw [AT hlt]; exact hcn
 done:=by
  intro X hP hw hK hc i pins s σ H E I hf st hg
  subst hP hw hK
  obtain⟨ha,hi⟩:=hg
  obtain⟨us,r1,q1⟩:=ha.at I
  obtain⟨old,ee⟩:=st.e
  have l1:=r1.length
  refine wpAny_pyNext_enum_endD (OY (κ:=κ) (A:=X.A.in1) (I.ok.hd hc) it a us.toArray i (by simp; omega)) ee ⟨st.i,q1,rfl⟩ λh' kk=>⟨rfl,?_⟩
  refine I.turnedL (t':=s.toks) (ch:=[e,it]) hf λc o hc e=>?_
  simp only [List.mem_cons,List.not_mem_nil,or_false,not_or] at hc
  exact kk c o hc.2 e
 self:=λA i s Q E st h=>by
  obtain⟨old,ee⟩:=st.e
  exact wpAny_pyIter_enum ee h
section
variable {X:Cx}{e1:Expr}{es:List Expr}{j:Nat}{tpos p pos:Pos}{te:TE}
def W5(K:Frag)(te:TE):TI:=λσ H R=>te σ H λv H1=>∃κ a xs,v=.ref a/\SqK κ K H1 a xs/\R (WI K κ a xs) H1
theorem TU(hg:Gl X "enumerate")(hm:X.mg "enumerate"=none)(he:PE X e1 te)(hs:starEach [e1] X.env=[(false,eval e1 X.env)]:=by rfl) :
  PI X (.Tuple es j tpos) (.Call (.Name "enumerate" p) [e1] [] pos) (W5 X.K te):=by
 intro pins s σ H R I h
 refine wpAny_Call_Name_kw (Dz I hg hm boot_enumerate ?_)
 refine PyProof.Rows.callWith_type1 ?_ hs rfl
 rw [hs]
 refine Calls.spliced_cons (thn (he pins s σ H _ I h) λu s1 ⟨x,H1,I1,r1,κ,a,xs,ex,hq,q⟩=>Calls.spliced_nil ?_)
 subst ex
 cases r1
 obtain⟨us,r1',q1⟩:=hq.at I1
 have la:a<s1.heap.objs.size:=by obtain⟨o,e⟩:=q1.lies; exact Heap.lt_size e
 refine KA q1 λh' hz hi hk=>?_
 refine wpAny_pyIter_enum hz ?_
 refine⟨s1.heap.objs.size+1,[s1.heap.objs.size+1,s1.heap.objs.size],_,WI X.K κ a xs,H1,rfl,I1.kept (t':=s1.toks) hk,P6 κ _ _ a xs (by show (_:Nat)≠(_:Nat); omega) (Nat.ne_of_lt (Nat.lt_succ_of_lt la)) (Nat.ne_of_lt la),⟨⟨_,hz⟩,hi⟩,λc hc=>?_,q⟩
 have hge:s1.heap.objs.size<=c:=by
  simp only [List.mem_cons,List.not_mem_nil,or_false] at hc
  rcases hc with rfl | rfl
  ·exact Nat.le_succ _
  ·exact Nat.le_refl _
 exact I1.fpOk hge (I1.hok.fresh hge)
end
end L2
namespace Dp
open PySem PySem.Spec PyProof.Rows L2
def E3:Nat->List D->List D
 | _,[]=>[]
 | k,x::r=>.tup [.int (k:Int),x]::E3 (k+1) r
theorem Kf:∀(k:Nat) (ds:List D),(E3 k ds).length=ds.length
 | _,[]=>rfl
 | k,x::r=>by show (E3 (k+1) r).length+1=r.length+1; rw [Kf (k+1) r]
theorem Kg:∀(k:Nat) (ds:List D) (i:Nat),(E3 k ds)[i]?=(ds[i]?).map λx=>.tup [.int ((k+i:Nat):Int),x]
 | _,[],i=>by simp [E3]
 | k,x::r,0=>rfl
 | k,x::r,i+1=>by
  show (E3 (k+1) r)[i]?=(r[i]?).map _
  rw [Kg (k+1) r i,show k+1+i=k+(i+1) by omega]
section
variable {K:Frag}
theorem NN{M:Addr->Prop}{H:Hp}{κ:Bool}{a:Addr}{vs:List V}{ds:List D}(hs:Ats K M H ds vs){i:Nat}{M':Addr->Prop}{H':Hp}(pr:Pres M H M' H')(h1:SqK κ K H' a vs)(dom:∀a,M' a->∃o,H' a=some o) :
  (∀d,(E3 0 ds)[i]?=some d->(WI K κ a vs).go i H'/\∀x H2,(WI K κ a vs).yld i H' x H2->Grow H' H2/\At K M' H2 d x)/\((E3 0 ds).length<=i->(WI K κ a vs).stop i H'):=by
 have l1:=hs.length
 refine⟨λd hd=>?_,λhl=>⟨h1,by rw [Kf] at hl; omega⟩⟩
 rw [Kg,Nat.zero_add] at hd
 cases q1:ds[i]? with
 | none=>rw [q1] at hd; cases hd
 | some d1 =>
  rw [q1] at hd
  have hd':D.tup [.int (i:Int),d1]=d:=Option.some.inj hd
  have i1:i<ds.length:=(List.getElem?_eq_some_iff.mp q1).1
  refine⟨⟨h1,by omega⟩,λx H2 y=>?_⟩
  obtain⟨T,p,rfl,hT,rfl,e1⟩:=y
  obtain⟨v1,f1,a1⟩:=(hs.pres pr).get q1
  rw [e1] at f1
  cases f1
  subst hd'
  exact⟨A9 hT,Dk dom hT ⟨.int (i:Int),[p],rfl,rfl,p,[],rfl,a1,rfl⟩⟩
end
section
variable {X:Cx}{e1:Expr}{es:List Expr}{j:Nat}{tpos p pos:Pos}{κ:Kd}{wa:DW}
def RG(wa:DW):FT:=λn ρ P=>wa n ρ λd n1=>∃xs,Hg d=some xs/\P (E3 0 xs) n1
theorem Pj(hg:Gl X "enumerate")(hm:X.mg "enumerate"=none)(h:DE X e1 κ wa)(hk:κ≠.tp:=by intro z; cases z)(hs:starEach [e1] X.env=[(false,eval e1 X.env)]:=by rfl) :
  DI X (.Tuple es j tpos) (.Call (.Name "enumerate" p) [e1] [] pos) (RG wa):=by
 obtain⟨t,a1,a2⟩:=h
 refine⟨_,TU hg hm a1 hs,λC M H n ρ σ P Rr R w q=>?_⟩
 refine a2 C M H n ρ σ _ _ R w λv H1 d n1 ee f1 r1 p=>?_
 obtain⟨xs,hd,p⟩:=p
 obtain⟨κ1,a,us,rfl,h1,s1⟩:=N7 (r1.shOf R.dom hk) hd
 exact⟨κ1,a,us,rfl,s1 M H1 (Pres.refl _ _),q _ H1 _ n1 ee f1 (λi M' H' pr dom=>NN h1 pr (s1 M' H' pr) dom) p⟩
end
section
variable {X:Cx}{κ κe:Kd}{tg e:Expr}{b:BW}{we:DW}{pos p apos cpos:Pos}{x:Str}{i:Nat}
theorem QE{k n:Nat}(h:k<n):seqIndex? (k:Int) n=some k:=by
 refine(Lq ?_).1
 unfold SO
 rw [if_pos (by omega),if_pos (by omega)]
 simp
end
def Kz:Al:=λ_ _ _=>False
def UB(i:Nat)(we:DW):Al:=λD2 n ρ=>∃xs,ρ[i]?=some (.ow (.lst xs))/\we n ρ λd n1=>∃(k:Nat) (x:D),d=.int (k:Int)/\xs[k]?=some x/\k<2 ^ 60/\D2.nx n1 (ρ.set i (.ow (.lst (xs.eraseIdx k))))
section
variable {X:Cx}{κ κe:Kd}{e:Expr}{st:Stmt}{we:DW}{pos p apos cpos:Pos}{x:Str}{i:Nat}
theorem NO:DS X κ st Kz:=⟨λ_ _ _=>False,λ_ _ _ _ _ _ h=>h.elim,λ_ _ _ _ _ _ _ _ _ _ w=>w⟩
theorem Tx(h:PE X (.Name x p) (CN i))(ha:DE X e κe we)
  (hbase:attributeBase (.Name x p) "pop" X.env (eval (.Name x p) X.env)=eval (.Name x p) X.env:=by rfl)
  (hfew:((backTo cpos (starEach [e] X.env)).all (λx=>!x.1)&&(backToKw cpos (keywordEach [] X.env)).all (λx=>x.1.isSome)
   && decide ([e].length+([]:List Keyword).length+(if ([]:List Keyword).isEmpty then 0 else 1)<30))=true:=by rfl)
  (hline:(apos.endLine==cpos.line)=true:=by rfl) (hst:starEach [e] X.env=(false,eval e X.env)::starEach [] X.env:=by rfl) (hplain:(backTo cpos (starEach [] X.env)).any (·.1)=false:=by rfl)
  (hsw:swapsWith (.Call (.Attribute (.Name x p) "pop" apos) [e] [] cpos) none pos.line X.env=pure false:=by rfl) :
  DS X κ (.Expr (.Call (.Attribute (.Name x p) "pop" apos) [e] [] cpos) pos) (UB i we):=by
 obtain⟨t,a1,a2⟩:=ha
 refine⟨_,O6 (R0 PySem.F.plainAttrs_list PySem.F.slot_list_pop PySem.F.type_list_pop SH h (B7 a1 DL hst) hbase hfew hline hst hplain) hsw,λC M H n ρ σ D2 E R L w=>?_⟩
 obtain⟨xs,hi,w⟩:=w
 obtain⟨a,e1,m,nv,tt⟩:=R.sl i _ hi
 refine⟨.ref a,getD_some e1,OV (show Xh "list" (.lst xs) from rfl) (tt.att nv),?_⟩
 refine a2 C M H n ρ σ _ _ R w λv H1 d n1 ee f1 r1 p=>?_
 obtain⟨k,y,rfl,hx,hk,p⟩:=p
 have R1:=R.step ee f1
 obtain⟨a',e1',m',nv',vs,hH,hat⟩:=R1.sl i _ hi
 rw [e1] at e1'
 cases e1'
 obtain⟨v',ev,hv⟩:=hat.get hx
 have hkl:k<vs.length:=(List.getElem?_eq_some_iff.mp ev).1
 refine⟨a,vs,(k:Int),k,v',rfl,by rw [Lr r1],hH,by omega,by omega,QE hkl,ev,?_⟩
 exact L.nx M _ n1 _ σ (R1.mut (e:=.lst (xs.eraseIdx k)) hi e1 (o:=.lst (vs.eraseIdx k)) ⟨vs.eraseIdx k,Ak,(hat.eraseIdx k).pres (EN m' hH)⟩) p
end
section
variable {X:Cx}{κe:Kd}{tg elt iter:Expr}{ifs:List Expr}{sc:Scope}{pos:Pos}{src:FT}{b:BW}{tt:Ht}{te:DW}
theorem Sf{κ:Kd}{i:Nat}{x:Str}{pos' spos:Pos}(hN:X.N.Nodup)(hix:X.N[i]?=some x)(hx:Loc X.env.scope x)(hc:X.calm=true)(N':List Str)(js:List (Option Nat))(hi:WC X tg iter src)(hg:∀cl C s H fp,DG (A4 X sc N' cl C s H fp) tg b)(ht:∀cl C s H fp,WJ (A4 X sc N' cl C s H fp) ifs tt)(he:∀cl C s H fp,DE (A4 X sc N' cl C s H fp) elt κe te)
  (hB:Hb sc X.env.scope X.N N' js=true) (hsw:swapsWith (.ListComp elt [⟨tg,iter,ifs,0⟩] sc pos) (some (.Name x pos')) spos.line X.env=pure true:=by rfl) (hk:κe≠.tp:=by intro z; cases z)
  (hs:∀x,foldedSetIterable iter X.env x=pure x:=by intro _; rfl)
  (hf:X.fn x=true\/X.env.scope.names.lookup x=some .local:=by first | exact .inl rfl | exact .inr rfl | assumption):DS X κ (.Assign [.Name x pos'] (.ListComp elt [⟨tg,iter,ifs,0⟩] sc pos) spos) (EX i (BY js src b tt te)):=by
 obtain⟨wi,a1,a2⟩:=NT hc N' js hi hg ht he hB hk hs
 refine⟨_,O5 hc N' js a1 hB hN hix hx hsw hs hf,λC M H n ρ σ D2 E R L w=>?_⟩
 refine a2 C M H n ρ σ _ _ R w λv H' d n' e1 f1 r1 p=>?_
 obtain⟨a,rfl,h1,h2⟩:=r1
 exact L.nx _ H' n' _ _ (R.setOw e1 f1 h1 h2) p
end
end Dp
namespace Nt
open PySem PySem.Spec PyProof.Rows L2 Dp
def thn(N:Net)(ts:List BC):Prop:=(∀t∈ts,t∈N.ts)/\ts.Pairwise Bv
def HR(N:Net)(ts:List BC):List BC:=N.ts.filter λt=>decide (t∉ts)
abbrev Eh(w:List Str):D:=.tup (w.map .str)
def UD(t b:Int):Prop:=1<=b/\b<=1000000/\1<=t/\t<=1000000
def walked(M:Net)(a b:Str)(w:List Str)(d:Int):Prop:=(∃r,w=a::r)/\w.getLast?=some b/\walk M w d/\w.length<=30/\∀x∈w,x∈M.ps
def PapOk(M:Net)(t b:Int):List BC->List (List Str)->Prop
 | [],[]=>True
 | u::us,w::ws=>(∃d,walked M u.a u.b w d/\d*b<=u.len*t)/\PapOk M t b us ws
 | _,_=>False
def Nq:W2:=λss n P=>∃(M:Net) (a b:Str) (w:List Str) (d:Int),ss=[.sh (enc M),.sh (.str a),.sh (.str b),.sh (Eh w)]/\okN M/\walked M a b w d/\P (.int d) n
def FN:W2:=λss n P=>∃(M:Net) (t b:Int) (u:BC) (w:List Str) (d:Int),ss=[.sh (enc M),.sh (.tup [.int t,.int b]),.sh (AW u),.sh (Eh w)]/\okN M/\UD t b/\walked M u.a u.b w d/\d*b<=u.len*t/\P .non n
def LY(N:Net)(ts:List BC)(t b:Int)(ws:List (List Str)):Prop:=∀lo:List BC,lo.Perm (HR N ts)->E6 lo->PapOk ⟨N.ps,ts⟩ t b lo ws
def Jm:W2:=λss n P=>∃(N:Net) (ts:List BC) (t b:Int) (ws:List (List Str)),ss=[.sh (enc N),.sh (.tup [.int t,.int b]),.sh (enc ⟨N.ps,ts⟩),.sh (.tup (ws.map Eh))]/\okN N/\N.ps.length<=24/\thn N ts/\UD t b/\LY N ts t b ws/\P (.bl true) n
def Nk:W2:=λss n P=>∃(N:Net) (ts:List BC) (t b:Int) (ws:List (List Str)),ss=[.sh (enc N),.sh (.tup [.int t,.int b]),.sh (enc ⟨N.ps,ts⟩),.sh (.tup (ws.map Eh))]/\okN N/\N.ps.length<=24/\thn N ts/\UD t b/\LY N ts t b ws/\P .non n
def FL:W2:=λss n P=>∃(N:Net) (ts:List BC) (t b:Int),ss=[.sh (enc N),.sh (.tup [.int t,.int b]),.sh (enc ⟨N.ps,ts⟩)]/\okN N/\thn N ts/\UD t b /\
 (∀ws,LY N ts t b ws->(∀u∈HR N ts,Er ⟨N.ps,ts⟩ t b u)->P (.tup (ws.map Eh)) n)/\((∃u∈HR N ts,¬Er ⟨N.ps,ts⟩ t b u)->P .non n)
def MB(N:Net)(ts:List BC)(t b:Int):Prop:=∀u∈N.ts,Er ⟨N.ps,ts⟩ t b u
noncomputable def FA(N:Net)(ts:List BC)(t b:Int):Bool:=@decide (MB N ts t b) (Classical.propDecidable _)
theorem allNearB_iff{N:Net}{ts:List BC}{t b:Int}:FA N ts t b=true↔MB N ts t b:=by
 unfold FA
 exact @decide_eq_true_iff _ (Classical.propDecidable _)
def Gj:W2:=λss n P=>∃(N:Net) (ts:List BC) (t b:Int),ss=[.sh (enc N),.sh (.tup [.int t,.int b]),.sh (enc ⟨N.ps,ts⟩)]/\okN N/\thn N ts/\UD t b/\P (.bl (FA N ts t b)) n
def Jl:W2:=λss n P=>∃(N:Net) (t b:Int),ss=[.fd,.sh (enc N),.sh (.tup [.int t,.int b])]/\okN N/\UD t b/\N.ts.length+2<=n/\∀(ts:List BC) (n':Nat),thn N ts->n - (N.ts.length+2)<=n'->P (enc ⟨N.ps,ts⟩) n'
def Dq:Al:=(Ae (A0 4 (Aa Hs (AD (AK (AA 0)) (AD (AK (AA 3)) Ac))))
 (Ae (BD (CP (AO (AS (Ef false) (AA 4) (wC D.non))) (CP (AO (AS (Gp true) (AS A5 (AA 3) (wC (D.int 0))) (AA 1))) (AO (AS (Gp true) (AS A5 (AA 3) (Uq (wC (D.int 1)))) (AA 2))))) (As (wC D.non)) Au)
 (As (AA 4))))
def FZ:Al:=(Ae (A0 4 (Aa Nq (AD (AK (AA 0)) (AD (AK (AS A5 (AA 2) (wC (D.int 0)))) (AD (AK (AS A5 (AA 2) (wC (D.int 1)))) (AD (AK (AA 3)) Ac))))))
 (Ae (BD (AO (AS (Ef false) (AA 4) (wC D.non))) (As (wC (D.str "way"))) Au)
 (As (WK (AO (Aa EV (AD (AK (AA 4)) (AD (AK (AA 1)) (AD (AK (AS A5 (AA 2) (wC (D.int 2)))) Ac))))) (wC D.non) (wC (D.str "far"))))))
def Fa:Al:=(Ae (BD (CP (B8 (AO (Aa Fd (AD (AK (AA 0)) (AD (AK (AA 2)) Ac))))) (B8 (AO (Aa Ds (AD (AK (DQ Ee (AF (Aa Hf (AD (AK (AA 0)) (AD (AK (AA 2)) Ac))) AZ))) (AD (AK (AA 3)) Ac)))))) Kz Au)
 (Ae (Ek (RG (Aa Hf (AD (AK (AA 0)) (AD (AK (AA 2)) Ac)))) (D6 2 (Ao (AX 4) (Ao (AX 5) CS))) (Ae (A0 6 (Aa FN (AD (AK (AA 2)) (AD (AK (AA 1)) (AD (AK (AA 5)) (AD (AK (AS A5 (AA 3) (AA 4))) Ac))))))
 (BD (AO (AS (Ef true) (AA 6) (wC D.non))) Kz Au)))
 (As (wC (D.bl true)))))
def EK:Al:=(Ae (BD (CP (B8 (AO (Aa Nm (AD (AK (AA 1)) Ac)))) (AO (AS (Gp true) (DQ JM (AF (AS A5 (AA 1) (wC (D.int 0))) AZ)) (DQ JM (AF (AS A5 (AA 0) (wC (D.int 0))) AZ))))) (As (wC (D.bl false))) Au)
 (Ae (A0 2 (BY [none] (BL (AS A5 (AA 0) (wC (D.int 1)))) (AX 0) CM (DQ JM (AF (AA 0) AZ))))
 (As (AS (Dl true) (wC (D.bl false)) (BY [some 2,none] (BL (AS A5 (AA 1) (wC (D.int 1)))) (AX 1) CM (AS (Dl false) (DQ JM (AF (AA 1) AZ)) (AA 0)))))))
def E8:Al:=(Ae (A0 3 (BY [some 2,some 1,none] (BL (Aa Hf (AD (AK (AA 0)) (AD (AK (AA 2)) Ac)))) (AX 2) CM (Aa HJ (AD (AK (AA 0)) (AD (AK (AA 1)) (AD (AK (AA 2)) Ac))))))
 (As (WK (AO (AS (Dl false) (wC D.non) (AA 3))) (wC D.non) (DQ CU (AF (AA 3) AZ)))))
def E_:Al:=(Ae (Ek (BL (AS A5 (AA 0) (wC (D.int 1)))) (D6 3 (Ao (AX 3) (Ao (AX 4) (Ao (AX 5) CS)))) (Ae (A0 6 (KJ (Aa CT (AD (Ei (AS A5 (AA 2) (wC (D.int 1)))) (AD (AK (AA 3)) Ac))) (AA 4)))
 (BD (CP (AO (AS (Ef false) (AA 6) (wC D.non))) (AO (AS (f2 λi j=>D.bl (decide (j<i))) (AS Ci (AA 6) (AS A5 (AA 1) (wC (D.int 1)))) (AS Ci (AA 5) (AS A5 (AA 1) (wC (D.int 0))))))) (As (wC (D.bl false))) Au)))
 (As (wC (D.bl true))))
def Nc:Al:=(Ae (A0 7 (Aa Hs (AD (AK (AA 2)) (AD (AK (AS A5 (AA 3) (AA 5))) Ac))))
 (Ae (BD (CP (AO (AS (Ef false) (AA 7) (wC D.non))) (CP (AO (AS (Gp true) (AS A5 (AS A5 (AA 3) (AA 5)) (wC (D.int 0))) (AS A5 (AA 6) (wC (D.int 0))))) (AO (AS (Gp true) (AS A5 (AS A5 (AA 3) (AA 5)) (Uq (wC (D.int 1)))) (AS A5 (AA 6) (wC (D.int 1))))))) (As (Bt (AF (wC (D.str "way")) (AF (AA 5) AZ)))) Au)
 (BD (AO (AS (f2 λi j=>D.bl (decide (j<i))) (AS Ci (AA 7) (AS A5 (AA 1) (wC (D.int 1)))) (AS Ci (AS A5 (AA 6) (wC (D.int 2))) (AS A5 (AA 1) (wC (D.int 0)))))) (As (Bt (AF (wC (D.str "far")) (AF (AA 5) AZ)))) Au)))
def Dx:Al:=(Ae (BD (CP (B8 (AO (Aa Fd (AD (AK (AA 0)) (AD (AK (AA 2)) Ac))))) (B8 (AO (Ej "tuple" (AA 3))))) (As (Bt (AF (wC (D.str "shape")) (AF (wC (D.int 0)) AZ)))) Au)
 (Ae (A0 4 (Aa DM (AD (AK (BY [some 2,none] (BL (AS A5 (AA 0) (wC (D.int 1)))) (AX 1) (AO (AS (Dl true) (AA 1) (AS A5 (AA 0) (wC (D.int 1))))) (AA 1))) Ac)))
 (Ae (BD (AO (AS (Gp true) (DQ Ee (AF (AA 3) AZ)) (DQ Ee (AF (AA 4) AZ)))) (As (Bt (AF (wC (D.str "shape")) (AF (wC (D.int 0)) AZ)))) Au)
 (Ae (Ek (RG (AA 4)) (D6 2 (Ao (AX 5) (Ao (AX 6) CS))) Nc)
 (As (wC D.non))))))
def FK:Al:=(Ae (BD (HL (AO (AS (Gp false) (AA 4) (wC (D.int 1)))) (AO (AS Vj (A7 5) (Ff AZ)))) (UB 5 (Aa BF (AD (BE 0) (AD (AK (DQ Ee (AF (A7 5) AZ))) Ac)))) Au)
 (As (Bt (AF (AS A5 (AA 1) (wC (D.int 0))) (AF (DQ CU (AF (A7 5) AZ)) AZ)))))
def Dr:Al:=(Ae (A0 3 (Aa FD (AD (AK (AA 1)) (AD (AK (AA 2)) Ac))))
 (Ae (A0 4 (Aa BF (AD (BE 0) (AD (AK (wC (D.int 4))) Ac))))
 (Ae (BD (AO (AS (Gp false) (AA 4) (wC (D.int 0)))) (As (Bt (AF (AS A5 (AA 1) (wC (D.int 0))) (AF (DQ CU (AF (BY [some 0,none] (BL (AS A5 (AA 1) (wC (D.int 1)))) (AX 1) (AO (AS (f2 λi j=>D.bl (decide (j<i))) (Aa BF (AD (BE 0) (AD (AK (wC (D.int 3))) Ac))) (wC (D.int 0)))) (AA 1)) AZ)) AZ)))) Au)
 (Ae (EX 5 (BY [some 3,some 0,none] (BL (AS A5 (AA 1) (wC (D.int 1)))) (AX 2) (CP (AO (AS (Dl false) (AA 2) (AS A5 (AA 0) (wC (D.int 1))))) (AO (AS (Gp false) (Aa BF (AD (BE 1) (AD (AK (wC (D.int 3))) Ac))) (wC (D.int 0))))) (AA 2)))
 FK))))
def Kr:Al:=(Ae (Ek (EB (AF (wC (D.int 5)) AZ)) (AX 2) (Ae (A0 3 (Aa S1 (AD (BE 1) (AD (AK (wC (D.int 8))) (AD (AK (wC (D.int 14))) Ac)))))
 (Ae (A0 4 (Aa HH (AD (BE 1) Ac)))
 (Ae (A0 5 (Aa Jl (AD (BE 1) (AD (AK (AA 3)) (AD (AK (AS A5 (Ff (AF (AA 4) (AF (Aa HH (AD (BE 1) Ac)) AZ))) (Aa BF (AD (BE 1) (AD (AK (wC (D.int 2))) Ac))))) Ac)))))
 (Ae (A0 6 (DQ JM (AF (Bt (AF (AA 3) (AF (AA 5) AZ))) AZ)))
 (Ae (Ek (EB (AF (wC (D.int 2)) AZ)) (AX 7) (Ae (A0 8 (Aa FL (AD (AK (AA 3)) (AD (AK (AA 4)) (AD (AK (AA 5)) Ac)))))
 (BD (B8 (AO (Aa Gj (AD (AK (AA 3)) (AD (AK (AA 4)) (AD (AK (AA 5)) Ac)))))) (BD (AO (AS (Ef true) (AA 8) (wC D.non))) (As (wC (D.bl false))) Au) (BD (CP (AO (AS (Ef false) (AA 8) (wC D.non))) (AO (AS (Ef true) (Aa Nk (AD (AK (AA 3)) (AD (AK (AA 4)) (AD (AK (AA 5)) (AD (AK (AA 8)) Ac))))) (wC D.non)))) (As (wC (D.bl false))) (BD (AO (AS (Vk true) (Aa Jm (AD (AK (AA 3)) (AD (AK (AA 4)) (AD (AK (AA 5)) (AD (AK (AA 8)) Ac))))) (wC (D.bl true)))) (As (wC (D.bl false))) Au)))))
 (BD (CP (AO (AS (Gp true) (DQ JM (AF (Bt (AF (AA 3) (AF (AA 5) AZ))) AZ)) (AA 6))) (AO (AS Vj (Aa FL (AD (AK (AA 3)) (AD (AK (AA 4)) (AD (AK (AA 3)) Ac)))) (Bt AZ)))) (As (wC (D.bl false))) Au)))))))
 (As (wC (D.bl true))))
theorem thn.okN{N:Net}(okn:okN N){ts:List BC}(h:thn N ts):okN ⟨N.ps,ts⟩:=⟨N5 okn.1 h.1 h.2,okn.2.1,by
 have:=sub_len (CC h.2) (CC okn.1.trise) h.1
 have:=okn.2.2
 show ts.length<=60
 omega⟩
theorem thn.thinB{N:Net}{ts:List BC}(h:thn N ts):thinB N (enc ⟨N.ps,ts⟩)=true:=thinB_iff.mpr ⟨ts,rfl,h.1,h.2⟩
theorem PapOk.len{M:Net}{t b:Int}:∀{us:List BC} {ws:List (List Str)},PapOk M t b us ws->ws.length=us.length
 | [],[],_=>rfl
 | u::us,w::ws,h=>by rw [List.length_cons,List.length_cons,PapOk.len h.2]
theorem NC{N:Net}(ok:N.Ok){s x:Str}:∀(k:Nat) (d:Int),d.toNat<=k->Wk N s x d->∃e,Least N s x e/\e<=d
 | k,d,hk,h=>by
  by_cases c:∃d',Wk N s x d'/\d'<d
  ·obtain⟨d',h',lt⟩:=c
   have p':=h'.pos ok
   match k with
   | 0=>omega
   | k+1 =>
    obtain⟨e,he,hle⟩:=NC ok k d' (by omega) h'
    exact⟨e,he,by omega⟩
  ·exact⟨d,⟨h,λd' h'=>Classical.byContradiction λz=>c ⟨d',h',by omega⟩⟩,Int.le_refl _⟩
theorem SG{N:Net}(okn:okN N){ts:List BC}(h:thn N ts){t b:Int}(bt:b<=t)(b0:1<=b){u:BC}(hu:u∈ts):Er ⟨N.ps,ts⟩ t b u:=by
 have okm:=h.okN okn
 have ed:=(Pf (N:=⟨N.ps,ts⟩) hu).1
 have hw:Wk ⟨N.ps,ts⟩ u.a u.b (0+u.len):=.snoc .nil ed
 rw [Int.zero_add] at hw
 obtain⟨e,he,hle⟩:=NC okm.1 _ _ (Nat.le_refl _) hw
 have lp:=(ed.pos okm.1).1
 refine⟨e,he,?_⟩
 have h1:e*b<=u.len*b:=Int.mul_le_mul_of_nonneg_right hle (by omega)
 have h2:u.len*b<=u.len*t:=Int.mul_le_mul_of_nonneg_left bt (by omega)
 omega
theorem JA{M:Net}(okm:okN M){a b:Str}{w:List Str}{d:Int}(h:walked M a b w d):VU M (Eh w)=.int d:=by
 obtain⟨⟨r,rfl⟩,_,hw,_,hin⟩:=h
 exact PF okm.1 (hin _ List.mem_cons_self) hw
section
variable {ss:List Slot}{n:Nat}{Pd:D->Nat->Prop}
theorem FO(h:Nq ss n Pd):Dq (EE Pd) n (ss++List.replicate 1 .no):=by
 obtain⟨M,a,b,w,d,rfl,okm,hw,p⟩:=h
 have e:=JA okm hw
 obtain⟨⟨r,rfl⟩,hl,hwk,h30,hin⟩:=hw
 unfold Dq
 refine⟨M,Eh (a::r),rfl,okm.1,by have:=okm.2.1; omega,okm.2.2,II okm.1 h30 hin,?_⟩
 rw [e]
 refine⟨rfl,.str a,AL (j:=0) rfl,?_⟩
 refine CW (λc=>absurd c (by simp)) λ_=>?_
 refine⟨1,rfl,.str b,PN hl,?_⟩
 refine CW (λc=>absurd c (by simp)) λ_=>?_
 exact p
theorem Ih(h:FN ss n Pd):FZ (EE Pd) n (ss++List.replicate 1 .no):=by
 obtain⟨M,t,b,u,w,d,rfl,okm,⟨b1,b2,t1,t2⟩,hw,hle,p⟩:=h
 unfold FZ
 refine⟨_,AL (j:=0) rfl,_,AL (j:=1) rfl,M,u.a,u.b,w,d,rfl,okm,hw,⟨rfl,?_⟩⟩
 refine⟨_,AL (j:=2) rfl,d,t,b,u.len,rfl,b1,b2,t1,t2,?_⟩
 rw [decide_eq_true hle]
 exact p
theorem Ii(h:Jm ss n Pd):Fa (EE Pd) n (ss++List.replicate 3 .no):=by
 obtain⟨N,ts,t,b,ws,rfl,okn,l24,ht,tm,hp,p⟩:=h
 have okm:=ht.okN okn
 have l60:=okn.2.2
 have sz:=K7 okm
 have szl:=PySem.sizeLine_eq
 unfold Fa
 refine⟨N,enc ⟨N.ps,ts⟩,rfl,okn.1,l24,l60,(Ke (by decide) _).1 _ (Nat.le_refl _) sz.1,by have:=sz.2.1; omega,by have:=sz.2.2; omega,?_⟩
 show if (!thinB N (enc ⟨N.ps,ts⟩))=true then _ else _
 rw [ht.thinB]
 refine Bk ⟨N,ts,rfl,okn.1,by omega,ht.1,λlo p1 p2=>⟨_,_,rfl,rfl,?_⟩⟩
 have hlen:=(hp lo p1 p2).len
 refine⟨_,_,rfl,?_⟩
 show if (!(((ws.map Eh).length:Int)==((lo.map AW).length:Int)))=true then _ else _
 rw [List.length_map,List.length_map,hlen,beq_self_eq_true]
 refine Bk ⟨N,ts,rfl,okn.1,by omega,ht.1,λlo p1 p2=>⟨_,rfl,?_⟩⟩
 have pap:=hp lo p1 p2
 have go:∀(us:List BC) (ws1 ws2:List (List Str)) (s4 s5 s6:Slot),ws1++ws2=ws->PapOk ⟨N.ps,ts⟩ t b us ws2 ->
   Bj (D6 2 (Ao (AX 4) (Ao (AX 5) CS))) (Ae (A0 6 (Aa FN (AD (AK (AA 2)) (AD (AK (AA 1)) (AD (AK (AA 5)) (AD (AK (AS A5 (AA 3) (AA 4))) Ac))))))
 (BD (AO (AS (Ef true) (AA 6) (wC D.non))) Kz Au)) { EE Pd with nx:=As (wC (D.bl true)) (EE Pd) } (E3 ws1.length (us.map AW)) n [.sh (enc N),.sh (.tup [.int t,.int b]),.sh (enc ⟨N.ps,ts⟩),.sh (.tup (ws.map Eh)),s4,s5,s6]:=by
  intro us
  induction us with
  | nil=>intro ws1 ws2 s4 s5 s6 _ _; exact p
  | cons u us ih =>
   intro ws1 ws2 s4 s5 s6 e hk
   match ws2,hk with
   | w::ws2,⟨⟨d,hw,hle⟩,hk⟩ =>
    have hat:(ws.map Eh)[ws1.length]?=some (Eh w):=by rw [← e,List.getElem?_map,List.getElem?_append_right (Nat.le_refl _),Nat.sub_self]; rfl
    refine⟨rfl,rfl,_,AL hat,⟨N.ps,ts⟩,t,b,u,w,d,rfl,okm,tm,hw,hle,⟨rfl,?_⟩⟩
    have:=ih (ws1++[w]) ws2 (.sh (.int (ws1.length:Int))) (.sh (AW u)) (.sh .non) (by rw [List.append_assoc]; exact e) hk
    rw [List.length_append,List.length_singleton] at this
    exact this
 exact go lo [] ws _ _ _ rfl pap
theorem G0(h:Fd ss n Pd):EK (EE Pd) n (ss++List.replicate 1 .no):=by
 obtain⟨N,d,rfl,ok,l1,l2,hf,hs,hd,p⟩:=h
 have szl:=PySem.sizeLine_eq
 unfold EK
 refine⟨[d],rfl,rfl,?_⟩
 show if (!ON d)=true then _ else _
 cases c:ON d with
 | false =>
  have:thinB N d=false:=by
   rw [Bool.eq_false_iff]
   intro z
   rw [RN ok l1 l2 (thinB_iff.mp z)] at c
   cases c
  rw [this] at p
  exact B6 p
 | true =>
  obtain⟨ps,ts,rfl,hps,k1,k2,hts,hp⟩:=SE c
  rw [← RO ok hps hts hp] at p
  have ips:∀(qs:List Str),(∀q∈qs,D1 q)->qs.length<=24->MT (.tup (qs.map .str)):=λqs hq hl=>by
   have it:∀d∈qs.map D.str,item d:=λd hd=>by
    obtain⟨x,hx,rfl⟩:=List.mem_map.mp hd
    exact C8 (hq x hx)
   have s1:=K6 (k:=451) λd hd=>Nat.succ_le_succ (it d hd).2.1
   have d1:FS (qs.map D.str)<=1:=dps_le.mpr λd hd=>(it d hd).2.2
   rw [List.length_map] at s1
   exact LA (B:=1000001) (by decide) (fines_iff.mpr λd hd=>(it d hd).1) (by show FS (qs.map D.str)+1<=100; omega) (by show Jo (qs.map D.str)<=200000; omega)
  have its:∀t:BC,D1 t.a/\D1 t.b/\1<=t.len/\t.len<=1000000->MT (AW t):=λt ht=>by
   have it:=NF (C8 ht.1) (C8 ht.2.1) ht.1.2.1 ht.2.1.2.1 (l:=t.len) (by omega)
   exact LA (B:=1000001) (by decide) it.1 (by have:=it.2.2; show NP (AW t)<=100; unfold AW; omega) (by have:=it.2.1; show MP (AW t)<=200000; unfold AW; omega)
  have nts:∀t∈N.ts,D1 t.a/\D1 t.b/\1<=t.len/\t.len<=1000000:=λt ht=>by
   obtain⟨m1,m2,_,m4,m5⟩:=ok.tin t ht
   exact⟨ok.names _ m1,ok.names _ m2,m4,m5⟩
  refine Bk ⟨_,AL (j:=0) rfl,_,rfl,ips ps hps k1,_,AL (j:=0) rfl,_,rfl,ips N.ps ok.names l1,?_⟩
  show if (!(BH (.tup (ps.map .str))==BH (.tup (N.ps.map .str))))=true then _ else _
  cases e:BH (.tup (ps.map .str))==BH (.tup (N.ps.map .str)) with
  | false=>rw [e] at p; exact B6 p
  | true =>
   rw [e,Bool.true_and] at p
   refine Bk ⟨_,AL (j:=1) rfl,by show (N.ts.map AW).length<=10000000; rw [List.length_map]; omega,?_⟩
   refine BB (λd=>.str (BH d)) (λρ=>∃s,ρ=[s]) _ _ _ _ ?_ ⟨_,rfl⟩ ?_
   ·rintro d hd ρ m nx ⟨s,rfl⟩ hnx
    obtain⟨u,hu,rfl⟩:=List.mem_map.mp hd
    exact⟨_,rfl,its u (nts u hu),hnx _ ⟨_,rfl⟩⟩
   rw [List.nil_append]
   have layL:EH (.lst ((N.ts.map AW).map λd=>.str (BH d))):=by
    refine C6 (B:=0) (by decide) (fines_iff.mpr λd hd=>?_) ?_
    ·obtain⟨e,he,rfl⟩:=List.mem_map.mp hd
     obtain⟨u,hu,rfl⟩:=List.mem_map.mp he
     exact HM (nts u hu).1 (nts u hu).2.1
    ·have:FS ((N.ts.map AW).map λd=>D.str (BH d))<=0:=dps_le.mpr λd hd=>by
      obtain⟨e,he,rfl⟩:=List.mem_map.mp hd
      exact Nat.le_refl _
     show FS _+1<=100
     omega
   refine⟨_,AL (j:=1) rfl,by show (ts.map AW).length<=10000000; rw [List.length_map]; omega,?_⟩
   refine BB (λd=>.bl ((N.ts.map AW).any λe=>BH e==BH d)) (λρ=>∃s,ρ=[.sh (.lst ((N.ts.map AW).map λd=>.str (BH d))),s]) _ _ _ _ ?_ ⟨_,rfl⟩ ?_
   ·rintro d hd ρ m nx ⟨s,rfl⟩ hnx
    obtain⟨t,ht,rfl⟩:=List.mem_map.mp hd
    refine⟨_,rfl,its t (hts t ht),C6 (B:=0) (d:=.str _) (by decide) (HM (hts t ht).1 (hts t ht).2.1) (Nat.zero_le _),layL,_,rfl,?_⟩
    show nx (.bl (((N.ts.map AW).map λd=>.str (BH d)).any λy=>Eg y (.str (BH (AW t))))) m _
    rw [List.any_map]
    exact hnx _ ⟨_,rfl⟩
   ·rw [List.nil_append]
    refine EI ?_
    exact p
theorem Fx(h:Nk ss n Pd):Dx (EE Pd) n (ss++List.replicate 4 .no):=by
 obtain⟨N,ts,t,b,ws,rfl,okn,l24,ht,⟨b1,b2,t1,t2⟩,hp,p⟩:=h
 have okm:=ht.okN okn
 have l60:=okn.2.2
 have sz:=K7 okm
 have szl:=PySem.sizeLine_eq
 unfold Dx
 refine⟨N,enc ⟨N.ps,ts⟩,rfl,okn.1,l24,l60,(Ke (by decide) _).1 _ (Nat.le_refl _) sz.1,by have:=sz.2.1; omega,by have:=sz.2.2; omega,?_⟩
 show if (!thinB N (enc ⟨N.ps,ts⟩))=true then _ else _
 rw [ht.thinB]
 refine Bk ⟨_,AL (j:=1) rfl,by show (N.ts.map AW).length<=10000000; rw [List.length_map]; omega,?_⟩
 refine Et (λd=>!((ts.map AW).any λy=>Eg y d)) id (λρ=>∃s,ρ=[.sh (enc ⟨N.ps,ts⟩),s]) _ _ _ _ ?_ ⟨_,rfl⟩ ?_
 ·rintro d hd ρ m nx sk ⟨s,rfl⟩ h1 h2
  obtain⟨t,ht',rfl⟩:=List.mem_map.mp hd
  refine⟨_,AL (j:=1) rfl,Lo okn.1 ht',(Ex okn.1 ht.1).1,_,rfl,?_⟩
  exact CW (λc=>h1 _ ⟨_,rfl⟩ c) λc=>h2 _ ⟨_,rfl⟩ (Bool.eq_false_iff.mpr c)
 rw [List.nil_append,List.map_id]
 have e:(N.ts.map AW).filter (λd=>!((ts.map AW).any λy=>Eg y d))=(HR N ts).map AW:=by
  unfold HR
  rw [List.filter_map]
  congr 1
  refine List.filter_congr λt _=>?_
  show (!((ts.map AW).any λy=>Eg y (AW t)))=decide (t∉ts)
  rw [L_,decide_not]
 rw [e]
 refine⟨_,HR N ts,rfl,rfl,Nat.lt_of_le_of_lt (List.length_filter_le _ _) (by omega),λlo p1 p2=>?_⟩
 have pap:=hp lo p1 p2
 refine⟨_,_,rfl,rfl,_,_,rfl,rfl,?_⟩
 show if (!(((ws.map Eh).length:Int)==((lo.map AW).length:Int)))=true then _ else _
 rw [List.length_map,List.length_map,pap.len,beq_self_eq_true]
 refine Bk ⟨_,rfl,?_⟩
 have go:∀(us:List BC) (ws1 ws2:List (List Str)) (s5 s6 s7:Slot),ws1++ws2=ws->PapOk ⟨N.ps,ts⟩ t b us ws2 ->
   Bj (D6 2 (Ao (AX 5) (Ao (AX 6) CS))) Nc { EE Pd with nx:=As (wC D.non) (EE Pd) } (E3 ws1.length (us.map AW)) n [.sh (enc N),.sh (.tup [.int t,.int b]),.sh (enc ⟨N.ps,ts⟩),.sh (.tup (ws.map Eh)),.sh (.lst (lo.map AW)),s5,s6,s7]:=by
  intro us
  induction us with
  | nil=>intro ws1 ws2 s5 s6 s7 _ _; exact p
  | cons u us ih =>
   intro ws1 ws2 s5 s6 s7 e hk
   match ws2,hk with
   | w::ws2,⟨⟨d,hw,hle⟩,hk⟩ =>
    have hat:(ws.map Eh)[ws1.length]?=some (Eh w):=by rw [← e,List.getElem?_map,List.getElem?_append_right (Nat.le_refl _),Nat.sub_self]; rfl
    have el:=JA okm hw
    obtain⟨⟨r,rfl⟩,hl,hwk,h30,hin⟩:=hw
    refine⟨rfl,rfl,_,AL hat,⟨N.ps,ts⟩,Eh (u.a::r),rfl,okm.1,by have:=okm.2.1; omega,okm.2.2,II okm.1 h30 hin,?_⟩
    rw [el]
    refine⟨rfl,_,AL hat,.str u.a,AL (j:=0) rfl,_,AL (j:=0) rfl,?_⟩
    refine CW (λc=>absurd c (by simp)) λ_=>?_
    refine⟨_,AL hat,1,rfl,.str u.b,PN hl,_,AL (j:=1) rfl,?_⟩
    refine CW (λc=>absurd c (by simp)) λ_=>?_
    refine⟨_,AL (j:=1) rfl,.inr ⟨by omega,by omega⟩,_,AL (j:=2) rfl,_,AL (j:=0) rfl,.inr ⟨by omega,by omega⟩,?_⟩
    refine CW (λc=>absurd (of_decide_eq_true c:u.len*t<d*b) (by omega)) λ_=>?_
    have:=ih (ws1++[u.a::r]) ws2 (.sh (.int (ws1.length:Int))) (.sh (AW u)) (.sh (.int d)) (by rw [List.append_assoc]; exact e) hk
    rw [List.length_append,List.length_singleton] at this
    exact this
 exact go lo [] ws _ _ _ rfl pap
def Q6(M:Net)(t b:Int):List BC->List (Option (List Str))->Prop
 | [],[]=>True
 | u::us,o::os=>((∀w,o=some w->Way M u.a u.b (some w)/\Es M t b u=true)/\(o=none->Es M t b u=false))/\Q6 M t b us os
 | _,_=>False
theorem Mi{M:Net}{t b:Int}:∀{us:List BC} {os:List (Option (List Str))},Q6 M t b us os->(∃ws,os=ws.map some/\PapOk M t b us ws/\∀u∈us,Er M t b u)\/(os.any Option.isNone=true/\∃u∈us,¬Er M t b u)
 | [],[],_=>.inl ⟨[],rfl,trivial,λu hu=>by cases hu⟩
 | u::us,none::os,h=>.inr ⟨rfl,u,List.mem_cons_self,λz=>by
  have:=h.1.2 rfl
  rw [nearB_iff.mpr z] at this
  cases this⟩
 | u::us,some w::os,h=>by
  obtain⟨hw,hn⟩:=h.1.1 w rfl
  have hn:=nearB_iff.mp hn
  rcases Mi h.2 with ⟨ws,rfl,h1,h2⟩ | ⟨h1,v,h2,h3⟩
  ·refine .inl ⟨w::ws,rfl,⟨?_,h1⟩,λv hv=>?_⟩
   ·obtain⟨d,r,e1,e2,e3,e4,e5,e6⟩:=hw
    obtain⟨d',f1,f2⟩:=hn
    exact⟨d,⟨⟨r,e1⟩,e2,e3,e5,e6⟩,by rw [Least.unique e4 f1]; exact f2⟩
   ·rcases List.mem_cons.mp hv with e | hv
    ·rw [e]; exact hn
    ·exact h2 v hv
  ·exact .inr ⟨by rw [List.any_cons,h1,Bool.or_true],v,List.mem_cons_of_mem _ h2,h3⟩
theorem Pp:∀os:List (Option (List Str)),((os.map Fi).any λy=>Eg y .non)=os.any Option.isNone
 | []=>rfl
 | none::os=>rfl
 | some w::os=>by
  rw [List.map_cons,List.any_cons,List.any_cons,Pp os]
  rfl
theorem OT{M:Net}(ok:M.Ok){t b:Int}:∀{us:List BC} {os:List (Option (List Str))},Q6 M t b us os->FY 0 (os.map Fi)/\FS (os.map Fi)<=1
 | [],[],_=>⟨trivial,Nat.zero_le _⟩
 | u::us,none::os,h=>by
  obtain⟨h1,h2⟩:=OT ok h.2
  exact⟨⟨trivial,h1⟩,by show max 0 (FS (os.map Fi))<=1; omega⟩
 | u::us,some w::os,h=>by
  obtain⟨h1,h2⟩:=OT ok h.2
  obtain⟨d,r,e1,e2,e3,e4,e5,e6⟩:=(h.1.1 w rfl).1
  obtain⟨f1,_,f3⟩:=Gq (B:=0) ok e6
  exact⟨⟨f1,h1⟩,by show max (FS (w.map .str)+1) (FS (os.map Fi))<=1; omega⟩
theorem Hj(h:FL ss n Pd):E8 (EE Pd) n (ss++List.replicate 1 .no):=by
 obtain⟨N,ts,t,b,rfl,okn,ht,⟨b1,b2,t1,t2⟩,p,q⟩:=h
 have okm:=ht.okN okn
 have l60:=okn.2.2
 unfold E8
 refine⟨N,ts,rfl,okn.1,by omega,ht.1,λlo p1 p2=>?_⟩
 have hlo:lo.length<=60:=by rw [p1.length_eq]; exact Nat.le_trans (List.length_filter_le _ _) l60
 refine⟨by show (lo.map AW).length<=10000000; rw [List.length_map]; omega,?_⟩
 have go:∀(P:List D->Nat->Prop),(∀os,Q6 ⟨N.ps,ts⟩ t b lo os->P (os.map Fi) n)->∀(rest:List BC) (acc:List D) (s:Slot),(∀u∈rest,u∈N.ts)->(∀os,Q6 ⟨N.ps,ts⟩ t b rest os->P (acc++os.map Fi) n) ->
   CL (AX 2) CM (Aa HJ (AD (AK (AA 0)) (AD (AK (AA 1)) (AD (AK (AA 2)) Ac)))) P (rest.map AW) acc n [.sh (enc ⟨N.ps,ts⟩),.sh (.tup [.int t,.int b]),s]:=by
  intro P hP rest
  induction rest with
  | nil =>
   intro acc s _ h
   have:=h [] trivial
   rw [List.map_nil,List.append_nil] at this
   exact this
  | cons u rest ih =>
   intro acc s hu h
   obtain⟨m1,m2,_⟩:=okn.1.tin u (hu u List.mem_cons_self)
   refine⟨⟨N.ps,ts⟩,u,t,b,rfl,okm,m1,m2,b1,b2,t1,t2,λo h1 h2=>?_⟩
   refine ih (acc++[Fi o]) _ (λv hv=>hu v (List.mem_cons_of_mem _ hv)) λos hos=>?_
   have:=h (o::os) ⟨⟨h1,h2⟩,hos⟩
   rw [List.append_assoc]
   exact this
 have fin:∀os,Q6 ⟨N.ps,ts⟩ t b lo os->(As (WK (AO (AS (Dl false) (wC D.non) (AA 3))) (wC D.non) (DQ CU (AF (AA 3) AZ)))) (EE Pd) n [.sh (enc N),.sh (.tup [.int t,.int b]),.sh (enc ⟨N.ps,ts⟩),.sh (.lst (os.map Fi))]:=λos hos=>by
  obtain⟨f1,f2⟩:=OT okm.1 hos
  refine⟨⟨rfl,rfl,Nat.zero_le _⟩,C6 (B:=0) (by decide) f1 (by show FS (os.map Fi)+1<=100; omega),_,rfl,?_⟩
  show if ((os.map Fi).any λy=>Eg y .non)=true then _ else _
  rw [Pp]
  rcases Mi hos with ⟨ws,rfl,h1,h2⟩ | ⟨h1,u,hu,hn⟩
  ·have e1:(ws.map some).any Option.isNone=false:=by
    rw [Bool.eq_false_iff]
    intro z
    obtain⟨o,ho,z⟩:=List.any_eq_true.mp z
    obtain⟨w,_,rfl⟩:=List.mem_map.mp ho
    cases z
   rw [e1]
   have e2:(ws.map some).map Fi=ws.map Eh:=by rw [List.map_map]; rfl
   refine Bk ?_
   show Pd (.tup ((ws.map some).map Fi)) n
   rw [e2]
   refine p ws (λlo' p3 p4=>?_) λu hu=>h2 u (p1.mem_iff.mpr hu)
   rw [Mb (p3.trans p1.symm) p4 p2]
   exact h1
  ·rw [h1]
   exact B6 (q ⟨u,p1.mem_iff.mp hu,hn⟩)
 exact go _ fin lo [] _ (λu hu=>(List.mem_filter.mp (p1.mem_iff.mp hu)).1) λos hos=>by rw [List.nil_append]; exact fin os hos
theorem Ik(h:Gj ss n Pd):E_ (EE Pd) n (ss++List.replicate 4 .no):=by
 obtain⟨N,ts,t,b,rfl,okn,ht,⟨b1,b2,t1,t2⟩,p⟩:=h
 have okm:=ht.okN okn
 unfold E_
 refine⟨_,AL (j:=1) rfl,?_⟩
 have go:∀(rest done:List BC) (s3 s4 s5 s6:Slot),done++rest=N.ts->(∀u∈done,Er ⟨N.ps,ts⟩ t b u) ->
   Bj (D6 3 (Ao (AX 3) (Ao (AX 4) (Ao (AX 5) CS)))) (Ae (A0 6 (KJ (Aa CT (AD (Ei (AS A5 (AA 2) (wC (D.int 1)))) (AD (AK (AA 3)) Ac))) (AA 4)))
 (BD (CP (AO (AS (Ef false) (AA 6) (wC D.non))) (AO (AS (f2 λi j=>D.bl (decide (j<i))) (AS Ci (AA 6) (AS A5 (AA 1) (wC (D.int 1)))) (AS Ci (AA 5) (AS A5 (AA 1) (wC (D.int 0))))))) (As (wC (D.bl false))) Au)) { EE Pd with nx:=As (wC (D.bl true)) (EE Pd) } (rest.map AW) n [.sh (enc N),.sh (.tup [.int t,.int b]),.sh (enc ⟨N.ps,ts⟩),s3,s4,s5,s6]:=by
  intro rest
  induction rest with
  | nil =>
   intro done s3 s4 s5 s6 e hd
   rw [List.append_nil] at e
   subst e
   rw [allNearB_iff.mpr hd] at p
   exact p
  | cons u rest ih =>
   intro done s3 s4 s5 s6 e hd
   have hu:u∈N.ts:=by rw [← e]; exact List.mem_append_right _ List.mem_cons_self
   obtain⟨m1,m2,_⟩:=okn.1.tin u hu
   have e':(done++[u])++rest=N.ts:=by rw [List.append_assoc]; exact e
   have lost:¬Er ⟨N.ps,ts⟩ t b u->Pd (.bl false) n:=λhn=>by
    have:FA N ts t b=false:=by
     rw [Bool.eq_false_iff]
     exact λz=>hn (allNearB_iff.mp z u hu)
    rw [this] at p
    exact p
   refine⟨rfl,rfl,_,AL (j:=1) rfl,⟨N.ps,ts⟩,u.a,_,ts,rfl,rfl,λ_=>Iff.rfl,okm,m1,λks ds K Mp T=>⟨ks,ds,rfl,_,BN u.b,?_⟩⟩
   rw [PV Mp]
   have hf:=T.far u.b
   cases ek:K u.b with
   | none =>
    rw [ek] at hf
    exact⟨rfl,lost fun⟨d,hd,_⟩=>hf d hd.1⟩
   | some d =>
    rw [ek] at hf
    refine⟨rfl,_,AL (j:=1) rfl,.inr ⟨by omega,by omega⟩,_,AL (j:=0) rfl,.inr ⟨by omega,by omega⟩,?_⟩
    show if decide (u.len*t<d*b)=true then _ else _
    by_cases c:u.len*t<d*b
    ·rw [decide_eq_true c]
     refine B6 (lost fun⟨d',hd',h2⟩=>?_)
     rw [Least.unique hd' (show Least _ u.a u.b d from hf)] at h2
     omega
    ·rw [decide_eq_false c]
     refine Bk (ih (done++[u]) _ _ _ _ e' λv hv=>?_)
     rcases List.mem_append.mp hv with hv | hv
     ·exact hd v hv
     ·rw [List.mem_singleton.mp hv]
      exact⟨d,hf,by omega⟩
 exact go N.ts [] _ _ _ _ rfl λu h=>by cases h
theorem Oy{N:Net}(okn:okN N){ts:List BC}(h:ts.Sublist N.ts):thn N ts:=⟨λt ht=>h.subset ht,okn.1.trise.sublist h⟩
theorem Fg(h:Jl ss n Pd):Dr (EE Pd) n (ss++List.replicate 3 .no):=by
 obtain⟨N,t,b,rfl,okn,⟨b1,b2,t1,t2⟩,hn,p⟩:=h
 have l60:=okn.2.2
 have szl:=PySem.sizeLine_eq
 unfold Dr
 have hnt:(N.ts.map AW).length<=10000000:=by rw [List.length_map]; omega
 refine⟨N,t,b,rfl,okn,b1,b2,t1,t2,λord o1 o2=>?_⟩
 have okg:=Oz okn (EZ N t b [] ord)
 have hg:∀u∈(sub N (EZ N t b [] ord)).ts,u∈N.ts:=λu hu=>(sub_mem.mp hu).1
 revert okg hg
 generalize eG:sub N (EZ N t b [] ord)=G
 intro okg hg
 refine⟨4,rfl,by decide,by decide,by omega,λway w0 w1=>?_⟩
 refine CW (λ_=>?_) λ_=>?_
 ·refine⟨_,AL (j:=0) rfl,_,AL (j:=1) rfl,hnt,?_⟩
  have go:∀(rest done acc:List BC) (m:Nat) (s:Slot),done++rest=N.ts->acc.Sublist done->n - 1 - done.length<=m ->
    CL (AX 1) (AO (AS (f2 λi j=>D.bl (decide (j<i))) (Aa BF (AD (BE 0) (AD (AK (wC (D.int 3))) Ac))) (wC (D.int 0)))) (AA 1) (λacc n2=>[D.tup (N.ps.map .str),.tup acc].length<=sizeLine/\Pd (.tup [.tup (N.ps.map .str),.tup acc]) n2) (rest.map AW) (acc.map AW) m [.fd,s]:=by
   intro rest
   induction rest with
   | nil =>
    intro done acc m s e h1 h2
    rw [List.append_nil] at e
    subst e
    exact⟨z2,p acc m (Oy okn h1) (by omega)⟩
   | cons t rest ih =>
    intro done acc m s e h1 h2
    have hl:done.length+(rest.length+1)=N.ts.length:=by rw [← e,List.length_append,List.length_cons]
    have e':(done++[t])++rest=N.ts:=by rw [List.append_assoc]; exact e
    refine⟨3,rfl,by decide,by decide,by omega,λr r0 r1=>CW (λ_=>?_) λ_=>?_⟩
    ·have:=ih (done++[t]) (acc++[t]) (m - 1) (.sh (AW t)) e' (h1.append (List.Sublist.refl [t])) (by rw [List.length_append,List.length_singleton]; omega)
     rw [List.map_append] at this
     exact this
    ·exact ih (done++[t]) acc (m - 1) (.sh (AW t)) e' (h1.trans (List.sublist_append_left _ _)) (by rw [List.length_append,List.length_singleton]; omega)
  exact go N.ts [] [] _ _ rfl (List.Sublist.refl _) (by simp)
 ·refine⟨_,AL (j:=1) rfl,hnt,?_⟩
  have fin:∀(more:List BC) (m:Nat),more.Sublist N.ts->n - (N.ts.length+2)<=m->(As (Bt (AF (AS A5 (AA 1) (wC (D.int 0))) (AF (DQ CU (AF (A7 5) AZ)) AZ)))) (EE Pd) m [.fd,.sh (enc N),.sh (.tup [.int t,.int b]),.sh (enc G),.sh (.int way),.ow (.lst (more.map AW))]:=λmore m h1 h2 =>
   ⟨_,AL (j:=0) rfl,z2,p more m (Oy okn h1) h2⟩
  have behind:∀(more:List BC) (m:Nat),more.Sublist N.ts->n - (N.ts.length+1)<=m->FK (EE Pd) m [.fd,.sh (enc N),.sh (.tup [.int t,.int b]),.sh (enc G),.sh (.int way),.ow (.lst (more.map AW))]:=λmore m h1 h2=>by
   refine CW (λ_=>?_) λ_=>Bk (fin more m h1 (by omega))
   refine⟨z0,(Ex okn.1 λt ht=>h1.subset ht).2,C6 (B:=0) (by decide) trivial (by decide),?_⟩
   refine CW (λc=>?_) λ_=>fin more m h1 (by omega)
   have hne:more≠[]:=λz=>by
    rw [z] at c
    exact absurd c (by decide)
   have hml:1<=more.length:=by
    cases more with
    | nil=>exact absurd rfl hne
    | cons _ _=>rw [List.length_cons]; omega
   have hmm:(more.map AW).length=more.length:=List.length_map ..
   have hm60:=h1.length_le
   refine⟨_,rfl,_,_,rfl,rfl,_,rfl,by omega,by omega,by omega,λr r0 r1=>?_⟩
   obtain⟨k,rfl⟩:∃k:Nat,r=(k:Int):=⟨r.toNat,by omega⟩
   have e1:more[k]?=some more[k]:=List.getElem?_eq_getElem (by omega)
   refine⟨k,AW more[k],rfl,by rw [List.getElem?_map,e1]; rfl,by omega,?_⟩
   rw [HD]
   exact fin _ _ ((List.eraseIdx_sublist _ _).trans h1) (by omega)
  have go:∀(rest done acc:List BC) (m:Nat) (s:Slot),done++rest=N.ts->acc.Sublist done->n - 1 - done.length<=m ->
    CL (AX 2) (CP (AO (AS (Dl false) (AA 2) (AS A5 (AA 0) (wC (D.int 1))))) (AO (AS (Gp false) (Aa BF (AD (BE 1) (AD (AK (wC (D.int 3))) Ac))) (wC (D.int 0))))) (AA 2) (λacc n2=>FK (EE Pd) n2 [.fd,.sh (enc N),.sh (.tup [.int t,.int b]),.sh (enc G),.sh (.int way),.ow (.lst acc)]) (rest.map AW) (acc.map AW) m [.sh (enc G),.fd,s]:=by
   intro rest
   induction rest with
   | nil =>
    intro done acc m s e h1 h2
    rw [List.append_nil] at e
    subst e
    exact behind acc m h1 (by omega)
   | cons v rest ih =>
    intro done acc m s e h1 h2
    have hl:done.length+(rest.length+1)=N.ts.length:=by rw [← e,List.length_append,List.length_cons]
    have e':(done++[v])++rest=N.ts:=by rw [List.append_assoc]; exact e
    have hv:v∈N.ts:=by rw [← e]; exact List.mem_append_right _ List.mem_cons_self
    have add:∀m',n - 1 - (done.length+1)<=m'->CL (AX 2) (CP (AO (AS (Dl false) (AA 2) (AS A5 (AA 0) (wC (D.int 1))))) (AO (AS (Gp false) (Aa BF (AD (BE 1) (AD (AK (wC (D.int 3))) Ac))) (wC (D.int 0))))) (AA 2) (λacc n2=>FK (EE Pd) n2 [.fd,.sh (enc N),.sh (.tup [.int t,.int b]),.sh (enc G),.sh (.int way),.ow (.lst acc)]) (rest.map AW) (acc.map AW++[AW v]) m' [.sh (enc G),.fd,.sh (AW v)]:=λm' hm'=>by
     have:=ih (done++[v]) (acc++[v]) m' (.sh (AW v)) e' (h1.append (List.Sublist.refl [v])) (by rw [List.length_append,List.length_singleton]; exact hm')
     rw [List.map_append] at this
     exact this
    refine⟨_,AL (j:=1) rfl,Lo okn.1 hv,(Ex okn.1 hg).1,_,rfl,?_⟩
    refine CW (λ_=>add m (by omega)) λ_=>?_
    refine⟨3,rfl,by decide,by decide,by omega,λr r0 r1=>CW (λ_=>add (m - 1) (by omega)) λ_=>?_⟩
    exact ih (done++[v]) acc (m - 1) (.sh (AW v)) e' (h1.trans (List.sublist_append_left _ _)) (by rw [List.length_append,List.length_singleton]; omega)
  exact go N.ts [] [] _ _ rfl (List.Sublist.refl _) (by simp)
end
theorem QD{N M:Net}(okn:okN N)(okm:okN M):MT (.tup [enc N,enc M]):=by
 obtain⟨a1,a2,a3⟩:=K7 okn
 obtain⟨b1,b2,b3⟩:=K7 okm
 exact LA (B:=1000001) (by decide) ⟨a1,b1,trivial⟩ (by show max (NP (enc N)) (max (NP (enc M)) 0)+1<=100; omega) (by show MP (enc N)+1+(MP (enc M)+1+0)<=200000; omega)
theorem OB:Kr { nx:=λ_ _=>False,rt:=λd _=>d=.bl true } 9000 (.no::.fd::List.replicate 7 .no):=by
 have szl:=PySem.sizeLine_eq
 unfold Kr
 refine⟨_,rfl,⟨by decide,by decide⟩,?_⟩
 refine G7 (λk m ρ=>1600*k<=m/\∃s2 s3 s4 s5 s6 s7 s8,ρ=[.no,.fd,s2,s3,s4,s5,s6,s7,s8]) ?_ ?_ _ _ _ ⟨by rw [B_]; show 1600*5<=9000; omega,_,_,_,_,_,_,_,rfl⟩
 ·rintro m ρ ⟨hm,s2,s3,s4,s5,s6,s7,s8,rfl⟩
  rfl
 rintro k d m ρ nx ⟨hm,s2,s3,s4,s5,s6,s7,s8,rfl⟩ hnx
 refine⟨8,14,rfl,by decide,by decide,by omega,λN n1 ok _ a1 b1 hn1=>?_⟩
 have okn:okN N:=⟨ok,by omega,by omega⟩
 refine⟨rfl,by omega,λt b n2 b0 bt tt hn2=>?_⟩
 have tm:UD t b:=⟨b0,by omega,by omega,tt⟩
 refine⟨rfl,by omega,λt' b' n3 b0' bt' tt' hn3=>⟨z2,2,rfl,by decide,by decide,by omega,λr r0 r1=>?_⟩⟩
 obtain⟨z,hz,tz,bz,rfl,tmz⟩:=Ni (p:=λd=>∃t b:Int,d=.tup [.int t,.int b]/\UD t b) (xs:=[.tup [.int t,.int b],.tup [.int t',.int b']]) (λd hd=>by
  simp only [List.mem_cons,List.not_mem_nil,or_false] at hd
  rcases hd with rfl | rfl
  ·exact⟨_,_,rfl,tm⟩
  ·exact⟨_,_,rfl,b0',by omega,by omega,tt'⟩) r0 (by show r<2; exact r1)
 refine⟨_,hz,N,tz,bz,rfl,okn,tmz,by omega,λts n4 ht hn4=>?_⟩
 have okm:=ht.okN okn
 have sh2:=QD okn okm
 refine⟨z2,_,rfl,sh2,?_⟩
 generalize hY:BH (.tup [enc N,enc ⟨N.ps,ts⟩])=Y
 refine⟨_,rfl,⟨by decide,by decide⟩,?_⟩
 refine G7 (λk m ρ=>m=n4/\∃s7 s8,ρ=[.no,.fd,.sh d,.sh (enc N),.sh (.tup [.int t,.int b]),.sh (enc ⟨N.ps,ts⟩),.sh (.str Y),s7,s8]) ?_ ?_ _ _ _ ⟨rfl,_,_,rfl⟩
 ·rintro m ρ ⟨rfl,s7,s8,rfl⟩
  refine⟨z2,_,rfl,sh2,?_⟩
  rw [hY]
  refine CW (λc=>absurd c (by simp)) λ_=>?_
  refine⟨N,N.ts,t,b,rfl,okn,⟨λ_ h=>h,okn.1.trise⟩,tm,λws hp _=>?_,fun⟨u,hu,_⟩=>absurd (List.mem_filter.mp hu).1 (of_decide_eq_true (List.mem_filter.mp hu).2)⟩
  have el:HR N N.ts=[]:=List.filter_eq_nil_iff.mpr λu hu z=>(of_decide_eq_true z) hu
  have hw:=hp [] (by rw [el]) List.Pairwise.nil
  have hws:ws=[]:=List.length_eq_zero_iff.mp hw.len
  subst hws
  refine⟨z0,C6 (B:=0) (by decide) trivial (by decide),C6 (B:=0) (by decide) trivial (by decide),?_⟩
  exact hnx _ _ ⟨by omega,_,_,_,_,_,_,_,rfl⟩
 ·rintro k2 d2 m ρ nx2 ⟨rfl,s7,s8,rfl⟩ hnx2
  have key:MB N ts t b↔∀u∈HR N ts,Er ⟨N.ps,ts⟩ t b u:=by
   constructor
   ·exact λh u hu=>h u (List.mem_filter.mp hu).1
   ·intro h u hu
    by_cases c:u∈ts
    ·exact SG okn ht bt b0 c
    ·exact h u (List.mem_filter.mpr ⟨hu,decide_eq_true c⟩)
  refine⟨N,ts,t,b,rfl,okn,ht,tm,λws hp hall=>?_,λhex=>?_⟩
  ·refine⟨N,ts,t,b,rfl,okn,ht,tm,?_⟩
   rw [allNearB_iff.mpr (key.mpr hall)]
   refine⟨rfl,?_⟩
   refine⟨N,ts,t,b,ws,rfl,okn,by omega,ht,tm,hp,⟨rfl,?_⟩⟩
   refine⟨N,ts,t,b,ws,rfl,okn,by omega,ht,tm,hp,?_⟩
   exact hnx2 _ _ ⟨rfl,_,_,rfl⟩
  ·refine⟨N,ts,t,b,rfl,okn,ht,tm,?_⟩
   obtain⟨u,hu,hn⟩:=hex
   have:FA N ts t b=false:=by
    rw [Bool.eq_false_iff]
    exact λz=>hn (key.mp (allNearB_iff.mp z) u hu)
   rw [this]
   exact⟨rfl,hnx2 _ _ ⟨rfl,_,_,rfl⟩⟩
end Nt
namespace K13
open PySem PySem.Spec PyProof.Rows L2 Dp Nt
section
variable {P:Program}{w:World}{K:Frag}{mg:Str->Option Value}{base:Heap}
theorem MW:Aj ["thing"] ["thing"] (AG C0):=by constructor <;> first | rfl | decide +kernel
theorem Mo{f:Addr}{fd:FuncData}(T:Txt K mg)(F:Fun K "is_whole" "is_whole" C0 f fd):BK P w K mg base DB 1 f fd ["thing"] (D_ K .sh Jk 1):=by
 exact Ez F MW (by decide) (λcdv A outer s H E hr=>(AI (AV (EU (CO PP (dv 0) rfl T.n_isinstance rfl T.n_int (by decide +kernel)) (HF (Sj (CO NE (dv 0) rfl T.n_isinstance rfl T.n_bool (by decide +kernel)))))))) (λss n Pd hl hw=>Ma hw)
theorem IY:Aj ["count","thing"] ["count","thing"] (AG Bx):=by constructor <;> first | rfl | decide +kernel
theorem Ir{f:Addr}{fd:FuncData}(T:Txt K mg)(F:Fun K "is_tuple_of" "is_tuple_of" Bx f fd):BK P w K mg base DB 1 f fd ["count","thing"] (D_ K .sh Ds 2):=by
 exact Ez F IY (by decide) (λcdv A outer s H E hr=>(AI (AV (EU (CO kit_tuple (dv 1) rfl T.n_isinstance rfl T.n_tuple (by decide +kernel)) (HF (Cr Ep Jj (An BA DJ rfl T.n_len PySem.boot_len (AR (dv 1) Ad)) (dv 0) (Ah _))))))) (λss n Pd hl hw=>Im hw)
theorem LG:Aj ["things"] ["things"] (AG Ce):=by constructor <;> first | rfl | decide +kernel
theorem Lh{f:Addr}{fd:FuncData}(T:Txt K mg)(F:Fun K "is_rising" "is_rising" Ce f fd):BK P w K mg base DB 1 f fd ["things"] (D_ K .sh Cs 1):=by
 exact Ez F LG (by decide) (λcdv A outer s H E hr=>(AI (AV (An (GX rfl) Px rfl T.n_all PyProof.Rows.boot_all (AR (BJ rfl [("ahead" : Str),("behind" : Str)] [none,none] (T2 rfl T.n_zip (AR (dv 0) (AR (GS K_ Ge (dv 0) (Cq AC) ET) Ad))) (λ_ _ _ _ _=>(D5 rfl (Ax (AY (i:=0) (show List.Nodup [("ahead" : Str),("behind" : Str)] by decide +kernel) rfl (Or.inl rfl)) (Ax (AY (i:=1) (show List.Nodup [("ahead" : Str),("behind" : Str)] by decide +kernel) rfl (Or.inl rfl)) DD)))) (λ_ _ _ _ _=>BO) (λ_ _ _ _ _=>(Cr (De hr) FC (dv 0) (dv 1) (Ah _))) (by kernel_rfl)) Ad))))) (λss n Pd hl hw=>LQ hw)
theorem N8:Aj ["tie"] ["tie"] (AG DV):=by constructor <;> first | rfl | decide +kernel
theorem OK{f:Addr}{fd:FuncData}(T:Txt K mg)(F:Fun K "rank_of" "rank_of" DV f fd):BK P w K mg base DB 1 f fd ["tie"] (D_ K .sh Nl 1):=by
 exact Ez F N8 (by decide) (λcdv A outer s H E hr=>(AI (AV (A6 (AH (AU AM Ap (dv 0) AC) (AH (AU AM Ap (dv 0) AC) (AH (AU AM Ap (dv 0) AC) Af))))))) (λss n Pd hl hw=>OA hw)
theorem MU:Aj ["ties"] ["ties"] (AG Cw):=by constructor <;> first | rfl | decide +kernel
theorem Ml{f:Addr}{fd:FuncData}(T:Txt K mg)(G_rank_of:Got P w K mg base "rank_of" 1 ["tie"] .sh Nl)(F:Fun K "order_of" "order_of" Cw f fd):BK P w K mg base DB 4 f fd ["ties"] (D_ K .fr DM 1):=by
 exact Ez F MU (by decide) (λcdv A outer s H E hr=>(AI (AV (Si G_rank_of (hr.mono (by decide)) rfl T.n_sorted rfl (dv 0))))) (λss n Pd hl hw=>MX hw)
theorem sc_steps_of:Aj ["net","steps","place","a","b","length"] ["net"] (AG Cv):=⟨rfl,rfl,rfl,by decide +kernel,rfl,by decide +kernel,by decide +kernel⟩
theorem Mj{f:Addr}{fd:FuncData}(F:Fun K "steps_of" "steps_of" Cv f fd):BK P w K mg base DB 1 f fd ["net"] (D_ K .sh HI 1):=by
 refine F.ok (k:=0) sc_steps_of (λvs H Q E h=>h.1) (λcdv A outer s H vs Q E hr h=>?_)
 obtain⟨hl,F0,U,V',M,n,ss,Pd,ra,⟨N,rfl,ok,lp,lt,p⟩,q⟩:=h
 obtain⟨dom,fU,uV,vM,fd0,pa⟩:=ra
 cases pa with
 | cons r1 pa =>
 cases pa
 obtain⟨v,e1,h1⟩:=r1.1
 cases e1
 obtain⟨an,vs,rfl,hn,v1,r,rfl,hp,v2,r2,rfl,ht,e2⟩:=h1
 cases (show r2=[] from e2)
 obtain⟨ap,us,rfl,hpn,hps⟩:=hp
 obtain⟨at_,ws,rfl,htn,hts⟩:=ht
 have nd:=sc_steps_of.nd
 have hu:=JH hr
 have szl:=PySem.sizeLine_eq
 have lus:us.length=N.ps.length:=by rw [hps.length,List.length_map]
 have lws:ws.length=N.ts.length:=by rw [hts.length,List.length_map]
 refine⟨_,BU (Eo (i:=1) nd rfl (Or.inl rfl) Mg)
  (BU (LS PassesOwn.never rfl (Rq (EY ix_tup (pv 0) A2 (λ_ _=>rfl))) (F_ (i:=2) nd rfl (Or.inl rfl)) (Dw (Hx hu (pv 1) (pv 2) Mg rfl)))
  (BU (LS PassesOwn.never rfl (Rq (EY ix_tup (pv 0) A2 (λ_ _=>rfl))) (Ru rfl (Fz (F_ (i:=3) nd rfl (Or.inl rfl)) (Fz (F_ (i:=4) nd rfl (Or.inl rfl)) (Fz (F_ (i:=5) nd rfl (Or.inl rfl)) O9))))
   (BU (Hx hu (LX hu (pv 1) (pv 3) (λ_ _=>rfl)) (pv 4) (pv 5) rfl) (Dw (Hx hu (LX hu (pv 1) (pv 4) (λ_ _=>rfl)) (pv 3) (pv 5) rfl))))
  (Dw (Fh (VL (pv 1)))))),?_⟩
 refine λd hd=>?_
 have old0:∀b o,H b=some o->BG H d (.dK []) b=some o:=λb o e=>by rw [AT (Ar e hd)]; exact e
 have SqN:∀H':Hp,(∀b o,H b=some o->H' b=some o)->SqT K H' an [.ref ap,.ref at_]:=λH' o=>SqT.of (o _ _ hn)
 have SqP:∀H':Hp,(∀b o,H b=some o->H' b=some o)->SqT K H' ap us:=λH' o=>SqT.of (o _ _ hpn)
 have SqW:∀H':Hp,(∀b o,H b=some o->H' b=some o)->SqT K H' at_ ws:=λH' o=>SqT.of (o _ _ htn)
 refine⟨_,rfl,an,_,0,_,rfl,rfl,SqN _ old0,rfl,ap,rfl,⟨_,SqP _ old0⟩,?_⟩
 refine PY (xs:=us) (λi σ H'=>∃(as:List (Str×Addr)) (x2 x3 x4 x5:Option V),σ=[some (.ref an),some (.ref d),x2,x3,x4,x5]/\as.map (·.1)=N.ps.take i/\Stp H d as (λ_=>[]) H') ?_ (λi σ H' hi ⟨as,x2,x3,x4,x5,e,hm,st⟩=>SqP _ st.old) ?_ ?_
 ·exact⟨[],_,_,_,_,rfl,rfl,old0,hd,Ak,(λx hx=>by cases hx),List.nodup_nil,List.nodup_nil⟩
 ·rintro i x σ H' hx ⟨as,x2,x3,x4,x5,rfl,hm,st⟩
  have hi:i<N.ps.length:=by rw [← lus]; exact(List.getElem?_eq_some_iff.mp hx).1
  obtain⟨x',hx',hAt⟩:=hps.get (i:=i) (d:=.str N.ps[i]) (by rw [List.getElem?_map,List.getElem?_eq_getElem hi]; rfl)
  rw [hx] at hx'
  cases hx'
  obtain⟨rfl,_⟩:=hAt
  intro q hq
  have las:as.length<=i:=by have:=congrArg List.length hm; rw [List.length_map,List.length_take] at this; omega
  have nq:d≠q:=λe=>by rw [← e,st.top] at hq; cases hq
  have las2:(as.map λx=>((.inr x.1:Key),V.ref x.2)).length=as.length:=List.length_map ..
  refine⟨_,rfl,_,rfl,d,_,rfl,DPut.k (k:=.inr N.ps[i]) (by rw [AT nq]; exact st.top) (by omega),?_⟩
  refine⟨as++[(N.ps[i],q)],_,_,_,_,rfl,?_,st.more hq ?_ rfl⟩
  ·rw [List.map_append,hm,List.take_succ,List.getElem?_eq_getElem hi]; rfl
  ·rw [hm]; exact OM (LJ ok.rise) hi
 ·rintro σ H' ⟨as,x2,x3,x4,x5,rfl,hm,st⟩
  rw [lus,List.take_length] at hm
  refine⟨_,rfl,an,_,1,_,rfl,rfl,SqN _ st.old,rfl,at_,rfl,⟨_,SqW _ st.old⟩,?_⟩
  refine PY (xs:=ws) (λi σ H'=>∃(x2 x3 x4 x5:Option V),σ=[some (.ref an),some (.ref d),x2,x3,x4,x5]/\Stp H d as (λp=>(Dt (N.ts.take i) p).map kv) H') ⟨_,_,_,_,rfl,st⟩ (λi σ H' hi ⟨x2,x3,x4,x5,e,st⟩=>SqW _ st.old) ?_ ?_
  ·rintro i x σ H' hx ⟨x2,x3,x4,x5,rfl,st⟩
   have hi:i<N.ts.length:=by rw [← lws]; exact(List.getElem?_eq_some_iff.mp hx).1
   obtain⟨x',hx',hAt⟩:=hts.get (i:=i) (d:=AW N.ts[i]) (by rw [List.getElem?_map,List.getElem?_eq_getElem hi]; rfl)
   rw [hx] at hx'
   cases hx'
   have hmem:N.ts[i]∈N.ts:=List.getElem_mem hi
   have hsnoc:N.ts.take (i+1)=N.ts.take i++[N.ts[i]]:=by rw [List.take_succ,List.getElem?_eq_getElem hi]; rfl
   have hpre:(N.ts.take (i+1)).Pairwise Bv:=ok.trise.sublist (List.take_sublist _ _)
   have hlt2:∀s∈N.ts.take (i+1),cs s.a<cs s.b:=λs hs=>(ok.tin s (List.mem_of_mem_take hs)).2.2.1
   rw [hsnoc] at hpre hlt2
   have new:=Sd hpre hlt2
   have ltk:(N.ts.take i).length<=1000:=by rw [List.length_take]; omega
   generalize N.ts[i]=t at hAt hmem hsnoc new
   generalize N.ts.take i=ts at hsnoc new st ltk
   obtain⟨m1,m2,m3,_⟩:=ok.tin t hmem
   have hab:t.a≠t.b:=λe=>by rw [e] at m3; exact List.lt_irrefl _ m3
   obtain⟨ta,tb,tl⟩:=t
   obtain⟨tt,us3,rfl,htt,hit⟩:=hAt
   obtain⟨va,r3,rfl,⟨rfl,_⟩,vb,r4,rfl,⟨rfl,_⟩,vl,r5,rfl,rfl,e5⟩:=hit
   cases (show r5=[] from e5)
   rw [← hm] at m1 m2
   obtain⟨⟨xa,pa⟩,ha,ea⟩:=List.mem_map.mp m1
   obtain⟨⟨xb,pb⟩,hb,eb⟩:=List.mem_map.mp m2
   have ea':ta=xa:=ea.symm
   have eb':tb=xb:=eb.symm
   subst ea' eb'
   clear ea eb
   replace hab:ta≠tb:=hab
   replace new:tb∉(Dt ts ta).map (·.1)/\ta∉(Dt ts tb).map (·.1):=new
   have ga:=DGet.k (k:=.inr ta) st.top
   rw [Hu st.nms ha] at ga
   have l1:=PC ts ta
   refine⟨tt,_,rfl,SqT.of (st.old _ _ htt),rfl,_,_,rfl,_,_,rfl,_,_,rfl,rfl,?_⟩
   refine⟨_,rfl,_,rfl,_,rfl,d,_,rfl,ga,_,rfl,pa,_,rfl,DPut.k (k:=.inr tb) (st.inn _ ha).2.2 (by show ((Dt ts ta).map kv).length<sizeLine; rw [List.length_map]; omega),?_⟩
   have st1:=st.put (tb2:=λp=>(Dt ts p++if ta=p then [(tb,tl)] else []).map kv) ha (kvs:=putK ((Dt ts ta).map kv) (.inr tb) (.int tl)) (by rw [O4 new.1,if_pos rfl]) (λq hq=>by rw [if_neg (Ne.symm hq),List.append_nil])
   have gb:=DGet.k (k:=.inr tb) st1.top
   rw [Hu st1.nms hb] at gb
   have l2:=PC ts tb
   have ib:=(st1.inn _ hb).2.2
   simp only [if_neg hab,List.append_nil] at ib
   refine⟨_,rfl,_,rfl,_,rfl,d,_,rfl,gb,_,rfl,pb,_,rfl,DPut.k (k:=.inr ta) ib (by rw [List.length_map]; omega),?_⟩
   refine⟨_,_,_,_,rfl,st1.put hb ?_ λq hq=>?_⟩
   ·show (Dt (N.ts.take (i+1)) tb).map kv=_
    rw [hsnoc,Ms,O4 new.2]
    show ((Dt ts tb++((if ta=tb then [(tb,tl)] else [])++if tb=tb then [(ta,tl)] else [])).map kv)=_
    rw [if_neg hab,if_pos rfl]; rfl
   ·show (Dt (N.ts.take (i+1)) q).map kv=_
    rw [hsnoc,Ms]
    show ((Dt ts q++((if ta=q then [(tb,tl)] else [])++if tb=q then [(ta,tl)] else [])).map kv)=_
    rw [if_neg (Ne.symm hq),List.append_nil]
  ·rintro σ H' ⟨x2,x3,x4,x5,rfl,st⟩
   rw [lws,List.take_length] at st
   have old:∀(f:Addr->Obj) b o,H b=some o->HB H' (as.map (·.2)) f b=some o:=λf b o e=>by
    rw [GL (λhm=>by obtain⟨x,hx,e2⟩:=List.mem_map.mp hm; have:=(st.inn x hx).1; rw [e2,e] at this; cases this)]
    exact st.old b o e
   refine⟨_,rfl,(as.map fun(x:Str×Addr)=>x.2),λb hb=>?_,λf=>q (.ref d) (HB H' (as.map fun(x:Str×Addr)=>x.2) f) (En N) n (λb o e=>⟨o,old f b o e,λ_=>rfl,λ_ _=>rfl⟩) (λg hg=>?_) (show At K M (HB H' (as.map fun(x:Str×Addr)=>x.2) f) (En N) (.ref d) from st.at_ dom hm f) p⟩
   ·obtain⟨x,hx,rfl⟩:=List.mem_map.mp hb
    exact⟨_,(st.inn x hx).2.2⟩
   ·obtain⟨a,r,cells,hf,hcf,hc,rest⟩:=fd0 g hg
    exact⟨a,r,cells,old f _ _ hf,hcf,⟨hc.1,old f _ _ hc.2⟩,rest⟩
theorem LF:Aj ["net","thing"] ["net","thing"] (AG Cd):=by constructor <;> first | rfl | decide +kernel
theorem Lg{f:Addr}{fd:FuncData}(T:Txt K mg)(G_is_whole:Got P w K mg base "is_whole" 1 ["thing"] .sh Jk)(F:Fun K "is_tie_of" "is_tie_of" Cd f fd):BK P w K mg base DB 2 f fd ["net","thing"] (D_ K .sh S0 2):=by
 exact Ez F LF (by decide) (λcdv A outer s H E hr=>(AI (AV (EU (Cr (C3 hr) DK (dv 1) (AU AM Ap (dv 0) AC) (by with_unfolding_all rfl)) (HF (AJ G_is_whole (hr.mono (by decide)) rfl (AB (AQ (AU AM Ap (dv 1) AC)) AN))))))) (λss n Pd hl hw=>LP hw)
theorem N9:Aj ["net","thing"] ["net","thing"] (AG DX):=by constructor <;> first | rfl | decide +kernel
theorem OL{f:Addr}{fd:FuncData}(T:Txt K mg)(G_is_rising:Got P w K mg base "is_rising" 1 ["things"] .sh Cs)(G_is_tie_of:Got P w K mg base "is_tie_of" 2 ["net","thing"] .sh S0)(G_is_tuple_of:Got P w K mg base "is_tuple_of" 1 ["count","thing"] .sh Ds)(F:Fun K "is_thin" "is_thin" DX f fd):BK P w K mg base DB 3 f fd ["net","thing"] (D_ K .sh Fd 2):=by
 exact Ez F N9 (by decide) (λcdv A outer s H E hr=>(AE (Az (DTW.dt (Bu (BZ (BX (AJ G_is_tuple_of (hr.mono (by decide)) rfl (AB (AQ AC) (AB (AQ (dv 1)) AN))))) (Bq (BZ (BX (CO kit_tuple (AU AM Ap (dv 1) AC) rfl T.n_isinstance rfl T.n_tuple (by decide +kernel))))))) (AI (AV Br)) Am)
 (AI (AV (EU (Cr (R9 hr) Uh (AU AM Ap (dv 1) AC) (AU AM Ap (dv 0) AC) (Ah _)) (EU (An (GX rfl) Px rfl T.n_all PyProof.Rows.boot_all (AR (BJ rfl [("net" : Str),("tie" : Str)] [some 0,none] (BP (AU AM Ap (dv 1) AC)) (λ_ _ _ _ _=>(AY (i:=1) (show List.Nodup [("net" : Str),("tie" : Str)] by decide +kernel) rfl (Or.inl rfl))) (λ_ _ _ _ _=>BO) (λ_ _ _ _ _=>(AJ G_is_tie_of (hr.mono (by decide)) rfl (AB (AQ (dv 0)) (AB (AQ (dv 1)) AN)))) (by kernel_rfl)) Ad)) (HF (AJ G_is_rising (hr.mono (by decide)) rfl (AB (AQ (AU AM Ap (dv 1) AC)) AN))))))))) (λss n Pd hl hw=>OD hw)
theorem MV:Aj ["net","thin"] ["net","thin"] (AG Cz):=by constructor <;> first | rfl | decide +kernel
theorem Mn{f:Addr}{fd:FuncData}(T:Txt K mg)(G_order_of:Got P w K mg base "order_of" 4 ["ties"] .fr DM)(F:Fun K "left_out" "left_out" Cz f fd):BK P w K mg base DB 5 f fd ["net","thin"] (D_ K .fr Hf 2):=by
 exact Ez F MV (by decide) (λcdv A outer s H E hr=>(AI (AV (AJ G_order_of (hr.mono (by decide)) rfl (AB (AQ (BJ rfl [("thin" : Str),("tie" : Str)] [some 1,none] (BP (AU AM Ap (dv 0) AC)) (λ_ _ _ _ _=>(AY (i:=1) (show List.Nodup [("thin" : Str),("tie" : Str)] by decide +kernel) rfl (Or.inl rfl))) (λ_ _ _ _ _=>(GR (Ab (FG hr) DK (dv 1) (AU AM Ap (dv 0) AC) (by with_unfolding_all rfl)))) (λ_ _ _ _ _=>(dv 1)) (by kernel_rfl))) AN))))) (λss n Pd hl hw=>MY hw)
theorem sc_length_of:Aj ["net","thing","steps","length","here","there"] ["net","thing"] (AG Cb):=by constructor <;> first | rfl | decide +kernel
theorem Le{f:Addr}{fd:FuncData}(T:Txt K mg)(G_steps_of:Got P w K mg base "steps_of" 1 ["net"] .sh HI)(F:Fun K "length_of" "length_of" Cb f fd):BK P w K mg base DB 2 f fd ["net","thing"] (D_ K .sh Hs 2):=by
 exact Ez F sc_length_of (by decide) (λcdv A outer s H E hr=>(AE (Az (DTW.dt (Bu (BZ (BX (CO kit_tuple (dv 1) rfl T.n_isinstance rfl T.n_tuple (by decide +kernel)))) (Bq (Ab Ep Jj (An BA DJ rfl T.n_len PySem.boot_len (AR (dv 1) Ad)) AC (Ah _))))) (AI (AV BM)) Am)
 (AE (Az (BZ (BX (An (GX rfl) Px rfl T.n_all PyProof.Rows.boot_all (AR (BJ rfl [("place" : Str)] [none] (BP (dv 1)) (λ_ _ _ _ _=>(AY (i:=0) (show List.Nodup [("place" : Str)] by decide +kernel) rfl (Or.inl rfl))) (λ_ _ _ _ _=>BO) (λ_ _ _ _ _=>(CO Lp (dv 0) rfl T.n_isinstance rfl T.n_str (by decide +kernel))) (by kernel_rfl)) Ad)))) (AI (AV BM)) Am)
 (AE (Aq (i:=2) sc_length_of.nd rfl (Or.inl rfl) (AJ G_steps_of (hr.mono (by decide)) rfl (AB (AQ (dv 0)) AN)))
 (AE (Az (Ab (FH hr) Gg (AU AM Ap (dv 1) AC) (dv 2) (by with_unfolding_all rfl)) (AI (AV BM)) Am)
 (AE (Aq (i:=3) sc_length_of.nd rfl (Or.inl rfl) AC)
 (AE (C_ PassesOwn.never rfl (Vq rfl T.n_zip (AH (dv 1) (AH (GS K_ Ge (dv 1) (Cq AC) ET) Af))) (D5 rfl (Ax (AY (i:=4) sc_length_of.nd rfl (Or.inl rfl)) (Ax (AY (i:=5) sc_length_of.nd rfl (Or.inl rfl)) DD))) (AE (Az (Ab (FH hr) Gg (dv 5) (DU hr (dv 2) (dv 4)) (by with_unfolding_all rfl)) (AI (AV BM)) Am)
 (AI (T1 (i:=3) sc_length_of.nd rfl (Or.inl rfl) (DU hr (DU hr (dv 2) (dv 4)) (dv 5))))))
 (AI (AV (dv 3)))))))))) (λss n Pd hl hw=>LL hw)
theorem sc_length_between:Aj ["net","a","b","thing","length"] ["net","a","b","thing"] (AG BR):=by constructor <;> first | rfl | decide +kernel
theorem GC{f:Addr}{fd:FuncData}(T:Txt K mg)(G_length_of:Got P w K mg base "length_of" 2 ["net","thing"] .sh Hs)(F:Fun K "length_between" "length_between" BR f fd):BK P w K mg base DB 3 f fd ["net","a","b","thing"] (D_ K .sh Nq 4):=by
 exact Ez F sc_length_between (by decide) (λcdv A outer s H E hr=>(AE (Aq (i:=4) sc_length_between.nd rfl (Or.inl rfl) (AJ G_length_of (hr.mono (by decide)) rfl (AB (AQ (dv 0)) (AB (AQ (dv 3)) AN))))
 (AE (Az (DTW.dt (Bu (Ab Fk Ji (dv 4) BM (Ah _)) (Bu (Ab FW KH (AU AM Ap (dv 3) AC) (dv 1) (Ah _)) (Bq (Ab FW KH (AU AM Ap (dv 3) (Sk AC)) (dv 2) (Ah _)))))) (AI (AV BM)) Am)
 (AI (AV (dv 4)))))) (λss n Pd hl hw=>FO hw)
theorem Jr:Aj ["waiting","found"] ["waiting","found"] (AG CF):=by constructor <;> first | rfl | decide +kernel
theorem J0{f:Addr}{fd:FuncData}(T:Txt K mg)(F:Fun K "nearest_of" "nearest_of" CF f fd):BK P w K mg base DB 1 f fd ["waiting","found"] (D_ K .sh Nn 2):=by
 exact Ez F Jr (by decide) (λcdv A outer s H E hr=>(AI (AV (AU AM Ap (An (Q2 hr) Vz rfl T.n_min boot_min (AR (BJ rfl [("found" : Str),("place" : Str)] [some 1,none] (BP (Kh 0)) (λ_ _ _ _ _=>(AY (i:=1) (show List.Nodup [("found" : Str),("place" : Str)] by decide +kernel) rfl (Or.inl rfl))) (λ_ _ _ _ _=>BO) (λ_ _ _ _ _=>(A6 (AH (AU AM Ap (DU hr (Kh 0) (dv 1)) AC) (AH (dv 1) Af)))) (by kernel_rfl)) Ad)) AC)))) (λss n Pd hl hw=>Jt hw)
theorem sc_least_ways:Aj ["net","start","steps","found","waiting","place","other","step","length"] ["net","start"] (AG CG):=by constructor <;> first | rfl | decide +kernel
theorem J1{f:Addr}{fd:FuncData}(T:Txt K mg)(G_nearest_of:Got P w K mg base "nearest_of" 1 ["waiting","found"] .sh Nn)(G_steps_of:Got P w K mg base "steps_of" 1 ["net"] .sh HI)(F:Fun K "least_ways" "least_ways" CG f fd):BK P w K mg base DB 2 f fd ["net","start"] (D_ K .fr Jn 2):=by
 exact Ez F sc_least_ways (by decide) (λcdv A outer s H E hr=>(AE (Aq (i:=2) sc_least_ways.nd rfl (Or.inl rfl) (AJ G_steps_of (hr.mono (by decide)) rfl (AB (AQ (dv 0)) AN)))
 (AE (ES (i:=3) sc_least_ways.nd rfl (Or.inl rfl) (NS (dv 1) (A6 (AH AC (AH BM Af)))))
 (AE (ES (i:=4) sc_least_ways.nd rfl (Or.inl rfl) (Dn (AH (dv 1) Af)))
 (AE (JP PassesOwn.never (Vo (Kh 4)) (AE (Aq (i:=5) sc_least_ways.nd rfl (Or.inl rfl) (AJ G_nearest_of (hr.mono (by decide)) rfl (AB (Pm (Kh 4)) (AB (Pm (Kh 3)) AN))))
 (AE (Ki 4 PySem.F.plainAttrs_list PySem.F.slot_list_remove PySem.F.type_list_remove (Qd hr) XI (pv 4) (AH (dv 5) Af))
 (AI (C_ PassesOwn.never rfl (Sh (DU hr (dv 2) (dv 5))) (D5 rfl (Ax (AY (i:=6) sc_least_ways.nd rfl (Or.inl rfl)) (Ax (AY (i:=7) sc_least_ways.nd rfl (Or.inl rfl)) DD))) (AE (Aq (i:=8) sc_least_ways.nd rfl (Or.inl rfl) (A3 BI Bi (AU AM Ap (DU hr (Kh 3) (dv 5)) AC) (dv 7)))
 (AI (Az (Ab (FH hr) Gg (dv 6) (Kh 3) (by with_unfolding_all rfl)) (AE (Ki 4 PySem.F.plainAttrs_list PySem.F.slot_list_append PySem.F.type_list_append DY Nj (pv 4) (AH (dv 6) Af))
 (AI (Ly (i:=3) hr (pv 3) (dv 6) (A6 (AH (dv 8) (AH (dv 5) Af)))))) (AI (Az (Ab (De hr) FC (dv 8) (AU AM Ap (DU hr (Kh 3) (dv 6)) AC) (Ah _)) (AI (Ly (i:=3) hr (pv 3) (dv 6) (A6 (AH (dv 8) (AH (dv 5) Af))))) Am))))))))))
 (AI (Ph 3 (pv 3)))))))) (λss n Pd hl hw=>Jv hw)
theorem sc_way_of:Aj ["net","a","b","found","way","place"] ["net","a","b"] (AG EC):=by constructor <;> first | rfl | decide +kernel
theorem QW{f:Addr}{fd:FuncData}(T:Txt K mg)(G_least_ways:Got P w K mg base "least_ways" 2 ["net","start"] .fr Jn)(F:Fun K "way_of" "way_of" EC f fd):BK P w K mg base DB 3 f fd ["net","a","b"] (D_ K .sh Sz 3):=by
 exact Ez F sc_way_of (by decide) (λcdv A outer s H E hr=>(AE (Aq (i:=3) sc_way_of.nd rfl (Or.inl rfl) (AJ G_least_ways (hr.mono (by decide)) rfl (AB (AQ (dv 0)) (AB (AQ (dv 1)) AN))))
 (AE (Az (Ab (FH hr) Gg (dv 2) (dv 3) (by with_unfolding_all rfl)) (AI (AV BM)) Am)
 (AE (ES (i:=4) sc_way_of.nd rfl (Or.inl rfl) (Dn Af))
 (AE (Aq (i:=5) sc_way_of.nd rfl (Or.inl rfl) (dv 2))
 (AE (JP PassesOwn.never (Ab Hz MC (dv 5) BM (Ah _)) (AE (Ki 4 PySem.F.plainAttrs_list PySem.F.slot_list_append PySem.F.type_list_append DY Nj (pv 4) (AH (dv 5) Af))
 (AI (Aq (i:=5) sc_way_of.nd rfl (Or.inl rfl) (AU AM Ap (DU hr (dv 3) (dv 5)) AC)))))
 (AI (AV (Qz rfl (Kh 4) rfl T.n_tuple rfl T.n_reversed))))))))) (λss n Pd hl hw=>QI hw)
theorem LD:Aj ["length","times","number"] ["length","times","number"] (AG Cc):=by constructor <;> first | rfl | decide +kernel
theorem Lf{f:Addr}{fd:FuncData}(T:Txt K mg)(F:Fun K "is_within" "is_within" Cc f fd):BK P w K mg base DB 1 f fd ["length","times","number"] (D_ K .sh EV 3):=by
 exact Ez F LD (by decide) (λcdv A outer s H E hr=>(AI (AV (Cr La Pw (A3 DC D7 (dv 0) (AU AM Ap (dv 1) AC)) (A3 DC D7 (dv 2) (AU AM Ap (dv 1) AC)) (Ah _))))) (λss n Pd hl hw=>LO hw)
theorem sc_near_way:Aj ["net","times","tie","way"] ["net","times","tie"] (AG Cy):=by constructor <;> first | rfl | decide +kernel
theorem Mm{f:Addr}{fd:FuncData}(T:Txt K mg)(G_is_within:Got P w K mg base "is_within" 1 ["length","times","number"] .sh EV)(G_length_of:Got P w K mg base "length_of" 2 ["net","thing"] .sh Hs)(G_way_of:Got P w K mg base "way_of" 3 ["net","a","b"] .sh Sz)(F:Fun K "near_way" "near_way" Cy f fd):BK P w K mg base DB 4 f fd ["net","times","tie"] (D_ K .sh HJ 3):=by
 exact Ez F sc_near_way (by decide) (λcdv A outer s H E hr=>(AE (Aq (i:=3) sc_near_way.nd rfl (Or.inl rfl) (AJ G_way_of (hr.mono (by decide)) rfl (AB (AQ (dv 0)) (AB (AQ (AU AM Ap (dv 2) AC)) (AB (AQ (AU AM Ap (dv 2) AC)) AN)))))
 (AE (Az (DTW.dt (Bu (Ab Fk Ji (dv 3) BM (Ah _)) (Bq (BZ (BX (AJ G_is_within (hr.mono (by decide)) rfl (AB (AQ (AJ G_length_of (hr.mono (by decide)) rfl (AB (AQ (dv 0)) (AB (AQ (dv 3)) AN)))) (AB (AQ (dv 1)) (AB (AQ (AU AM Ap (dv 2) AC)) AN))))))))) (AI (AV BM)) Am)
 (AI (AV (dv 3)))))) (λss n Pd hl hw=>Ju hw)
theorem sc_ways_paper:Aj ["net","times","thin","ways"] ["net","times","thin"] (AG CD):=by constructor <;> first | rfl | decide +kernel
theorem Jz{f:Addr}{fd:FuncData}(T:Txt K mg)(G_left_out:Got P w K mg base "left_out" 5 ["net","thin"] .fr Hf)(G_near_way:Got P w K mg base "near_way" 4 ["net","times","tie"] .sh HJ)(F:Fun K "ways_paper" "ways_paper" CD f fd):BK P w K mg base DB 6 f fd ["net","times","thin"] (D_ K .sh FL 3):=by
 exact Ez F sc_ways_paper (by decide) (λcdv A outer s H E hr=>(AE (Pg (i:=3) sc_ways_paper.nd rfl (Or.inl rfl) rfl [("thin" : Str),("times" : Str),("tie" : Str)] [some 2,some 1,none] (BP (AJ G_left_out (hr.mono (by decide)) rfl (AB (AQ (dv 0)) (AB (AQ (dv 2)) AN)))) (λ_ _ _ _ _=>(AY (i:=2) (show List.Nodup [("thin" : Str),("times" : Str),("tie" : Str)] by decide +kernel) rfl (Or.inl rfl))) (λ_ _ _ _ _=>BO) (λ_ _ _ _ _=>(AJ G_near_way (hr.mono (by decide)) rfl (AB (AQ (dv 0)) (AB (AQ (dv 1)) (AB (AQ (dv 2)) AN))))) (by kernel_rfl))
 (AI (AV (Sm (Ab (C3 hr) DK BM (dv 3) (by with_unfolding_all rfl)) BM (DZ B5 EL rfl T.n_tuple boot_tuple (AR (dv 3) Ad))))))) (λss n Pd hl hw=>Hj hw)
theorem sc_way_fault:Aj ["net","times","tie","thing","length"] ["net","times","tie","thing"] (AG CY):=by constructor <;> first | rfl | decide +kernel
theorem Lc{f:Addr}{fd:FuncData}(T:Txt K mg)(G_is_within:Got P w K mg base "is_within" 1 ["length","times","number"] .sh EV)(G_length_between:Got P w K mg base "length_between" 3 ["net","a","b","thing"] .sh Nq)(F:Fun K "way_fault" "way_fault" CY f fd):BK P w K mg base DB 4 f fd ["net","times","tie","thing"] (D_ K .sh FN 4):=by
 exact Ez F sc_way_fault (by decide) (λcdv A outer s H E hr=>(AE (Aq (i:=4) sc_way_fault.nd rfl (Or.inl rfl) (AJ G_length_between (hr.mono (by decide)) rfl (AB (AQ (dv 0)) (AB (AQ (AU AM Ap (dv 2) AC)) (AB (AQ (AU AM Ap (dv 2) AC)) (AB (AQ (dv 3)) AN))))))
 (AE (Az (Ab Fk Ji (dv 4) BM (Ah _)) (AI (AV Ba)) Am)
 (AI (AV (Sm (BX (AJ G_is_within (hr.mono (by decide)) rfl (AB (AQ (dv 4)) (AB (AQ (dv 1)) (AB (AQ (AU AM Ap (dv 2) AC)) AN))))) BM Ba)))))) (λss n Pd hl hw=>Ih hw)
theorem sc_lets_ways:Aj ["net","times","thin","paper","number","tie","fault"] ["net","times","thin","paper"] (AG CZ):=by constructor <;> first | rfl | decide +kernel
theorem Ld{f:Addr}{fd:FuncData}(T:Txt K mg)(G_is_thin:Got P w K mg base "is_thin" 3 ["net","thing"] .sh Fd)(G_is_tuple_of:Got P w K mg base "is_tuple_of" 1 ["count","thing"] .sh Ds)(G_left_out:Got P w K mg base "left_out" 5 ["net","thin"] .fr Hf)(G_way_fault:Got P w K mg base "way_fault" 4 ["net","times","tie","thing"] .sh FN)(F:Fun K "lets_ways" "lets_ways" CZ f fd):BK P w K mg base DB 6 f fd ["net","times","thin","paper"] (D_ K .sh Jm 4):=by
 exact Ez F sc_lets_ways (by decide) (λcdv A outer s H E hr=>(AE (Az (DTW.dt (Bu (BZ (BX (AJ G_is_thin (hr.mono (by decide)) rfl (AB (AQ (dv 0)) (AB (AQ (dv 2)) AN))))) (Bq (BZ (BX (AJ G_is_tuple_of (hr.mono (by decide)) rfl (AB (AQ (An BA DJ rfl T.n_len PySem.boot_len (AR (AJ G_left_out (hr.mono (by decide)) rfl (AB (AQ (dv 0)) (AB (AQ (dv 2)) AN))) Ad))) (AB (AQ (dv 3)) AN)))))))) (AI NO) Am)
 (AE (C_ PassesOwn.never rfl (Pj rfl T.n_enumerate (AJ G_left_out (hr.mono (by decide)) rfl (AB (AQ (dv 0)) (AB (AQ (dv 2)) AN)))) (D5 rfl (Ax (AY (i:=4) sc_lets_ways.nd rfl (Or.inl rfl)) (Ax (AY (i:=5) sc_lets_ways.nd rfl (Or.inl rfl)) DD))) (AE (Aq (i:=6) sc_lets_ways.nd rfl (Or.inl rfl) (AJ G_way_fault (hr.mono (by decide)) rfl (AB (AQ (dv 2)) (AB (AQ (dv 1)) (AB (AQ (dv 5)) (AB (AQ (AU AM Ap (dv 3) (dv 4))) AN))))))
 (AI (Az (Ab Hz MC (dv 6) BM (Ah _)) (AI NO) Am))))
 (AI (AV Br))))) (λss n Pd hl hw=>Ii hw)
theorem Js:Aj ["_law_thing","_law_least_here","_law_most"] ["_law_thing","_law_least_here","_law_most"] (AG CH):=by constructor <;> first | rfl | decide +kernel
theorem J3{f:Addr}{fd:FuncData}(T:Txt K mg)(F:Fun K "_law_whole" "_law_whole" CH f fd):BK P w K mg base DB 1 f fd ["_law_thing","_law_least_here","_law_most"] (D_ K .sh Gi 3):=by
 exact Ez F Js (by decide) (λcdv A outer s H E hr=>(AI (AV (EU (CO PP (dv 0) rfl T.n_isinstance rfl T.n_int (by decide +kernel)) (EU (Sj (CO NE (dv 0) rfl T.n_isinstance rfl T.n_bool (by decide +kernel))) (HF (Sn La Pw La Pw (dv 1) (dv 0) (dv 2)))))))) (λss n Pd hl hw=>LM hw)
theorem sc__law_places:Aj ["_law_feed_here","_law_many","_law_way","_law_words","_law_first","_law_letters","_law_word","_law_at","_law_names","_law_k","_law_sign"] ["_law_feed_here","_law_many"] (AG Bz):=by constructor <;> first | rfl | decide +kernel
theorem Iv{f:Addr}{fd:FuncData}(T:Txt K mg)(G__law_next:Got P w K mg base "_law_next" 1 ["_law_feed_here","_law_many"] .sh BF)(F:Fun K "_law_places" "_law_places" Bz f fd):BK P w K mg base DB 2 f fd ["_law_feed_here","_law_many"] (D_ K .fr Gh 2):=by
 exact Ez F sc__law_places (by decide) (λcdv A outer s H E hr=>(AE (Aq (i:=2) sc__law_places.nd rfl (Or.inl rfl) (AJ G__law_next (hr.mono (by decide)) rfl (AB (Bs 0) (AB (AQ AC) AN))))
 (AE (Aq (i:=3) sc__law_places.nd rfl (Or.inr rfl) (Dn (AH Ba (AH Ba (AH Ba (AH Ba (AH Ba (AH Ba (AH Ba (AH Ba (AH Ba (AH Ba (AH Ba (AH Ba Af))))))))))))))
 (AE (Az (DTW.dt (HE (Ab Ep Jj (dv 2) AC (Ah _)) (GO (Ab (De hr) FC (dv 1) AC (Ah _))))) (AE (Aq (i:=4) sc__law_places.nd rfl (Or.inr rfl) (AJ G__law_next (hr.mono (by decide)) rfl (AB (Bs 0) (AB (AQ AC) AN))))
 (AI (AV (An JZ Pu rfl T.n_sorted boot_sorted (AR (BJ rfl [("_law_words" : Str),("_law_first" : Str),("_law_k" : Str)] [some 3,some 4,none] (DI.c (Cj rfl T.n_range (AR (dv 1) Ad))) (λ_ _ _ _ _=>(AY (i:=2) (show List.Nodup [("_law_words" : Str),("_law_first" : Str),("_law_k" : Str)] by decide +kernel) rfl (Or.inl rfl))) (λ_ _ _ _ _=>BO) (λ_ _ _ _ _=>(AU AM Ap (dv 0) (A3 Dy D8 (A3 BI Bi (dv 1) (dv 2)) AC))) (by kernel_rfl)) Ad))))) Am)
 (AE (Aq (i:=5) sc__law_places.nd rfl (Or.inr rfl) Ba)
 (AE (Aq (i:=6) sc__law_places.nd rfl (Or.inr rfl) (XG PySem.F.plainAttrs_str PySem.F.slot_str_join PySem.F.type_str_join Th V0 Ba (AR (BJ rfl [("_law_letters" : Str),("_law_feed_here" : Str),("_law_k" : Str)] [some 5,some 0,none] (DI.c (Cj rfl T.n_range (AR AC Ad))) (λ_ _ _ _ _=>(AY (i:=2) (show List.Nodup [("_law_letters" : Str),("_law_feed_here" : Str),("_law_k" : Str)] by decide +kernel) rfl (Or.inl rfl))) (λ_ _ _ _ _=>BO) (λ_ _ _ _ _=>(AU AM Ap (dv 0) (AJ G__law_next (hr.mono (by decide)) rfl (AB (Bs 1) (AB (AQ AC) AN))))) (by kernel_rfl)) Ad)))
 (AE (Az (DTW.dt (HE (Ab Ep Jj (dv 2) AC (Ah _)) (GO (Ab (De hr) FC (dv 1) AC (Ah _))))) (AI (AV (BJ rfl [("_law_word" : Str),("_law_k" : Str)] [some 6,none] (DI.c (Cj rfl T.n_range (AR (dv 1) Ad))) (λ_ _ _ _ _=>(AY (i:=1) (show List.Nodup [("_law_word" : Str),("_law_k" : Str)] by decide +kernel) rfl (Or.inl rfl))) (λ_ _ _ _ _=>BO) (λ_ _ _ _ _=>(GS K_ Ge (dv 0) ET (Cq (A3 BI Bi AC (dv 1))))) (by kernel_rfl)))) Am)
 (AE (Aq (i:=7) sc__law_places.nd rfl (Or.inl rfl) (AJ G__law_next (hr.mono (by decide)) rfl (AB (Bs 0) (AB (AQ AC) AN))))
 (AE (Aq (i:=4) sc__law_places.nd rfl (Or.inr rfl) (AJ G__law_next (hr.mono (by decide)) rfl (AB (Bs 0) (AB (AQ AC) AN))))
 (AE (ES (i:=8) sc__law_places.nd rfl (Or.inl rfl) (Dn Af))
 (AE (C_ PassesOwn.never rfl (Cj rfl T.n_range (AR (dv 1) Ad)) (AY (i:=9) sc__law_places.nd rfl (Or.inl rfl)) (AE (Aq (i:=10) sc__law_places.nd rfl (Or.inl rfl) (AU AM Ap (dv 5) (A3 Dy D8 (A3 BI Bi (dv 4) (dv 9)) AC)))
 (AI (Ki 8 PySem.F.plainAttrs_list PySem.F.slot_list_append PySem.F.type_list_append DY Nj (pv 8) (AH (A3 BI Bi (A3 BI Bi (A3 BI Bi (GS K_ Ge (dv 6) ET (Cq (dv 7))) (dv 10)) (GS K_ Ge (dv 6) (Cq (A3 BI Bi (dv 7) AC)) (Cq AC))) (A3 DC D7 Ba (A3 Dy D8 (dv 9) AC))) Af)))))
 (AI (AV (An JZ Pu rfl T.n_sorted boot_sorted (AR (Kh 8) Ad))))))))))))))) (λss n Pd hl hw=>QJ hw)
theorem IZ:Aj ["_law_feed_here","_law_scale"] ["_law_feed_here","_law_scale"] (AG B0):=by constructor <;> first | rfl | decide +kernel
theorem Iw{f:Addr}{fd:FuncData}(T:Txt K mg)(G__law_next:Got P w K mg base "_law_next" 1 ["_law_feed_here","_law_many"] .sh BF)(F:Fun K "_law_length" "_law_length" B0 f fd):BK P w K mg base DB 2 f fd ["_law_feed_here","_law_scale"] (D_ K .sh S2 2):=by
 exact Ez F IZ (by decide) (λcdv A outer s H E hr=>(AE (Az (Ab Ep Jj (dv 1) AC (Ah _)) (AI (AV (A3 BI Bi AC (AJ G__law_next (hr.mono (by decide)) rfl (AB (Bs 0) (AB (AQ AC) AN)))))) Am)
 (AE (Az (Ab Ep Jj (dv 1) AC (Ah _)) (AI (AV (A3 BI Bi AC (AJ G__law_next (hr.mono (by decide)) rfl (AB (Bs 0) (AB (AQ AC) AN)))))) Am)
 (AI (AV (Sm (Ab Ep Jj (dv 1) AC (Ah _)) (A3 LZ Oh (A3 Fj D8 AC AC) (AJ G__law_next (hr.mono (by decide)) rfl (AB (Bs 0) (AB (AQ AC) AN)))) (A3 BI Bi AC (AJ G__law_next (hr.mono (by decide)) rfl (AB (Bs 0) (AB (AQ (A3 Fj D8 AC AC)) AN)))))))))) (λss n Pd hl hw=>QK hw)
theorem sc__law_net:Aj ["_law_feed_here","_law_most","_law_ties","_law_places_here","_law_few","_law_scale","_law_found","_law_one","_law_other"] ["_law_feed_here","_law_most","_law_ties"] (AG C1):=by constructor <;> first | rfl | decide +kernel
theorem Mq{f:Addr}{fd:FuncData}(T:Txt K mg)(G__law_length:Got P w K mg base "_law_length" 2 ["_law_feed_here","_law_scale"] .sh S2)(G__law_next:Got P w K mg base "_law_next" 1 ["_law_feed_here","_law_many"] .sh BF)(G__law_places:Got P w K mg base "_law_places" 2 ["_law_feed_here","_law_many"] .fr Gh)(F:Fun K "_law_net" "_law_net" C1 f fd):BK P w K mg base DB 3 f fd ["_law_feed_here","_law_most","_law_ties"] (D_ K .sh S1 3):=by
 exact Ez F sc__law_net (by decide) (λcdv A outer s H E hr=>(AE (Aq (i:=3) sc__law_net.nd rfl (Or.inl rfl) (AJ G__law_places (hr.mono (by decide)) rfl (AB (Bs 0) (AB (AQ (A3 BI Bi AC (AJ G__law_next (hr.mono (by decide)) rfl (AB (Bs 0) (AB (AQ (dv 1)) AN))))) AN))))
 (AE (Aq (i:=4) sc__law_net.nd rfl (Or.inl rfl) (A3 BI Bi AC (AJ G__law_next (hr.mono (by decide)) rfl (AB (Bs 0) (AB (AQ AC) AN)))))
 (AE (Aq (i:=5) sc__law_net.nd rfl (Or.inl rfl) (AJ G__law_next (hr.mono (by decide)) rfl (AB (Bs 0) (AB (AQ AC) AN))))
 (AE (ES (i:=6) sc__law_net.nd rfl (Or.inl rfl) (Dn Af))
 (AE (C_ PassesOwn.never rfl (Cj rfl T.n_range (AR (An BA DJ rfl T.n_len PySem.boot_len (AR (dv 3) Ad)) Ad)) (AY (i:=7) sc__law_net.nd rfl (Or.inl rfl)) (AI (C_ PassesOwn.never rfl (Kj rfl T.n_range (AR (A3 BI Bi (dv 7) AC) (AR (An BA DJ rfl T.n_len PySem.boot_len (AR (dv 3) Ad)) Ad))) (AY (i:=8) sc__law_net.nd rfl (Or.inl rfl)) (AI (Az (DTW.dt (HE (Ab La Pw (AJ G__law_next (hr.mono (by decide)) rfl (AB (Bs 0) (AB (AQ AC) AN))) (dv 4) (Ah _)) (GO (Ab (De hr) FC (An BA DJ rfl T.n_len PySem.boot_len (AR (Kh 6) Ad)) (dv 2) (Ah _))))) (AI (Ki 6 PySem.F.plainAttrs_list PySem.F.slot_list_append PySem.F.type_list_append DY Nj (pv 6) (AH (A6 (AH (AU AM Ap (dv 3) (dv 7)) (AH (AU AM Ap (dv 3) (dv 8)) (AH (AJ G__law_length (hr.mono (by decide)) rfl (AB (Bs 0) (AB (AQ (dv 5)) AN))) Af)))) Af))) Am)))))
 (AI (AV (A6 (AH (DZ B5 EL rfl T.n_tuple boot_tuple (AR (dv 3) Ad)) (AH (DZ B5 EL rfl T.n_tuple boot_tuple (AR (Kh 6) Ad)) Af))))))))))) (λss n Pd hl hw=>U7 hw)
theorem sc__law_times:Aj ["_law_feed_here","_law_some","_law_at","_law_bottom"] ["_law_feed_here"] (AG CI):=by constructor <;> first | rfl | decide +kernel
theorem J4{f:Addr}{fd:FuncData}(T:Txt K mg)(G__law_next:Got P w K mg base "_law_next" 1 ["_law_feed_here","_law_many"] .sh BF)(F:Fun K "_law_times" "_law_times" CI f fd):BK P w K mg base DB 2 f fd ["_law_feed_here"] (D_ K .sh HH 1):=by
 exact Ez F sc__law_times (by decide) (λcdv A outer s H E hr=>(AE (Aq (i:=1) sc__law_times.nd rfl (Or.inl rfl) (Dn (AH (A6 (AH AC (AH AC Af))) (AH (A6 (AH AC (AH AC Af))) (AH (A6 (AH AC (AH AC Af))) (AH (A6 (AH AC (AH AC Af))) (AH (A6 (AH AC (AH AC Af))) (AH (A6 (AH AC (AH AC Af))) (AH (A6 (AH (A3 Fj D8 AC AC) (AH AC Af))) (AH (A6 (AH (A3 Fj D8 AC AC) (AH (A3 Fj D8 AC AC) Af))) Af))))))))))
 (AE (Aq (i:=2) sc__law_times.nd rfl (Or.inl rfl) (AJ G__law_next (hr.mono (by decide)) rfl (AB (Bs 0) (AB (AQ AC) AN))))
 (AE (Az (Ab (De hr) FC (dv 2) AC (Ah _)) (AI (AV (AU AM Ap (dv 1) (dv 2)))) Am)
 (AE (Aq (i:=3) sc__law_times.nd rfl (Or.inl rfl) (A3 BI Bi AC (AJ G__law_next (hr.mono (by decide)) rfl (AB (Bs 0) (AB (AQ AC) AN)))))
 (AI (AV (A6 (AH (A3 BI Bi (dv 3) (AJ G__law_next (hr.mono (by decide)) rfl (AB (Bs 0) (AB (AQ (A3 DC D7 AC (dv 3))) AN)))) (AH (dv 3) Af)))))))))) (λss n Pd hl hw=>LN hw)
theorem Gy:Aj ["_law_ties"] ["_law_ties"] (AG Bc):=by constructor <;> first | rfl | decide +kernel
theorem G4{f:Addr}{fd:FuncData}(T:Txt K mg)(F:Fun K "_law_in_order" "_law_in_order" Bc f fd):BK P w K mg base DB 1 f fd ["_law_ties"] (D_ K .fr DM 1):=by
 exact Ez F Gy (by decide) (λcdv A outer s H E hr=>(AI (AV (BJ rfl [("_law_length_here" : Str),("_law_one" : Str),("_law_other" : Str)] [none,none,none] (BP (An JY Pt rfl T.n_sorted boot_sorted (AR (BJ rfl [("_law_tie" : Str)] [none] (BP (dv 0)) (λ_ _ _ _ _=>(AY (i:=0) (show List.Nodup [("_law_tie" : Str)] by decide +kernel) rfl (Or.inl rfl))) (λ_ _ _ _ _=>BO) (λ_ _ _ _ _=>(A6 (AH (AU AM Ap (dv 0) AC) (AH (AU AM Ap (dv 0) AC) (AH (AU AM Ap (dv 0) AC) Af))))) (by kernel_rfl)) Ad))) (λ_ _ _ _ _=>(D5 rfl (Ax (AY (i:=0) (show List.Nodup [("_law_length_here" : Str),("_law_one" : Str),("_law_other" : Str)] by decide +kernel) rfl (Or.inl rfl)) (Ax (AY (i:=1) (show List.Nodup [("_law_length_here" : Str),("_law_one" : Str),("_law_other" : Str)] by decide +kernel) rfl (Or.inl rfl)) (Ax (AY (i:=2) (show List.Nodup [("_law_length_here" : Str),("_law_one" : Str),("_law_other" : Str)] by decide +kernel) rfl (Or.inl rfl)) DD))))) (λ_ _ _ _ _=>BO) (λ_ _ _ _ _=>(A6 (AH (dv 1) (AH (dv 2) (AH (dv 0) Af))))) (by kernel_rfl))))) (λss n Pd hl hw=>Hk hw)
theorem sc__law_least:Aj ["_law_ties","_law_place","_law_known","_law_going","_law_one","_law_other","_law_length_here","_law_here","_law_there","_law_reach"] ["_law_ties","_law_place"] (AG CJ):=by constructor <;> first | rfl | decide +kernel
theorem J5{f:Addr}{fd:FuncData}(T:Txt K mg)(F:Fun K "_law_least" "_law_least" CJ f fd):BK P w K mg base DB 1 f fd ["_law_ties","_law_place"] (D_ K .fr CT 2):=by
 exact Ez F sc__law_least (by decide) (λcdv A outer s H E hr=>(AE (ES (i:=2) sc__law_least.nd rfl (Or.inl rfl) (NS (dv 1) AC))
 (AE (Aq (i:=3) sc__law_least.nd rfl (Or.inl rfl) Br)
 (AE (JP PassesOwn.never (BX (dv 3)) (AE (Aq (i:=3) sc__law_least.nd rfl (Or.inl rfl) Br)
 (AI (Tz PassesOwn.never rfl (pv 0) (D5 rfl (Ax (AY (i:=4) sc__law_least.nd rfl (Or.inl rfl)) (Ax (AY (i:=5) sc__law_least.nd rfl (Or.inl rfl)) (Ax (AY (i:=6) sc__law_least.nd rfl (Or.inl rfl)) DD)))) (AI (C_ PassesOwn.never rfl (OZ (Dn (AH (A6 (AH (dv 4) (AH (dv 5) Af))) (AH (A6 (AH (dv 5) (AH (dv 4) Af))) Af)))) (D5 rfl (Ax (AY (i:=7) sc__law_least.nd rfl (Or.inl rfl)) (Ax (AY (i:=8) sc__law_least.nd rfl (Or.inl rfl)) DD))) (AI (Az (Ab (VP hr) XN (dv 7) (Kh 2) (by with_unfolding_all rfl)) (AE (Aq (i:=9) sc__law_least.nd rfl (Or.inl rfl) (A3 BI Bi (DU hr (Kh 2) (dv 7)) (dv 6)))
 (AI (Az (Ab (De hr) FC (dv 9) (T4 hr (Kh 2) (dv 8) (A3 BI Bi (dv 9) AC)) (Ah _)) (AE (Ly (i:=2) hr (pv 2) (dv 8) (dv 9))
 (AI (Aq (i:=3) sc__law_least.nd rfl (Or.inl rfl) Br))) Am))) Am))))))))
 (AI (Ph 2 (pv 2))))))) (λss n Pd hl hw=>Ij hw)
theorem sc__law_thinned:Aj ["_law_net_here","_law_times_here","_law_kept","_law_tie","_law_least_here"] ["_law_net_here","_law_times_here"] (AG Bn):=by constructor <;> first | rfl | decide +kernel
theorem Hm{f:Addr}{fd:FuncData}(T:Txt K mg)(G__law_in_order:Got P w K mg base "_law_in_order" 1 ["_law_ties"] .fr DM)(G__law_least:Got P w K mg base "_law_least" 1 ["_law_ties","_law_place"] .fr CT)(F:Fun K "_law_thinned" "_law_thinned" Bn f fd):BK P w K mg base DB 2 f fd ["_law_net_here","_law_times_here"] (D_ K .sh FD 2):=by
 exact Ez F sc__law_thinned (by decide) (λcdv A outer s H E hr=>(AE (ES (i:=2) sc__law_thinned.nd rfl (Or.inl rfl) (Dn Af))
 (AE (C_ PassesOwn.never rfl (OZ (AJ G__law_in_order (hr.mono (by decide)) rfl (AB (AQ (AU AM Ap (dv 0) AC)) AN))) (AY (i:=3) sc__law_thinned.nd rfl (Or.inl rfl)) (AE (Aq (i:=4) sc__law_thinned.nd rfl (Or.inl rfl) (Pl hr (AJ G__law_least (hr.mono (by decide)) rfl (AB (Pm (Kh 2)) (AB (AQ (AU AM Ap (dv 3) AC)) AN))) (AU AM Ap (dv 3) AC)))
 (AI (Az (DTW.dt (Bu (Ab Fk Ji (dv 4) BM (Ah _)) (Bq (Ab G2 Kv (A3 DC D7 (dv 4) (AU AM Ap (dv 1) AC)) (A3 DC D7 (AU AM Ap (dv 3) AC) (AU AM Ap (dv 1) AC)) (Ah _))))) (AI (Ki 2 PySem.F.plainAttrs_list PySem.F.slot_list_append PySem.F.type_list_append DY Nj (pv 2) (AH (dv 3) Af))) Am))))
 (AI (AV (A6 (AH (AU AM Ap (dv 0) AC) (AH (DZ B5 EL rfl T.n_tuple boot_tuple (AR (An JY Pt rfl T.n_sorted boot_sorted (AR (Kh 2) Ad)) Ad)) Af)))))))) (λss n Pd hl hw=>Gz hw)
theorem Hi:Aj ["_law_thing"] ["_law_thing"] (AG Bp):=by constructor <;> first | rfl | decide +kernel
theorem Ho{f:Addr}{fd:FuncData}(T:Txt K mg)(F:Fun K "_law_is_name" "_law_is_name" Bp f fd):BK P w K mg base DB 1 f fd ["_law_thing"] (D_ K .sh He 1):=by
 exact Ez F Hi (by decide) (λcdv A outer s H E hr=>(AE (Az (DTW.dt (Bu (BZ (BX (CO Lp (dv 0) rfl T.n_isinstance rfl T.n_str (by decide +kernel)))) (Bq (BZ (Se (De hr) FC (De hr) FC AC (An BA DJ rfl T.n_len PySem.boot_len (AR (dv 0) Ad)) AC))))) (AI (AV Br)) Am)
 (AI (AV (An (GX rfl) Px rfl T.n_all PyProof.Rows.boot_all (AR (BJ rfl [("_law_sign" : Str)] [none] (BP (dv 0)) (λ_ _ _ _ _=>(AY (i:=0) (show List.Nodup [("_law_sign" : Str)] by decide +kernel) rfl (Or.inl rfl))) (λ_ _ _ _ _=>BO) (λ_ _ _ _ _=>(Cr VO XM (dv 0) Ba (by with_unfolding_all rfl))) (by kernel_rfl)) Ad)))))) (λss n Pd hl hw=>Il hw)
theorem Ib:Aj ["_law_places_here","_law_thing"] ["_law_places_here","_law_thing"] (AG B3):=by constructor <;> first | rfl | decide +kernel
theorem Iy{f:Addr}{fd:FuncData}(T:Txt K mg)(G__law_is_name:Got P w K mg base "_law_is_name" 1 ["_law_thing"] .sh He)(G__law_whole:Got P w K mg base "_law_whole" 1 ["_law_thing","_law_least_here","_law_most"] .sh Gi)(F:Fun K "_law_is_tie" "_law_is_tie" B3 f fd):BK P w K mg base DB 2 f fd ["_law_places_here","_law_thing"] (D_ K .sh Np 2):=by
 exact Ez F Ib (by decide) (λcdv A outer s H E hr=>(AE (Az (DTW.dt (Bu (BZ (BX (CO kit_tuple (dv 1) rfl T.n_isinstance rfl T.n_tuple (by decide +kernel)))) (Bu (Ab FW KH (An BA DJ rfl T.n_len PySem.boot_len (AR (dv 1) Ad)) AC (Ah _)) (Bq (BZ (BX (AJ G__law_whole (hr.mono (by decide)) rfl (AB (AQ (AU AM Ap (dv 1) AC)) (AB (AQ AC) (AB (AQ (A3 Fj D8 AC AC)) AN)))))))))) (AI (AV Br)) Am)
 (AE (Az (DTW.dt (Bu (BZ (BX (AJ G__law_is_name (hr.mono (by decide)) rfl (AB (AQ (AU AM Ap (dv 1) AC)) AN)))) (Bq (BZ (BX (AJ G__law_is_name (hr.mono (by decide)) rfl (AB (AQ (AU AM Ap (dv 1) AC)) AN))))))) (AI (AV Br)) Am)
 (AI (AV (EU (Cr (C3 hr) DK (AU AM Ap (dv 1) AC) (dv 0) (by with_unfolding_all rfl)) (EU (Cr (C3 hr) DK (AU AM Ap (dv 1) AC) (dv 0) (by with_unfolding_all rfl)) (HF (Cr (De hr) FC (AU AM Ap (dv 1) AC) (AU AM Ap (dv 1) AC) (Ah _)))))))))) (λss n Pd hl hw=>Jw hw)
theorem LH:Aj ["_law_things"] ["_law_things"] (AG Cf):=by constructor <;> first | rfl | decide +kernel
theorem Li{f:Addr}{fd:FuncData}(T:Txt K mg)(F:Fun K "_law_rise" "_law_rise" Cf f fd):BK P w K mg base DB 1 f fd ["_law_things"] (D_ K .sh Cs 1):=by
 exact Ez F LH (by decide) (λcdv A outer s H E hr=>(AI (AV (Cr (FG hr) DK Br (BJ rfl [("_law_things" : Str),("_law_k" : Str)] [some 0,none] (DI.c (Cj rfl T.n_range (AR (A3 LZ Oh (An BA DJ rfl T.n_len PySem.boot_len (AR (dv 0) Ad)) AC) Ad))) (λ_ _ _ _ _=>(AY (i:=1) (show List.Nodup [("_law_things" : Str),("_law_k" : Str)] by decide +kernel) rfl (Or.inl rfl))) (λ_ _ _ _ _=>BO) (λ_ _ _ _ _=>(Cr (De hr) FC (AU AM Ap (dv 0) (dv 1)) (AU AM Ap (dv 0) (A3 BI Bi (dv 1) AC)) (Ah _))) (by kernel_rfl)) (by with_unfolding_all rfl))))) (λss n Pd hl hw=>MZ hw)
theorem Ic:Aj ["_law_thing"] ["_law_thing"] (AG B4):=by constructor <;> first | rfl | decide +kernel
theorem Iz{f:Addr}{fd:FuncData}(T:Txt K mg)(G__law_is_name:Got P w K mg base "_law_is_name" 1 ["_law_thing"] .sh He)(G__law_is_tie:Got P w K mg base "_law_is_tie" 2 ["_law_places_here","_law_thing"] .sh Np)(G__law_rise:Got P w K mg base "_law_rise" 1 ["_law_things"] .sh Cs)(F:Fun K "_law_is_net" "_law_is_net" B4 f fd):BK P w K mg base DB 3 f fd ["_law_thing"] (D_ K .sh Nm 1):=by
 exact Ez F Ic (by decide) (λcdv A outer s H E hr=>(AE (Az (DTW.dt (Bu (BZ (BX (CO kit_tuple (dv 0) rfl T.n_isinstance rfl T.n_tuple (by decide +kernel)))) (Bu (Ab FW KH (An BA DJ rfl T.n_len PySem.boot_len (AR (dv 0) Ad)) AC (Ah _)) (Bq (BZ (BX (CO kit_tuple (AU AM Ap (dv 0) AC) rfl T.n_isinstance rfl T.n_tuple (by decide +kernel)))))))) (AI (AV Br)) Am)
 (AE (Az (DTW.dt (Bu (BZ (BX (CO kit_tuple (AU AM Ap (dv 0) AC) rfl T.n_isinstance rfl T.n_tuple (by decide +kernel)))) (Bu (Ab G2 Kv (An BA DJ rfl T.n_len PySem.boot_len (AR (AU AM Ap (dv 0) AC) Ad)) AC (Ah _)) (Bq (Ab G2 Kv (An BA DJ rfl T.n_len PySem.boot_len (AR (AU AM Ap (dv 0) AC) Ad)) AC (Ah _)))))) (AI (AV Br)) Am)
 (AE (Az (DTW.dt (Bu (Ab (C3 hr) DK Br (BJ rfl [("_law_one" : Str)] [none] (BP (AU AM Ap (dv 0) AC)) (λ_ _ _ _ _=>(AY (i:=0) (show List.Nodup [("_law_one" : Str)] by decide +kernel) rfl (Or.inl rfl))) (λ_ _ _ _ _=>BO) (λ_ _ _ _ _=>(AJ G__law_is_name (hr.mono (by decide)) rfl (AB (AQ (dv 0)) AN))) (by kernel_rfl)) (by with_unfolding_all rfl)) (Bq (BZ (BX (AJ G__law_rise (hr.mono (by decide)) rfl (AB (AQ (AU AM Ap (dv 0) AC)) AN))))))) (AI (AV Br)) Am)
 (AE (Az (Ab (C3 hr) DK Br (BJ rfl [("_law_thing" : Str),("_law_tie" : Str)] [some 0,none] (BP (AU AM Ap (dv 0) AC)) (λ_ _ _ _ _=>(AY (i:=1) (show List.Nodup [("_law_thing" : Str),("_law_tie" : Str)] by decide +kernel) rfl (Or.inl rfl))) (λ_ _ _ _ _=>BO) (λ_ _ _ _ _=>(AJ G__law_is_tie (hr.mono (by decide)) rfl (AB (AQ (AU AM Ap (dv 0) AC)) (AB (AQ (dv 1)) AN)))) (by kernel_rfl)) (by with_unfolding_all rfl)) (AI (AV Br)) Am)
 (AI (AV (AJ G__law_rise (hr.mono (by decide)) rfl (AB (AQ (BJ rfl [("_law_tie" : Str)] [none] (BP (AU AM Ap (dv 0) AC)) (λ_ _ _ _ _=>(AY (i:=0) (show List.Nodup [("_law_tie" : Str)] by decide +kernel) rfl (Or.inl rfl))) (λ_ _ _ _ _=>BO) (λ_ _ _ _ _=>(GS K_ Ge (dv 0) ET (Cq AC))) (by kernel_rfl))) AN))))))))) (λss n Pd hl hw=>Jx hw)
theorem sc__law_is_thin:Aj ["_law_net_here","_law_thing","_law_there"] ["_law_net_here","_law_thing"] (AG Bo):=by constructor <;> first | rfl | decide +kernel
theorem Hn{f:Addr}{fd:FuncData}(T:Txt K mg)(G__law_is_net:Got P w K mg base "_law_is_net" 3 ["_law_thing"] .sh Nm)(F:Fun K "_law_is_thin" "_law_is_thin" Bo f fd):BK P w K mg base DB 4 f fd ["_law_net_here","_law_thing"] (D_ K .sh Fd 2):=by
 exact Ez F sc__law_is_thin (by decide) (λcdv A outer s H E hr=>(AE (Az (DTW.dt (Bu (BZ (BX (AJ G__law_is_net (hr.mono (by decide)) rfl (AB (AQ (dv 1)) AN)))) (Bq (Ab FW KH (An (Dc hr) HG rfl T.n_repr boot_repr (AR (AU AM Ap (dv 1) AC) Ad)) (An (Dc hr) HG rfl T.n_repr boot_repr (AR (AU AM Ap (dv 0) AC) Ad)) (Ah _))))) (AI (AV Br)) Am)
 (AE (Aq (i:=2) sc__law_is_thin.nd rfl (Or.inr rfl) (BJ rfl [("_law_tie" : Str)] [none] (BP (AU AM Ap (dv 0) AC)) (λ_ _ _ _ _=>(AY (i:=0) (show List.Nodup [("_law_tie" : Str)] by decide +kernel) rfl (Or.inl rfl))) (λ_ _ _ _ _=>BO) (λ_ _ _ _ _=>(An (Dc hr) HG rfl T.n_repr boot_repr (AR (dv 0) Ad))) (by kernel_rfl)))
 (AI (AV (Cr (FG hr) DK Br (BJ rfl [("_law_there" : Str),("_law_tie" : Str)] [some 2,none] (BP (AU AM Ap (dv 1) AC)) (λ_ _ _ _ _=>(AY (i:=1) (show List.Nodup [("_law_there" : Str),("_law_tie" : Str)] by decide +kernel) rfl (Or.inl rfl))) (λ_ _ _ _ _=>BO) (λ_ _ _ _ _=>(Cr (C3 hr) DK (An (Dc hr) HG rfl T.n_repr boot_repr (AR (dv 1) Ad)) (dv 0) (by with_unfolding_all rfl))) (by kernel_rfl)) (by with_unfolding_all rfl))))))) (λss n Pd hl hw=>G0 hw)
theorem sc__law_walked:Aj ["_law_net_here","_law_way","_law_sum_of","_law_k","_law_here","_law_there","_law_steps"] ["_law_net_here","_law_way"] (AG By):=by constructor <;> first | rfl | decide +kernel
theorem Iu{f:Addr}{fd:FuncData}(T:Txt K mg)(F:Fun K "_law_walked" "_law_walked" By f fd):BK P w K mg base DB 1 f fd ["_law_net_here","_law_way"] (D_ K .sh Hs 2):=by
 exact Ez F sc__law_walked (by decide) (λcdv A outer s H E hr=>(AE (Az (DTW.dt (Bu (BZ (BX (CO kit_tuple (dv 1) rfl T.n_isinstance rfl T.n_tuple (by decide +kernel)))) (Bu (Ab Ep Jj (An BA DJ rfl T.n_len PySem.boot_len (AR (dv 1) Ad)) AC (Ah _)) (Bq (Ab (C3 hr) DK Br (BJ rfl [("_law_one" : Str)] [none] (BP (dv 1)) (λ_ _ _ _ _=>(AY (i:=0) (show List.Nodup [("_law_one" : Str)] by decide +kernel) rfl (Or.inl rfl))) (λ_ _ _ _ _=>BO) (λ_ _ _ _ _=>(CO Lp (dv 0) rfl T.n_isinstance rfl T.n_str (by decide +kernel))) (by kernel_rfl)) (by with_unfolding_all rfl)))))) (AI (AV BM)) Am)
 (AE (Az (Ab (C3 hr) DK Br (BJ rfl [("_law_net_here" : Str),("_law_one" : Str)] [some 0,none] (BP (dv 1)) (λ_ _ _ _ _=>(AY (i:=1) (show List.Nodup [("_law_net_here" : Str),("_law_one" : Str)] by decide +kernel) rfl (Or.inl rfl))) (λ_ _ _ _ _=>BO) (λ_ _ _ _ _=>(Cr (C3 hr) DK (dv 1) (AU AM Ap (dv 0) AC) (by with_unfolding_all rfl))) (by kernel_rfl)) (by with_unfolding_all rfl)) (AI (AV BM)) Am)
 (AE (Aq (i:=2) sc__law_walked.nd rfl (Or.inl rfl) AC)
 (AE (C_ PassesOwn.never rfl (Kj rfl T.n_range (AR AC (AR (An BA DJ rfl T.n_len PySem.boot_len (AR (dv 1) Ad)) Ad))) (AY (i:=3) sc__law_walked.nd rfl (Or.inl rfl)) (AE (Vp (GS K_ Ge (dv 1) (Cq (A3 LZ Oh (dv 3) AC)) (Cq (A3 BI Bi (dv 3) AC))) (D5 rfl (Ax (AY (i:=4) sc__law_walked.nd rfl (Or.inr rfl)) (Ax (AY (i:=5) sc__law_walked.nd rfl (Or.inr rfl)) DD))))
 (AE (Pg (i:=6) sc__law_walked.nd rfl (Or.inl rfl) rfl [("_law_here" : Str),("_law_there" : Str),("_law_tie" : Str)] [some 4,some 5,none] (BP (AU AM Ap (dv 0) AC)) (λ_ _ _ _ _=>(AY (i:=2) (show List.Nodup [("_law_here" : Str),("_law_there" : Str),("_law_tie" : Str)] by decide +kernel) rfl (Or.inl rfl))) (λ_ _ _ _ _=>(GR (DTW.dt (HE (Ab FW KH (dv 0) (dv 1) (Ah _)) (HE (Ab (C3 hr) DK (dv 0) (GS K_ Ge (dv 2) ET (Cq AC)) (by with_unfolding_all rfl)) (GO (Ab (C3 hr) DK (dv 1) (GS K_ Ge (dv 2) ET (Cq AC)) (by with_unfolding_all rfl)))))))) (λ_ _ _ _ _=>(AU AM Ap (dv 2) AC)) (by kernel_rfl))
 (AE (Az (Ab (R9 hr) Uh (dv 6) (Dn Af) (Ah _)) (AI (AV BM)) Am)
 (AI (Aq (i:=2) sc__law_walked.nd rfl (Or.inl rfl) (A3 BI Bi (dv 2) (AU AM Ap (dv 6) AC))))))))
 (AI (AV (dv 2)))))))) (λss n Pd hl hw=>OC hw)
theorem sc__law_ways_due:Aj ["_law_net_here","_law_times_here","_law_thin","_law_paper","_law_left","_law_number","_law_tie","_law_length_here"] ["_law_net_here","_law_times_here","_law_thin","_law_paper"] (AG Bb):=by constructor <;> first | rfl | decide +kernel
theorem G3{f:Addr}{fd:FuncData}(T:Txt K mg)(G__law_in_order:Got P w K mg base "_law_in_order" 1 ["_law_ties"] .fr DM)(G__law_is_thin:Got P w K mg base "_law_is_thin" 4 ["_law_net_here","_law_thing"] .sh Fd)(G__law_walked:Got P w K mg base "_law_walked" 1 ["_law_net_here","_law_way"] .sh Hs)(F:Fun K "_law_ways_due" "_law_ways_due" Bb f fd):BK P w K mg base DB 5 f fd ["_law_net_here","_law_times_here","_law_thin","_law_paper"] (D_ K .sh Nk 4):=by
 exact Ez F sc__law_ways_due (by decide) (λcdv A outer s H E hr=>(AE (Az (DTW.dt (Bu (BZ (BX (AJ G__law_is_thin (hr.mono (by decide)) rfl (AB (AQ (dv 0)) (AB (AQ (dv 2)) AN))))) (Bq (BZ (BX (CO kit_tuple (dv 3) rfl T.n_isinstance rfl T.n_tuple (by decide +kernel))))))) (AI (AV (A6 (AH Ba (AH AC Af))))) Am)
 (AE (Aq (i:=4) sc__law_ways_due.nd rfl (Or.inl rfl) (AJ G__law_in_order (hr.mono (by decide)) rfl (AB (AQ (BJ rfl [("_law_thin" : Str),("_law_tie" : Str)] [some 2,none] (BP (AU AM Ap (dv 0) AC)) (λ_ _ _ _ _=>(AY (i:=1) (show List.Nodup [("_law_thin" : Str),("_law_tie" : Str)] by decide +kernel) rfl (Or.inl rfl))) (λ_ _ _ _ _=>(GR (Ab (FG hr) DK (dv 1) (AU AM Ap (dv 0) AC) (by with_unfolding_all rfl)))) (λ_ _ _ _ _=>(dv 1)) (by kernel_rfl))) AN)))
 (AE (Az (Ab FW KH (An BA DJ rfl T.n_len PySem.boot_len (AR (dv 3) Ad)) (An BA DJ rfl T.n_len PySem.boot_len (AR (dv 4) Ad)) (Ah _)) (AI (AV (A6 (AH Ba (AH AC Af))))) Am)
 (AE (C_ PassesOwn.never rfl (Pj rfl T.n_enumerate (dv 4)) (D5 rfl (Ax (AY (i:=5) sc__law_ways_due.nd rfl (Or.inl rfl)) (Ax (AY (i:=6) sc__law_ways_due.nd rfl (Or.inl rfl)) DD))) (AE (Aq (i:=7) sc__law_ways_due.nd rfl (Or.inl rfl) (AJ G__law_walked (hr.mono (by decide)) rfl (AB (AQ (dv 2)) (AB (AQ (AU AM Ap (dv 3) (dv 5))) AN))))
 (AE (Az (DTW.dt (Bu (Ab Fk Ji (dv 7) BM (Ah _)) (Bu (Ab FW KH (AU AM Ap (AU AM Ap (dv 3) (dv 5)) AC) (AU AM Ap (dv 6) AC) (Ah _)) (Bq (Ab FW KH (AU AM Ap (AU AM Ap (dv 3) (dv 5)) (Sk AC)) (AU AM Ap (dv 6) AC) (Ah _)))))) (AI (AV (A6 (AH Ba (AH (dv 5) Af))))) Am)
 (AI (Az (Ab G2 Kv (A3 DC D7 (dv 7) (AU AM Ap (dv 1) AC)) (A3 DC D7 (AU AM Ap (dv 6) AC) (AU AM Ap (dv 1) AC)) (Ah _)) (AI (AV (A6 (AH Ba (AH (dv 5) Af))))) Am)))))
 (AI (AV BM))))))) (λss n Pd hl hw=>Fx hw)
theorem sc__law_some_thin:Aj ["_law_feed_here","_law_net_here","_law_times_here","_law_thin","_law_way","_law_more"] ["_law_feed_here","_law_net_here","_law_times_here"] (AG BS):=by constructor <;> first | rfl | decide +kernel
theorem GD{f:Addr}{fd:FuncData}(T:Txt K mg)(G__law_next:Got P w K mg base "_law_next" 1 ["_law_feed_here","_law_many"] .sh BF)(G__law_thinned:Got P w K mg base "_law_thinned" 2 ["_law_net_here","_law_times_here"] .sh FD)(F:Fun K "_law_some_thin" "_law_some_thin" BS f fd):BK P w K mg base DB 3 f fd ["_law_feed_here","_law_net_here","_law_times_here"] (D_ K .sh Jl 3):=by
 exact Ez F sc__law_some_thin (by decide) (λcdv A outer s H E hr=>(AE (Aq (i:=3) sc__law_some_thin.nd rfl (Or.inr rfl) (AJ G__law_thinned (hr.mono (by decide)) rfl (AB (AQ (dv 1)) (AB (AQ (dv 2)) AN))))
 (AE (Aq (i:=4) sc__law_some_thin.nd rfl (Or.inl rfl) (AJ G__law_next (hr.mono (by decide)) rfl (AB (Bs 0) (AB (AQ AC) AN))))
 (AE (Az (Ab Ep Jj (dv 4) AC (Ah _)) (AI (AV (A6 (AH (AU AM Ap (dv 1) AC) (AH (DZ B5 EL rfl T.n_tuple boot_tuple (AR (BJ rfl [("_law_feed_here" : Str),("_law_tie" : Str)] [some 0,none] (BP (AU AM Ap (dv 1) AC)) (λ_ _ _ _ _=>(AY (i:=1) (show List.Nodup [("_law_feed_here" : Str),("_law_tie" : Str)] by decide +kernel) rfl (Or.inl rfl))) (λ_ _ _ _ _=>(GR (Ab G2 Kv (AJ G__law_next (hr.mono (by decide)) rfl (AB (Bs 0) (AB (AQ AC) AN))) AC (Ah _)))) (λ_ _ _ _ _=>(dv 1)) (by kernel_rfl)) Ad)) Af))))) Am)
 (AE (Sf (i:=5) sc__law_some_thin.nd rfl (Or.inl rfl) rfl [("_law_thin" : Str),("_law_feed_here" : Str),("_law_tie" : Str)] [some 3,some 0,none] (BP (AU AM Ap (dv 1) AC)) (λ_ _ _ _ _=>(AY (i:=2) (show List.Nodup [("_law_thin" : Str),("_law_feed_here" : Str),("_law_tie" : Str)] by decide +kernel) rfl (Or.inl rfl))) (λ_ _ _ _ _=>(GR (DTW.dt (Bu (Ab (C3 hr) DK (dv 2) (AU AM Ap (dv 0) AC) (by with_unfolding_all rfl)) (Bq (Ab Ep Jj (AJ G__law_next (hr.mono (by decide)) rfl (AB (Bs 1) (AB (AQ AC) AN))) AC (Ah _))))))) (λ_ _ _ _ _=>(dv 2)) (by kernel_rfl))
 (AE (Az (DTW.dt (HE (Ab Ep Jj (dv 4) AC (Ah _)) (GO (Ab (R8 hr) Ue (Kh 5) (Dn Af) (Ah _))))) (AI (Tx (i:=5) (pv 5) (AJ G__law_next (hr.mono (by decide)) rfl (AB (Bs 0) (AB (AQ (An BA DJ rfl T.n_len PySem.boot_len (AR (Kh 5) Ad))) AN))))) Am)
 (AI (AV (A6 (AH (AU AM Ap (dv 1) AC) (AH (DZ B5 EL rfl T.n_tuple boot_tuple (AR (Kh 5) Ad)) Af))))))))))) (λss n Pd hl hw=>Fg hw)
theorem sc__law_keeps:Aj ["_law_net_here","_law_times_here","_law_thin","_law_one","_law_other","_law_length_here","_law_least_here"] ["_law_net_here","_law_times_here","_law_thin"] (AG CK):=by constructor <;> first | rfl | decide +kernel
theorem J6{f:Addr}{fd:FuncData}(T:Txt K mg)(G__law_least:Got P w K mg base "_law_least" 1 ["_law_ties","_law_place"] .fr CT)(F:Fun K "_law_keeps" "_law_keeps" CK f fd):BK P w K mg base DB 2 f fd ["_law_net_here","_law_times_here","_law_thin"] (D_ K .sh Gj 3):=by
 exact Ez F sc__law_keeps (by decide) (λcdv A outer s H E hr=>(AE (C_ PassesOwn.never rfl (OZ (AU AM Ap (dv 0) AC)) (D5 rfl (Ax (AY (i:=3) sc__law_keeps.nd rfl (Or.inl rfl)) (Ax (AY (i:=4) sc__law_keeps.nd rfl (Or.inl rfl)) (Ax (AY (i:=5) sc__law_keeps.nd rfl (Or.inl rfl)) DD)))) (AE (Aq (i:=6) sc__law_keeps.nd rfl (Or.inl rfl) (Pl hr (AJ G__law_least (hr.mono (by decide)) rfl (AB (Pm (AU AM Ap (dv 2) AC)) (AB (AQ (dv 3)) AN))) (dv 4)))
 (AI (Az (DTW.dt (Bu (Ab Fk Ji (dv 6) BM (Ah _)) (Bq (Ab G2 Kv (A3 DC D7 (dv 6) (AU AM Ap (dv 1) AC)) (A3 DC D7 (dv 5) (AU AM Ap (dv 1) AC)) (Ah _))))) (AI (AV Br)) Am))))
 (AI (AV Br)))) (λss n Pd hl hw=>Ik hw)
end
section
variable {P:Program}{w:World}{K:Frag}{mg:Str->Option Value}{base:Heap}
theorem LI:Aj ["_law_script"] ["_law_script"] (AG Cg):=by constructor <;> first | rfl | decide +kernel
theorem Lj{f:Addr}{fd:FuncData}(T:Txt K mg)(F:Fun K "_law_feed" "_law_feed" Cg f fd):BK P w K mg base DB 1 f fd ["_law_script"] (K8 K):=by
 refine F.ok LI (λvs H Q E h=>?_) (λcdv A outer s H vs Q E hr h=>?_)
 ·obtain⟨a,ns,rfl,_⟩:=h
  rfl
 ·obtain⟨a,ns,rfl,⟨hl,hS⟩,q⟩:=h
  refine⟨_,Dw (Fh (OI (B7 (KW L7 rfl T.n_list boot_list (B7 (Me sl_list (pv 0) O8 (O7 A2)) DL)) (B7 A2 (B7 A2 DL))))),?_⟩
  refine⟨_,rfl,63,rfl,a,_,rfl,hS,λp hp=>⟨p,_,rfl,.inl (SqL.of Ak),λc hc=>⟨by show 3<=sizeLine; decide,λg hg=>?_⟩⟩⟩
  rw [XH hl] at hg ⊢
  have ncg:c≠g:=λz=>by rw [← z,Ak] at hg; cases hg
  exact q c g _ ncg (by rw [AT ncg,Ak]) Ak
theorem sc_law:Aj ["_law_script","_law_feed_here","_law_k","_law_net_here","_law_times_here","_law_thin","_law_stays","_law_turn","_law_paper"] ["_law_script"] (AG Fw):=by constructor <;> first | rfl | decide +kernel
theorem VQ{f ff:Addr}{fd fdf:FuncData}(T:Txt K mg)(Gf:BK P w K mg base DB 1 ff fdf ["_law_script"] (K8 K))(mf:mg "_law_feed"=some (.ref ff))(kf:keepIn K (.ref ff)=true)(bf:Binds K fdf ["_law_script"] [])
  (G__law_keeps:Got P w K mg base "_law_keeps" 2 ["_law_net_here","_law_times_here","_law_thin"] .sh Gj) (G__law_net:Got P w K mg base "_law_net" 3 ["_law_feed_here","_law_most","_law_ties"] .sh S1) (G__law_next:Got P w K mg base "_law_next" 1 ["_law_feed_here","_law_many"] .sh BF) (G__law_some_thin:Got P w K mg base "_law_some_thin" 3 ["_law_feed_here","_law_net_here","_law_times_here"] .sh Jl) (G__law_times:Got P w K mg base "_law_times" 2 ["_law_feed_here"] .sh HH) (G__law_ways_due:Got P w K mg base "_law_ways_due" 5 ["_law_net_here","_law_times_here","_law_thin","_law_paper"] .sh Nk) (G_lets_ways:Got P w K mg base "lets_ways" 6 ["net","times","thin","paper"] .sh Jm) (G_ways_paper:Got P w K mg base "ways_paper" 6 ["net","times","thin"] .sh FL) (F:Fun K "law" "law" Fw f fd):BK P w K mg base DB 7 f fd ["_law_script"] (MS K):=by
 exact W9 (n0:=9000) F sc_law rfl (by decide) (λcdv A outer s H E hr=>Eo (i:=1) sc_law.nd rfl (Or.inl rfl) (O_ Gf (hr.mono (by decide)) rfl mf kf bf .nil UV (B7 (pv 0) DL)))
  (λcdv A outer s H E hr=>(AE (C_ PassesOwn.never rfl (Cj rfl T.n_range (AR AC Ad)) (AY (i:=2) sc_law.nd rfl (Or.inl rfl)) (AE (Aq (i:=3) sc_law.nd rfl (Or.inl rfl) (AJ G__law_net (hr.mono (by decide)) rfl (AB (Bs 1) (AB (AQ AC) (AB (AQ AC) AN)))))
 (AE (Aq (i:=4) sc_law.nd rfl (Or.inl rfl) (AJ G__law_times (hr.mono (by decide)) rfl (AB (Bs 1) AN)))
 (AE (Aq (i:=5) sc_law.nd rfl (Or.inl rfl) (AJ G__law_some_thin (hr.mono (by decide)) rfl (AB (Bs 1) (AB (AQ (dv 3)) (AB (AQ (AU AM Ap (Dn (AH (dv 4) (AH (AJ G__law_times (hr.mono (by decide)) rfl (AB (Bs 1) AN)) Af))) (AJ G__law_next (hr.mono (by decide)) rfl (AB (Bs 1) (AB (AQ AC) AN))))) AN)))))
 (AE (Aq (i:=6) sc_law.nd rfl (Or.inl rfl) (An (Dc hr) HG rfl T.n_repr boot_repr (AR (A6 (AH (dv 3) (AH (dv 5) Af))) Ad)))
 (AE (C_ PassesOwn.never rfl (Cj rfl T.n_range (AR AC Ad)) (AY (i:=7) sc_law.nd rfl (Or.inl rfl)) (AE (Aq (i:=8) sc_law.nd rfl (Or.inl rfl) (AJ G_ways_paper (hr.mono (by decide)) rfl (AB (AQ (dv 3)) (AB (AQ (dv 4)) (AB (AQ (dv 5)) AN)))))
 (AI (Az (BZ (BX (AJ G__law_keeps (hr.mono (by decide)) rfl (AB (AQ (dv 3)) (AB (AQ (dv 4)) (AB (AQ (dv 5)) AN)))))) (AI (Az (Ab Hz MC (dv 8) BM (Ah _)) (AI (AV Br)) Am)) (AI (Az (DTW.dt (Bu (Ab Fk Ji (dv 8) BM (Ah _)) (Bq (Ab Hz MC (AJ G__law_ways_due (hr.mono (by decide)) rfl (AB (AQ (dv 3)) (AB (AQ (dv 4)) (AB (AQ (dv 5)) (AB (AQ (dv 8)) AN))))) BM (Ah _))))) (AI (AV Br)) (AI (Az (Ab QU XJ (AJ G_lets_ways (hr.mono (by decide)) rfl (AB (AQ (dv 3)) (AB (AQ (dv 4)) (AB (AQ (dv 5)) (AB (AQ (dv 8)) AN))))) Br (Ah _)) (AI (AV Br)) Am))))))))
 (AI (Az (DTW.dt (Bu (Ab FW KH (An (Dc hr) HG rfl T.n_repr boot_repr (AR (A6 (AH (dv 3) (AH (dv 5) Af))) Ad)) (dv 6) (Ah _)) (Bq (Ab (R8 hr) Ue (AJ G_ways_paper (hr.mono (by decide)) rfl (AB (AQ (dv 3)) (AB (AQ (dv 4)) (AB (AQ (dv 3)) AN)))) (A6 Af) (Ah _))))) (AI (AV Br)) Am))))))))
 (AI (AV Br)))) OB
end
theorem J8{β:Type}{n:Nat}(g k:List Value->β)(us:List Value)(h:us.length=n+1)(c:∀(a:Value) (r:List Value),r.length=n->g (a::r)=k (a::r)):g us=k us:=by
 cases us with
 | nil=>cases h
 | cons a r=>exact c a r (Nat.succ.inj h)
theorem PK{β:Type}{g k:List Value->β}(us:List Value)(h:us.length=0)(c:g []=k []):g us=k us:=by
 cases us with
 | nil=>exact c
 | cons a r=>cases h
theorem Ew{β:Type}{g k:List Value->β}(us:List Value)(h:us.length=1)(c:∀a0:Value,g [a0]=k [a0]):g us=k us:=J8 (λr=>g (r)) (λr=>k (r)) us h λa0 r h=>PK (g:=λr=>g (a0::r)) (k:=λr=>k (a0::r)) r h (c a0)
theorem Dh{β:Type}{g k:List Value->β}(us:List Value)(h:us.length=2)(c:∀a0 a1:Value,g [a0,a1]=k [a0,a1]):g us=k us:=J8 (λr=>g (r)) (λr=>k (r)) us h λa0 r h=>J8 (λr=>g (a0::r)) (λr=>k (a0::r)) r h λa1 r h=>PK (g:=λr=>g (a0::a1::r)) (k:=λr=>k (a0::a1::r)) r h (c a0 a1)
theorem HQ{β:Type}{g k:List Value->β}(us:List Value)(h:us.length=3)(c:∀a0 a1 a2:Value,g [a0,a1,a2]=k [a0,a1,a2]):g us=k us:=J8 (λr=>g (r)) (λr=>k (r)) us h λa0 r h=>J8 (λr=>g (a0::r)) (λr=>k (a0::r)) r h λa1 r h=>J8 (λr=>g (a0::a1::r)) (λr=>k (a0::a1::r)) r h λa2 r h=>PK (g:=λr=>g (a0::a1::a2::r)) (k:=λr=>k (a0::a1::a2::r)) r h (c a0 a1 a2)
theorem PJ{β:Type}{g k:List Value->β}(us:List Value)(h:us.length=4)(c:∀a0 a1 a2 a3:Value,g [a0,a1,a2,a3]=k [a0,a1,a2,a3]):g us=k us:=J8 (λr=>g (r)) (λr=>k (r)) us h λa0 r h=>J8 (λr=>g (a0::r)) (λr=>k (a0::r)) r h λa1 r h=>J8 (λr=>g (a0::a1::r)) (λr=>k (a0::a1::r)) r h λa2 r h=>J8 (λr=>g (a0::a1::a2::r)) (λr=>k (a0::a1::a2::r)) r h λa3 r h=>PK (g:=λr=>g (a0::a1::a2::a3::r)) (k:=λr=>k (a0::a1::a2::a3::r)) r h (c a0 a1 a2 a3)
theorem all_mk{l:PySem.W.OpenLaw}{w:World}{K:Frag}{h:Heap}{mg:Str->Option Value}{fa:Addr}(X:K.In h)(G:h.Ns mainGlobals mg)(hfa:mg "law"=some (.ref fa))
  {f0 f1 f2 f3 f4 f5 f6 f7 f8 f9 f10 f11 f12 f13 f14 f15 f16 f17 f18 f19 f20 f21 f22 f23 f24 f25 f26 f27 f28 f29 f30 f31 f32 f33 f34 f35 f36 f37 f38:Addr} {od0 an0 od1 an1 od2 an2 od3 an3 od4 an4 od5 an5 od6 an6 od7 an7 od8 an8 od9 an9 od10 an10 od11 an11 od12 an12 od13 an13 od14 an14 od15 an15 od16 an16 od17 an17 od18 an18 od19 an19 od20 an20 od21 an21 od22 an22 od23 an23 od24 an24 od25 an25 od26 an26 od27 an27 od28 an28 od29 an29 od30 an30 od31 an31 od32 an32 od33 an33 od34 an34 od35 an35 od36 an36 od37 an37 od38 an38:Option Addr} {sl0 sl1 sl2 sl3 sl4 sl5 sl6 sl7 sl8 sl9 sl10 sl11 sl12 sl13 sl14 sl15 sl16 sl17 sl18 sl19 sl20 sl21 sl22 sl23 sl24 sl25 sl26 sl27 sl28 sl29 sl30 sl31 sl32 sl33 sl34 sl35 sl36 sl37 sl38:Array (Option Value)} {oc0 kV0 dc0 pm0 cd0 ct0 oc1 kV1 dc1 pm1 cd1 ct1 oc2 kV2 dc2 pm2 cd2 ct2 oc3 kV3 dc3 pm3 cd3 ct3 oc4 kV4 dc4 pm4 cd4 ct4 oc5 kV5 dc5 pm5 cd5 ct5 oc6 kV6 dc6 pm6 cd6 ct6 oc7 kV7 dc7 pm7 cd7 ct7 oc8 kV8 dc8 pm8 cd8 ct8 oc9 kV9 dc9 pm9 cd9 ct9 oc10 kV10 dc10 pm10 cd10 ct10 oc11 kV11 dc11 pm11 cd11 ct11 oc12 kV12 dc12 pm12 cd12 ct12 oc13 kV13 dc13 pm13 cd13 ct13 oc14 kV14 dc14 pm14 cd14 ct14 oc15 kV15 dc15 pm15 cd15 ct15 oc16 kV16 dc16 pm16 cd16 ct16 oc17 kV17 dc17 pm17 cd17 ct17 oc18 kV18 dc18 pm18 cd18 ct18 oc19 kV19 dc19 pm19 cd19 ct19 oc20 kV20 dc20 pm20 cd20 ct20 oc21 kV21 dc21 pm21 cd21 ct21 oc22 kV22 dc22 pm22 cd22 ct22 oc23 kV23 dc23 pm23 cd23 ct23 oc24 kV24 dc24 pm24 cd24 ct24 oc25 kV25 dc25 pm25 cd25 ct25 oc26 kV26 dc26 pm26 cd26 ct26 oc27 kV27 dc27 pm27 cd27 ct27 oc28 kV28 dc28 pm28 cd28 ct28 oc29 kV29 dc29 pm29 cd29 ct29 oc30 kV30 dc30 pm30 cd30 ct30 oc31 kV31 dc31 pm31 cd31 ct31 oc32 kV32 dc32 pm32 cd32 ct32 oc33 kV33 dc33 pm33 cd33 ct33 oc34 kV34 dc34 pm34 cd34 ct34 oc35 kV35 dc35 pm35 cd35 ct35 oc36 kV36 dc36 pm36 cd36 ct36 oc37 kV37 dc37 pm37 cd37 ct37 oc38 kV38 dc38 pm38 cd38 ct38:Value}
  (a0:nsIn K mainGlobals "is_whole"=some (some (.ref f0))) (l0:K.lookup f0=some ⟨oc0,od0,.func (fnOf "is_whole" "is_whole" (Ai C0) (Ag C0) (AG C0) .none kV0 dc0 pm0 an0 cd0 ct0),sl0⟩) (c0:codeIn K cd0 "is_whole"=true) (k0:keepIn K (.ref f0)=true)
  (a1:nsIn K mainGlobals "is_tuple_of"=some (some (.ref f1))) (l1:K.lookup f1=some ⟨oc1,od1,.func (fnOf "is_tuple_of" "is_tuple_of" (Ai Bx) (Ag Bx) (AG Bx) .none kV1 dc1 pm1 an1 cd1 ct1),sl1⟩) (c1:codeIn K cd1 "is_tuple_of"=true) (k1:keepIn K (.ref f1)=true)
  (a2:nsIn K mainGlobals "is_rising"=some (some (.ref f2))) (l2:K.lookup f2=some ⟨oc2,od2,.func (fnOf "is_rising" "is_rising" (Ai Ce) (Ag Ce) (AG Ce) .none kV2 dc2 pm2 an2 cd2 ct2),sl2⟩) (c2:codeIn K cd2 "is_rising"=true) (k2:keepIn K (.ref f2)=true)
  (a3:nsIn K mainGlobals "rank_of"=some (some (.ref f3))) (l3:K.lookup f3=some ⟨oc3,od3,.func (fnOf "rank_of" "rank_of" (Ai DV) (Ag DV) (AG DV) .none kV3 dc3 pm3 an3 cd3 ct3),sl3⟩) (c3:codeIn K cd3 "rank_of"=true) (k3:keepIn K (.ref f3)=true)
  (a4:nsIn K mainGlobals "order_of"=some (some (.ref f4))) (l4:K.lookup f4=some ⟨oc4,od4,.func (fnOf "order_of" "order_of" (Ai Cw) (Ag Cw) (AG Cw) .none kV4 dc4 pm4 an4 cd4 ct4),sl4⟩) (c4:codeIn K cd4 "order_of"=true) (k4:keepIn K (.ref f4)=true)
  (a5:nsIn K mainGlobals "steps_of"=some (some (.ref f5))) (l5:K.lookup f5=some ⟨oc5,od5,.func (fnOf "steps_of" "steps_of" (Ai Cv) (Ag Cv) (AG Cv) .none kV5 dc5 pm5 an5 cd5 ct5),sl5⟩) (c5:codeIn K cd5 "steps_of"=true) (k5:keepIn K (.ref f5)=true)
  (a6:nsIn K mainGlobals "is_tie_of"=some (some (.ref f6))) (l6:K.lookup f6=some ⟨oc6,od6,.func (fnOf "is_tie_of" "is_tie_of" (Ai Cd) (Ag Cd) (AG Cd) .none kV6 dc6 pm6 an6 cd6 ct6),sl6⟩) (c6:codeIn K cd6 "is_tie_of"=true) (k6:keepIn K (.ref f6)=true)
  (a7:nsIn K mainGlobals "is_thin"=some (some (.ref f7))) (l7:K.lookup f7=some ⟨oc7,od7,.func (fnOf "is_thin" "is_thin" (Ai DX) (Ag DX) (AG DX) .none kV7 dc7 pm7 an7 cd7 ct7),sl7⟩) (c7:codeIn K cd7 "is_thin"=true) (k7:keepIn K (.ref f7)=true)
  (a8:nsIn K mainGlobals "left_out"=some (some (.ref f8))) (l8:K.lookup f8=some ⟨oc8,od8,.func (fnOf "left_out" "left_out" (Ai Cz) (Ag Cz) (AG Cz) .none kV8 dc8 pm8 an8 cd8 ct8),sl8⟩) (c8:codeIn K cd8 "left_out"=true) (k8:keepIn K (.ref f8)=true)
  (a9:nsIn K mainGlobals "length_of"=some (some (.ref f9))) (l9:K.lookup f9=some ⟨oc9,od9,.func (fnOf "length_of" "length_of" (Ai Cb) (Ag Cb) (AG Cb) .none kV9 dc9 pm9 an9 cd9 ct9),sl9⟩) (c9:codeIn K cd9 "length_of"=true) (k9:keepIn K (.ref f9)=true)
  (a10:nsIn K mainGlobals "length_between"=some (some (.ref f10))) (l10:K.lookup f10=some ⟨oc10,od10,.func (fnOf "length_between" "length_between" (Ai BR) (Ag BR) (AG BR) .none kV10 dc10 pm10 an10 cd10 ct10),sl10⟩) (c10:codeIn K cd10 "length_between"=true) (k10:keepIn K (.ref f10)=true)
  (a11:nsIn K mainGlobals "nearest_of"=some (some (.ref f11))) (l11:K.lookup f11=some ⟨oc11,od11,.func (fnOf "nearest_of" "nearest_of" (Ai CF) (Ag CF) (AG CF) .none kV11 dc11 pm11 an11 cd11 ct11),sl11⟩) (c11:codeIn K cd11 "nearest_of"=true) (k11:keepIn K (.ref f11)=true)
  (a12:nsIn K mainGlobals "least_ways"=some (some (.ref f12))) (l12:K.lookup f12=some ⟨oc12,od12,.func (fnOf "least_ways" "least_ways" (Ai CG) (Ag CG) (AG CG) .none kV12 dc12 pm12 an12 cd12 ct12),sl12⟩) (c12:codeIn K cd12 "least_ways"=true) (k12:keepIn K (.ref f12)=true)
  (a13:nsIn K mainGlobals "way_of"=some (some (.ref f13))) (l13:K.lookup f13=some ⟨oc13,od13,.func (fnOf "way_of" "way_of" (Ai EC) (Ag EC) (AG EC) .none kV13 dc13 pm13 an13 cd13 ct13),sl13⟩) (c13:codeIn K cd13 "way_of"=true) (k13:keepIn K (.ref f13)=true)
  (a14:nsIn K mainGlobals "is_within"=some (some (.ref f14))) (l14:K.lookup f14=some ⟨oc14,od14,.func (fnOf "is_within" "is_within" (Ai Cc) (Ag Cc) (AG Cc) .none kV14 dc14 pm14 an14 cd14 ct14),sl14⟩) (c14:codeIn K cd14 "is_within"=true) (k14:keepIn K (.ref f14)=true)
  (a15:nsIn K mainGlobals "near_way"=some (some (.ref f15))) (l15:K.lookup f15=some ⟨oc15,od15,.func (fnOf "near_way" "near_way" (Ai Cy) (Ag Cy) (AG Cy) .none kV15 dc15 pm15 an15 cd15 ct15),sl15⟩) (c15:codeIn K cd15 "near_way"=true) (k15:keepIn K (.ref f15)=true)
  (a16:nsIn K mainGlobals "ways_paper"=some (some (.ref f16))) (l16:K.lookup f16=some ⟨oc16,od16,.func (fnOf "ways_paper" "ways_paper" (Ai CD) (Ag CD) (AG CD) .none kV16 dc16 pm16 an16 cd16 ct16),sl16⟩) (c16:codeIn K cd16 "ways_paper"=true) (k16:keepIn K (.ref f16)=true)
  (a17:nsIn K mainGlobals "way_fault"=some (some (.ref f17))) (l17:K.lookup f17=some ⟨oc17,od17,.func (fnOf "way_fault" "way_fault" (Ai CY) (Ag CY) (AG CY) .none kV17 dc17 pm17 an17 cd17 ct17),sl17⟩) (c17:codeIn K cd17 "way_fault"=true) (k17:keepIn K (.ref f17)=true)
  (a18:nsIn K mainGlobals "lets_ways"=some (some (.ref f18))) (l18:K.lookup f18=some ⟨oc18,od18,.func (fnOf "lets_ways" "lets_ways" (Ai CZ) (Ag CZ) (AG CZ) .none kV18 dc18 pm18 an18 cd18 ct18),sl18⟩) (c18:codeIn K cd18 "lets_ways"=true) (k18:keepIn K (.ref f18)=true)
  (a19:nsIn K mainGlobals "_law_feed"=some (some (.ref f19))) (l19:K.lookup f19=some ⟨oc19,od19,.func (fnOf "_law_feed" "_law_feed" (Ai Cg) (Ag Cg) (AG Cg) .none kV19 dc19 pm19 an19 cd19 ct19),sl19⟩) (c19:codeIn K cd19 "_law_feed"=true) (k19:keepIn K (.ref f19)=true)
  (a20:nsIn K mainGlobals "_law_next"=some (some (.ref f20))) (l20:K.lookup f20=some ⟨oc20,od20,.func (fnOf "_law_next" "_law_next" (Ai B9) (Ag B9) (AG B9) .none kV20 dc20 pm20 an20 cd20 ct20),sl20⟩) (c20:codeIn K cd20 "_law_next"=true) (k20:keepIn K (.ref f20)=true)
  (a21:nsIn K mainGlobals "_law_whole"=some (some (.ref f21))) (l21:K.lookup f21=some ⟨oc21,od21,.func (fnOf "_law_whole" "_law_whole" (Ai CH) (Ag CH) (AG CH) .none kV21 dc21 pm21 an21 cd21 ct21),sl21⟩) (c21:codeIn K cd21 "_law_whole"=true) (k21:keepIn K (.ref f21)=true)
  (a22:nsIn K mainGlobals "_law_places"=some (some (.ref f22))) (l22:K.lookup f22=some ⟨oc22,od22,.func (fnOf "_law_places" "_law_places" (Ai Bz) (Ag Bz) (AG Bz) .none kV22 dc22 pm22 an22 cd22 ct22),sl22⟩) (c22:codeIn K cd22 "_law_places"=true) (k22:keepIn K (.ref f22)=true)
  (a23:nsIn K mainGlobals "_law_length"=some (some (.ref f23))) (l23:K.lookup f23=some ⟨oc23,od23,.func (fnOf "_law_length" "_law_length" (Ai B0) (Ag B0) (AG B0) .none kV23 dc23 pm23 an23 cd23 ct23),sl23⟩) (c23:codeIn K cd23 "_law_length"=true) (k23:keepIn K (.ref f23)=true)
  (a24:nsIn K mainGlobals "_law_net"=some (some (.ref f24))) (l24:K.lookup f24=some ⟨oc24,od24,.func (fnOf "_law_net" "_law_net" (Ai C1) (Ag C1) (AG C1) .none kV24 dc24 pm24 an24 cd24 ct24),sl24⟩) (c24:codeIn K cd24 "_law_net"=true) (k24:keepIn K (.ref f24)=true)
  (a25:nsIn K mainGlobals "_law_times"=some (some (.ref f25))) (l25:K.lookup f25=some ⟨oc25,od25,.func (fnOf "_law_times" "_law_times" (Ai CI) (Ag CI) (AG CI) .none kV25 dc25 pm25 an25 cd25 ct25),sl25⟩) (c25:codeIn K cd25 "_law_times"=true) (k25:keepIn K (.ref f25)=true)
  (a26:nsIn K mainGlobals "_law_in_order"=some (some (.ref f26))) (l26:K.lookup f26=some ⟨oc26,od26,.func (fnOf "_law_in_order" "_law_in_order" (Ai Bc) (Ag Bc) (AG Bc) .none kV26 dc26 pm26 an26 cd26 ct26),sl26⟩) (c26:codeIn K cd26 "_law_in_order"=true) (k26:keepIn K (.ref f26)=true)
  (a27:nsIn K mainGlobals "_law_least"=some (some (.ref f27))) (l27:K.lookup f27=some ⟨oc27,od27,.func (fnOf "_law_least" "_law_least" (Ai CJ) (Ag CJ) (AG CJ) .none kV27 dc27 pm27 an27 cd27 ct27),sl27⟩) (c27:codeIn K cd27 "_law_least"=true) (k27:keepIn K (.ref f27)=true)
  (a28:nsIn K mainGlobals "_law_thinned"=some (some (.ref f28))) (l28:K.lookup f28=some ⟨oc28,od28,.func (fnOf "_law_thinned" "_law_thinned" (Ai Bn) (Ag Bn) (AG Bn) .none kV28 dc28 pm28 an28 cd28 ct28),sl28⟩) (c28:codeIn K cd28 "_law_thinned"=true) (k28:keepIn K (.ref f28)=true)
  (a29:nsIn K mainGlobals "_law_is_name"=some (some (.ref f29))) (l29:K.lookup f29=some ⟨oc29,od29,.func (fnOf "_law_is_name" "_law_is_name" (Ai Bp) (Ag Bp) (AG Bp) .none kV29 dc29 pm29 an29 cd29 ct29),sl29⟩) (c29:codeIn K cd29 "_law_is_name"=true) (k29:keepIn K (.ref f29)=true)
  (a30:nsIn K mainGlobals "_law_is_tie"=some (some (.ref f30))) (l30:K.lookup f30=some ⟨oc30,od30,.func (fnOf "_law_is_tie" "_law_is_tie" (Ai B3) (Ag B3) (AG B3) .none kV30 dc30 pm30 an30 cd30 ct30),sl30⟩) (c30:codeIn K cd30 "_law_is_tie"=true) (k30:keepIn K (.ref f30)=true)
  (a31:nsIn K mainGlobals "_law_rise"=some (some (.ref f31))) (l31:K.lookup f31=some ⟨oc31,od31,.func (fnOf "_law_rise" "_law_rise" (Ai Cf) (Ag Cf) (AG Cf) .none kV31 dc31 pm31 an31 cd31 ct31),sl31⟩) (c31:codeIn K cd31 "_law_rise"=true) (k31:keepIn K (.ref f31)=true)
  (a32:nsIn K mainGlobals "_law_is_net"=some (some (.ref f32))) (l32:K.lookup f32=some ⟨oc32,od32,.func (fnOf "_law_is_net" "_law_is_net" (Ai B4) (Ag B4) (AG B4) .none kV32 dc32 pm32 an32 cd32 ct32),sl32⟩) (c32:codeIn K cd32 "_law_is_net"=true) (k32:keepIn K (.ref f32)=true)
  (a33:nsIn K mainGlobals "_law_is_thin"=some (some (.ref f33))) (l33:K.lookup f33=some ⟨oc33,od33,.func (fnOf "_law_is_thin" "_law_is_thin" (Ai Bo) (Ag Bo) (AG Bo) .none kV33 dc33 pm33 an33 cd33 ct33),sl33⟩) (c33:codeIn K cd33 "_law_is_thin"=true) (k33:keepIn K (.ref f33)=true)
  (a34:nsIn K mainGlobals "_law_walked"=some (some (.ref f34))) (l34:K.lookup f34=some ⟨oc34,od34,.func (fnOf "_law_walked" "_law_walked" (Ai By) (Ag By) (AG By) .none kV34 dc34 pm34 an34 cd34 ct34),sl34⟩) (c34:codeIn K cd34 "_law_walked"=true) (k34:keepIn K (.ref f34)=true)
  (a35:nsIn K mainGlobals "_law_ways_due"=some (some (.ref f35))) (l35:K.lookup f35=some ⟨oc35,od35,.func (fnOf "_law_ways_due" "_law_ways_due" (Ai Bb) (Ag Bb) (AG Bb) .none kV35 dc35 pm35 an35 cd35 ct35),sl35⟩) (c35:codeIn K cd35 "_law_ways_due"=true) (k35:keepIn K (.ref f35)=true)
  (a36:nsIn K mainGlobals "_law_some_thin"=some (some (.ref f36))) (l36:K.lookup f36=some ⟨oc36,od36,.func (fnOf "_law_some_thin" "_law_some_thin" (Ai BS) (Ag BS) (AG BS) .none kV36 dc36 pm36 an36 cd36 ct36),sl36⟩) (c36:codeIn K cd36 "_law_some_thin"=true) (k36:keepIn K (.ref f36)=true)
  (a37:nsIn K mainGlobals "_law_keeps"=some (some (.ref f37))) (l37:K.lookup f37=some ⟨oc37,od37,.func (fnOf "_law_keeps" "_law_keeps" (Ai CK) (Ag CK) (AG CK) .none kV37 dc37 pm37 an37 cd37 ct37),sl37⟩) (c37:codeIn K cd37 "_law_keeps"=true) (k37:keepIn K (.ref f37)=true)
  (a38:nsIn K mainGlobals "law"=some (some (.ref f38))) (l38:K.lookup f38=some ⟨oc38,od38,.func (fnOf "law" "law" (Ai Fw) (Ag Fw) (AG Fw) .none kV38 dc38 pm38 an38 cd38 ct38),sl38⟩) (c38:codeIn K cd38 "law"=true) (k38:keepIn K (.ref f38)=true)
  (z_all:nsIn K mainGlobals "all"=some none)
  (z_bool:nsIn K mainGlobals "bool"=some none)
  (z_enumerate:nsIn K mainGlobals "enumerate"=some none)
  (z_int:nsIn K mainGlobals "int"=some none)
  (z_isinstance:nsIn K mainGlobals "isinstance"=some none)
  (z_len:nsIn K mainGlobals "len"=some none)
  (z_list:nsIn K mainGlobals "list"=some none)
  (z_min:nsIn K mainGlobals "min"=some none)
  (z_range:nsIn K mainGlobals "range"=some none)
  (z_repr:nsIn K mainGlobals "repr"=some none)
  (z_reversed:nsIn K mainGlobals "reversed"=some none)
  (z_sorted:nsIn K mainGlobals "sorted"=some none)
  (z_str:nsIn K mainGlobals "str"=some none)
  (z_tuple:nsIn K mainGlobals "tuple"=some none)
  (z_zip:nsIn K mainGlobals "zip"=some none)
  : ∃fd:FuncData,(∀(s:Shared) (v:Value),BindsTo s fd ⟨[v],[]⟩ [("_law_script",v)])/\∀base:Heap,K.In base->base.Ns mainGlobals mg->BK l.prog w K mg base DB 7 fa fd ["_law_script"] (MS K):=by
 have e:=hfa.symm.trans (mg_of X G a38)
 cases e
 have T:Txt K mg:=⟨mg_none_of X G z_all,mg_none_of X G z_bool,mg_none_of X G z_enumerate,mg_none_of X G z_int,mg_none_of X G z_isinstance,mg_none_of X G z_len,mg_none_of X G z_list,mg_none_of X G z_min,mg_none_of X G z_range,mg_none_of X G z_repr,mg_none_of X G z_reversed,mg_none_of X G z_sorted,mg_none_of X G z_str,mg_none_of X G z_tuple,mg_none_of X G z_zip⟩
 have F0:=Av (st:=C0) l0 c0 k0
 have b0:=F0.binds (ps:=["thing"]) λ_ _ _ _ _ _ us hl=>by revert hl; revert us; exact λus hl=>Ew (g:=λus=>bindArgs _ ⟨us,[]⟩) (k:=λus=>pure (List.zip _ us)) us hl λ_=>rfl
 have F1:=Av (st:=Bx) l1 c1 k1
 have b1:=F1.binds (ps:=["count","thing"]) λ_ _ _ _ _ _ us hl=>by revert hl; revert us; exact λus hl=>Dh (g:=λus=>bindArgs _ ⟨us,[]⟩) (k:=λus=>pure (List.zip _ us)) us hl λ_ _=>rfl
 have F2:=Av (st:=Ce) l2 c2 k2
 have b2:=F2.binds (ps:=["things"]) λ_ _ _ _ _ _ us hl=>by revert hl; revert us; exact λus hl=>Ew (g:=λus=>bindArgs _ ⟨us,[]⟩) (k:=λus=>pure (List.zip _ us)) us hl λ_=>rfl
 have F3:=Av (st:=DV) l3 c3 k3
 have b3:=F3.binds (ps:=["tie"]) λ_ _ _ _ _ _ us hl=>by revert hl; revert us; exact λus hl=>Ew (g:=λus=>bindArgs _ ⟨us,[]⟩) (k:=λus=>pure (List.zip _ us)) us hl λ_=>rfl
 have F4:=Av (st:=Cw) l4 c4 k4
 have b4:=F4.binds (ps:=["ties"]) λ_ _ _ _ _ _ us hl=>by revert hl; revert us; exact λus hl=>Ew (g:=λus=>bindArgs _ ⟨us,[]⟩) (k:=λus=>pure (List.zip _ us)) us hl λ_=>rfl
 have F5:=Av (st:=Cv) l5 c5 k5
 have b5:=F5.binds (ps:=["net"]) λ_ _ _ _ _ _ us hl=>by revert hl; revert us; exact λus hl=>Ew (g:=λus=>bindArgs _ ⟨us,[]⟩) (k:=λus=>pure (List.zip _ us)) us hl λ_=>rfl
 have F6:=Av (st:=Cd) l6 c6 k6
 have b6:=F6.binds (ps:=["net","thing"]) λ_ _ _ _ _ _ us hl=>by revert hl; revert us; exact λus hl=>Dh (g:=λus=>bindArgs _ ⟨us,[]⟩) (k:=λus=>pure (List.zip _ us)) us hl λ_ _=>rfl
 have F7:=Av (st:=DX) l7 c7 k7
 have b7:=F7.binds (ps:=["net","thing"]) λ_ _ _ _ _ _ us hl=>by revert hl; revert us; exact λus hl=>Dh (g:=λus=>bindArgs _ ⟨us,[]⟩) (k:=λus=>pure (List.zip _ us)) us hl λ_ _=>rfl
 have F8:=Av (st:=Cz) l8 c8 k8
 have b8:=F8.binds (ps:=["net","thin"]) λ_ _ _ _ _ _ us hl=>by revert hl; revert us; exact λus hl=>Dh (g:=λus=>bindArgs _ ⟨us,[]⟩) (k:=λus=>pure (List.zip _ us)) us hl λ_ _=>rfl
 have F9:=Av (st:=Cb) l9 c9 k9
 have b9:=F9.binds (ps:=["net","thing"]) λ_ _ _ _ _ _ us hl=>by revert hl; revert us; exact λus hl=>Dh (g:=λus=>bindArgs _ ⟨us,[]⟩) (k:=λus=>pure (List.zip _ us)) us hl λ_ _=>rfl
 have F10:=Av (st:=BR) l10 c10 k10
 have b10:=F10.binds (ps:=["net","a","b","thing"]) λ_ _ _ _ _ _ us hl=>by revert hl; revert us; exact λus hl=>PJ (g:=λus=>bindArgs _ ⟨us,[]⟩) (k:=λus=>pure (List.zip _ us)) us hl λ_ _ _ _=>rfl
 have F11:=Av (st:=CF) l11 c11 k11
 have b11:=F11.binds (ps:=["waiting","found"]) λ_ _ _ _ _ _ us hl=>by revert hl; revert us; exact λus hl=>Dh (g:=λus=>bindArgs _ ⟨us,[]⟩) (k:=λus=>pure (List.zip _ us)) us hl λ_ _=>rfl
 have F12:=Av (st:=CG) l12 c12 k12
 have b12:=F12.binds (ps:=["net","start"]) λ_ _ _ _ _ _ us hl=>by revert hl; revert us; exact λus hl=>Dh (g:=λus=>bindArgs _ ⟨us,[]⟩) (k:=λus=>pure (List.zip _ us)) us hl λ_ _=>rfl
 have F13:=Av (st:=EC) l13 c13 k13
 have b13:=F13.binds (ps:=["net","a","b"]) λ_ _ _ _ _ _ us hl=>by revert hl; revert us; exact λus hl=>HQ (g:=λus=>bindArgs _ ⟨us,[]⟩) (k:=λus=>pure (List.zip _ us)) us hl λ_ _ _=>rfl
 have F14:=Av (st:=Cc) l14 c14 k14
 have b14:=F14.binds (ps:=["length","times","number"]) λ_ _ _ _ _ _ us hl=>by revert hl; revert us; exact λus hl=>HQ (g:=λus=>bindArgs _ ⟨us,[]⟩) (k:=λus=>pure (List.zip _ us)) us hl λ_ _ _=>rfl
 have F15:=Av (st:=Cy) l15 c15 k15
 have b15:=F15.binds (ps:=["net","times","tie"]) λ_ _ _ _ _ _ us hl=>by revert hl; revert us; exact λus hl=>HQ (g:=λus=>bindArgs _ ⟨us,[]⟩) (k:=λus=>pure (List.zip _ us)) us hl λ_ _ _=>rfl
 have F16:=Av (st:=CD) l16 c16 k16
 have b16:=F16.binds (ps:=["net","times","thin"]) λ_ _ _ _ _ _ us hl=>by revert hl; revert us; exact λus hl=>HQ (g:=λus=>bindArgs _ ⟨us,[]⟩) (k:=λus=>pure (List.zip _ us)) us hl λ_ _ _=>rfl
 have F17:=Av (st:=CY) l17 c17 k17
 have b17:=F17.binds (ps:=["net","times","tie","thing"]) λ_ _ _ _ _ _ us hl=>by revert hl; revert us; exact λus hl=>PJ (g:=λus=>bindArgs _ ⟨us,[]⟩) (k:=λus=>pure (List.zip _ us)) us hl λ_ _ _ _=>rfl
 have F18:=Av (st:=CZ) l18 c18 k18
 have b18:=F18.binds (ps:=["net","times","thin","paper"]) λ_ _ _ _ _ _ us hl=>by revert hl; revert us; exact λus hl=>PJ (g:=λus=>bindArgs _ ⟨us,[]⟩) (k:=λus=>pure (List.zip _ us)) us hl λ_ _ _ _=>rfl
 have F19:=Av (st:=Cg) l19 c19 k19
 have b19:=F19.binds (ps:=["_law_script"]) λ_ _ _ _ _ _ us hl=>by revert hl; revert us; exact λus hl=>Ew (g:=λus=>bindArgs _ ⟨us,[]⟩) (k:=λus=>pure (List.zip _ us)) us hl λ_=>rfl
 have F20:=Av (st:=B9) l20 c20 k20
 have b20:=F20.binds (ps:=["_law_feed_here","_law_many"]) λ_ _ _ _ _ _ us hl=>by revert hl; revert us; exact λus hl=>Dh (g:=λus=>bindArgs _ ⟨us,[]⟩) (k:=λus=>pure (List.zip _ us)) us hl λ_ _=>rfl
 have F21:=Av (st:=CH) l21 c21 k21
 have b21:=F21.binds (ps:=["_law_thing","_law_least_here","_law_most"]) λ_ _ _ _ _ _ us hl=>by revert hl; revert us; exact λus hl=>HQ (g:=λus=>bindArgs _ ⟨us,[]⟩) (k:=λus=>pure (List.zip _ us)) us hl λ_ _ _=>rfl
 have F22:=Av (st:=Bz) l22 c22 k22
 have b22:=F22.binds (ps:=["_law_feed_here","_law_many"]) λ_ _ _ _ _ _ us hl=>by revert hl; revert us; exact λus hl=>Dh (g:=λus=>bindArgs _ ⟨us,[]⟩) (k:=λus=>pure (List.zip _ us)) us hl λ_ _=>rfl
 have F23:=Av (st:=B0) l23 c23 k23
 have b23:=F23.binds (ps:=["_law_feed_here","_law_scale"]) λ_ _ _ _ _ _ us hl=>by revert hl; revert us; exact λus hl=>Dh (g:=λus=>bindArgs _ ⟨us,[]⟩) (k:=λus=>pure (List.zip _ us)) us hl λ_ _=>rfl
 have F24:=Av (st:=C1) l24 c24 k24
 have b24:=F24.binds (ps:=["_law_feed_here","_law_most","_law_ties"]) λ_ _ _ _ _ _ us hl=>by revert hl; revert us; exact λus hl=>HQ (g:=λus=>bindArgs _ ⟨us,[]⟩) (k:=λus=>pure (List.zip _ us)) us hl λ_ _ _=>rfl
 have F25:=Av (st:=CI) l25 c25 k25
 have b25:=F25.binds (ps:=["_law_feed_here"]) λ_ _ _ _ _ _ us hl=>by revert hl; revert us; exact λus hl=>Ew (g:=λus=>bindArgs _ ⟨us,[]⟩) (k:=λus=>pure (List.zip _ us)) us hl λ_=>rfl
 have F26:=Av (st:=Bc) l26 c26 k26
 have b26:=F26.binds (ps:=["_law_ties"]) λ_ _ _ _ _ _ us hl=>by revert hl; revert us; exact λus hl=>Ew (g:=λus=>bindArgs _ ⟨us,[]⟩) (k:=λus=>pure (List.zip _ us)) us hl λ_=>rfl
 have F27:=Av (st:=CJ) l27 c27 k27
 have b27:=F27.binds (ps:=["_law_ties","_law_place"]) λ_ _ _ _ _ _ us hl=>by revert hl; revert us; exact λus hl=>Dh (g:=λus=>bindArgs _ ⟨us,[]⟩) (k:=λus=>pure (List.zip _ us)) us hl λ_ _=>rfl
 have F28:=Av (st:=Bn) l28 c28 k28
 have b28:=F28.binds (ps:=["_law_net_here","_law_times_here"]) λ_ _ _ _ _ _ us hl=>by revert hl; revert us; exact λus hl=>Dh (g:=λus=>bindArgs _ ⟨us,[]⟩) (k:=λus=>pure (List.zip _ us)) us hl λ_ _=>rfl
 have F29:=Av (st:=Bp) l29 c29 k29
 have b29:=F29.binds (ps:=["_law_thing"]) λ_ _ _ _ _ _ us hl=>by revert hl; revert us; exact λus hl=>Ew (g:=λus=>bindArgs _ ⟨us,[]⟩) (k:=λus=>pure (List.zip _ us)) us hl λ_=>rfl
 have F30:=Av (st:=B3) l30 c30 k30
 have b30:=F30.binds (ps:=["_law_places_here","_law_thing"]) λ_ _ _ _ _ _ us hl=>by revert hl; revert us; exact λus hl=>Dh (g:=λus=>bindArgs _ ⟨us,[]⟩) (k:=λus=>pure (List.zip _ us)) us hl λ_ _=>rfl
 have F31:=Av (st:=Cf) l31 c31 k31
 have b31:=F31.binds (ps:=["_law_things"]) λ_ _ _ _ _ _ us hl=>by revert hl; revert us; exact λus hl=>Ew (g:=λus=>bindArgs _ ⟨us,[]⟩) (k:=λus=>pure (List.zip _ us)) us hl λ_=>rfl
 have F32:=Av (st:=B4) l32 c32 k32
 have b32:=F32.binds (ps:=["_law_thing"]) λ_ _ _ _ _ _ us hl=>by revert hl; revert us; exact λus hl=>Ew (g:=λus=>bindArgs _ ⟨us,[]⟩) (k:=λus=>pure (List.zip _ us)) us hl λ_=>rfl
 have F33:=Av (st:=Bo) l33 c33 k33
 have b33:=F33.binds (ps:=["_law_net_here","_law_thing"]) λ_ _ _ _ _ _ us hl=>by revert hl; revert us; exact λus hl=>Dh (g:=λus=>bindArgs _ ⟨us,[]⟩) (k:=λus=>pure (List.zip _ us)) us hl λ_ _=>rfl
 have F34:=Av (st:=By) l34 c34 k34
 have b34:=F34.binds (ps:=["_law_net_here","_law_way"]) λ_ _ _ _ _ _ us hl=>by revert hl; revert us; exact λus hl=>Dh (g:=λus=>bindArgs _ ⟨us,[]⟩) (k:=λus=>pure (List.zip _ us)) us hl λ_ _=>rfl
 have F35:=Av (st:=Bb) l35 c35 k35
 have b35:=F35.binds (ps:=["_law_net_here","_law_times_here","_law_thin","_law_paper"]) λ_ _ _ _ _ _ us hl=>by revert hl; revert us; exact λus hl=>PJ (g:=λus=>bindArgs _ ⟨us,[]⟩) (k:=λus=>pure (List.zip _ us)) us hl λ_ _ _ _=>rfl
 have F36:=Av (st:=BS) l36 c36 k36
 have b36:=F36.binds (ps:=["_law_feed_here","_law_net_here","_law_times_here"]) λ_ _ _ _ _ _ us hl=>by revert hl; revert us; exact λus hl=>HQ (g:=λus=>bindArgs _ ⟨us,[]⟩) (k:=λus=>pure (List.zip _ us)) us hl λ_ _ _=>rfl
 have F37:=Av (st:=CK) l37 c37 k37
 have b37:=F37.binds (ps:=["_law_net_here","_law_times_here","_law_thin"]) λ_ _ _ _ _ _ us hl=>by revert hl; revert us; exact λus hl=>HQ (g:=λus=>bindArgs _ ⟨us,[]⟩) (k:=λus=>pure (List.zip _ us)) us hl λ_ _ _=>rfl
 have F38:=Av (st:=Fw) l38 c38 k38
 refine⟨fnOf "law" "law" (Ai Fw) (Ag Fw) (AG Fw) .none kV38 dc38 pm38 an38 cd38 ct38,λs v=>.of_eq rfl,λbase _ _=>?_⟩
 have G_is_whole:Got l.prog w K mg base "is_whole" 1 ["thing"] .sh Jk:=Aw F0 (mg_of X G a0) b0 (λ_ _ _ h=>G1 h) (Mo T  F0)
 have G_is_tuple_of:Got l.prog w K mg base "is_tuple_of" 1 ["count","thing"] .sh Ds:=Aw F1 (mg_of X G a1) b1 (λ_ _ _ h=>by obtain⟨_,_,e,_⟩:=h; rw [e]; rfl) (Ir T  F1)
 have G_is_rising:Got l.prog w K mg base "is_rising" 1 ["things"] .sh Cs:=Aw F2 (mg_of X G a2) b2 (λ_ _ _ h=>by obtain⟨_,_,e,_⟩:=h; rw [e]; rfl) (Lh T  F2)
 have G_rank_of:Got l.prog w K mg base "rank_of" 1 ["tie"] .sh Nl:=Aw F3 (mg_of X G a3) b3 (λ_ _ _ h=>by obtain⟨_,_,_,e,_⟩:=h; rw [e]; rfl) (OK T  F3)
 have G_order_of:Got l.prog w K mg base "order_of" 4 ["ties"] .fr DM:=Aw F4 (mg_of X G a4) b4 (λ_ _ _ h=>by obtain⟨_,_,e,_⟩:=h; rw [e]; rfl) (Ml T G_rank_of F4)
 have G_steps_of:Got l.prog w K mg base "steps_of" 1 ["net"] .sh HI:=Aw F5 (mg_of X G a5) b5 (λ_ _ _ h=>by obtain⟨_,e,_⟩:=h; rw [e]; rfl) (Mj F5)
 have G_is_tie_of:Got l.prog w K mg base "is_tie_of" 2 ["net","thing"] .sh S0:=Aw F6 (mg_of X G a6) b6 (λ_ _ _ h=>by obtain⟨_,_,e,_⟩:=h; rw [e]; rfl) (Lg T G_is_whole F6)
 have G_is_thin:Got l.prog w K mg base "is_thin" 3 ["net","thing"] .sh Fd:=Aw F7 (mg_of X G a7) b7 (λ_ _ _ h=>by obtain⟨_,_,e,_⟩:=h; rw [e]; rfl) (OL T G_is_rising G_is_tie_of G_is_tuple_of F7)
 have G_left_out:Got l.prog w K mg base "left_out" 5 ["net","thin"] .fr Hf:=Aw F8 (mg_of X G a8) b8 (λ_ _ _ h=>by obtain⟨_,_,e,_⟩:=h; rw [e]; rfl) (Mn T G_order_of F8)
 have G_length_of:Got l.prog w K mg base "length_of" 2 ["net","thing"] .sh Hs:=Aw F9 (mg_of X G a9) b9 (λ_ _ _ h=>by obtain⟨_,_,e,_⟩:=h; rw [e]; rfl) (Le T G_steps_of F9)
 have G_length_between:Got l.prog w K mg base "length_between" 3 ["net","a","b","thing"] .sh Nq:=Aw F10 (mg_of X G a10) b10 (λ_ _ _ h=>by obtain⟨_,_,_,_,_,e,_⟩:=h; rw [e]; rfl) (GC T G_length_of F10)
 have G_nearest_of:Got l.prog w K mg base "nearest_of" 1 ["waiting","found"] .sh Nn:=Aw F11 (mg_of X G a11) b11 (λ_ _ _ h=>by obtain⟨_,_,_,_,e,_⟩:=h; rw [e]; rfl) (J0 T  F11)
 have G_least_ways:Got l.prog w K mg base "least_ways" 2 ["net","start"] .fr Jn:=Aw F12 (mg_of X G a12) b12 (λ_ _ _ h=>by obtain⟨_,_,e,_⟩:=h; rw [e]; rfl) (J1 T G_nearest_of G_steps_of F12)
 have G_way_of:Got l.prog w K mg base "way_of" 3 ["net","a","b"] .sh Sz:=Aw F13 (mg_of X G a13) b13 (λ_ _ _ h=>by obtain⟨_,_,_,e,_⟩:=h; rw [e]; rfl) (QW T G_least_ways F13)
 have G_is_within:Got l.prog w K mg base "is_within" 1 ["length","times","number"] .sh EV:=Aw F14 (mg_of X G a14) b14 (λ_ _ _ h=>by obtain⟨_,_,_,_,e,_⟩:=h; rw [e]; rfl) (Lf T  F14)
 have G_near_way:Got l.prog w K mg base "near_way" 4 ["net","times","tie"] .sh HJ:=Aw F15 (mg_of X G a15) b15 (λ_ _ _ h=>by obtain⟨_,_,_,_,e,_⟩:=h; rw [e]; rfl) (Mm T G_is_within G_length_of G_way_of F15)
 have G_ways_paper:Got l.prog w K mg base "ways_paper" 6 ["net","times","thin"] .sh FL:=Aw F16 (mg_of X G a16) b16 (λ_ _ _ h=>by obtain⟨_,_,_,_,e,_⟩:=h; rw [e]; rfl) (Jz T G_left_out G_near_way F16)
 have G_way_fault:Got l.prog w K mg base "way_fault" 4 ["net","times","tie","thing"] .sh FN:=Aw F17 (mg_of X G a17) b17 (λ_ _ _ h=>by obtain⟨_,_,_,_,_,_,e,_⟩:=h; rw [e]; rfl) (Lc T G_is_within G_length_between F17)
 have G_lets_ways:Got l.prog w K mg base "lets_ways" 6 ["net","times","thin","paper"] .sh Jm:=Aw F18 (mg_of X G a18) b18 (λ_ _ _ h=>by obtain⟨_,_,_,_,_,e,_⟩:=h; rw [e]; rfl) (Ld T G_is_thin G_is_tuple_of G_left_out G_way_fault F18)
 have Gf:=Lj (P:=l.prog) (w:=w) (base:=base) T F19
 have G__law_next:Got l.prog w K mg base "_law_next" 1 ["_law_feed_here","_law_many"] .sh BF:=Aw F20 (mg_of X G a20) b20 (λ_ _ _ h=>by obtain⟨_,e,_⟩:=h; rw [e]; rfl) (Te F20 T.n_len)
 have G__law_whole:Got l.prog w K mg base "_law_whole" 1 ["_law_thing","_law_least_here","_law_most"] .sh Gi:=Aw F21 (mg_of X G a21) b21 (λ_ _ _ h=>by obtain⟨_,_,_,e,_⟩:=h; rw [e]; rfl) (J3 T  F21)
 have G__law_places:Got l.prog w K mg base "_law_places" 2 ["_law_feed_here","_law_many"] .fr Gh:=Aw F22 (mg_of X G a22) b22 (λ_ _ _ h=>by obtain⟨_,e,_⟩:=h; rw [e]; rfl) (Iv T G__law_next F22)
 have G__law_length:Got l.prog w K mg base "_law_length" 2 ["_law_feed_here","_law_scale"] .sh S2:=Aw F23 (mg_of X G a23) b23 (λ_ _ _ h=>by obtain⟨_,e,_⟩:=h; rw [e]; rfl) (Iw T G__law_next F23)
 have G__law_net:Got l.prog w K mg base "_law_net" 3 ["_law_feed_here","_law_most","_law_ties"] .sh S1:=Aw F24 (mg_of X G a24) b24 (λ_ _ _ h=>by obtain⟨_,_,e,_⟩:=h; rw [e]; rfl) (Mq T G__law_length G__law_next G__law_places F24)
 have G__law_times:Got l.prog w K mg base "_law_times" 2 ["_law_feed_here"] .sh HH:=Aw F25 (mg_of X G a25) b25 (λ_ _ _ h=>by obtain⟨e,_⟩:=h; rw [e]; rfl) (J4 T G__law_next F25)
 have G__law_in_order:Got l.prog w K mg base "_law_in_order" 1 ["_law_ties"] .fr DM:=Aw F26 (mg_of X G a26) b26 (λ_ _ _ h=>by obtain⟨_,_,e,_⟩:=h; rw [e]; rfl) (G4 T  F26)
 have G__law_least:Got l.prog w K mg base "_law_least" 1 ["_law_ties","_law_place"] .fr CT:=Aw F27 (mg_of X G a27) b27 (λ_ _ _ h=>by obtain⟨_,_,_,_,e,_⟩:=h; rw [e]; rfl) (J5 T  F27)
 have G__law_thinned:Got l.prog w K mg base "_law_thinned" 2 ["_law_net_here","_law_times_here"] .sh FD:=Aw F28 (mg_of X G a28) b28 (λ_ _ _ h=>by obtain⟨_,_,_,e,_⟩:=h; rw [e]; rfl) (Hm T G__law_in_order G__law_least F28)
 have G__law_is_name:Got l.prog w K mg base "_law_is_name" 1 ["_law_thing"] .sh He:=Aw F29 (mg_of X G a29) b29 (λ_ _ _ h=>G1 h) (Ho T  F29)
 have G__law_is_tie:Got l.prog w K mg base "_law_is_tie" 2 ["_law_places_here","_law_thing"] .sh Np:=Aw F30 (mg_of X G a30) b30 (λ_ _ _ h=>by obtain⟨_,_,e,_⟩:=h; rw [e]; rfl) (Iy T G__law_is_name G__law_whole F30)
 have G__law_rise:Got l.prog w K mg base "_law_rise" 1 ["_law_things"] .sh Cs:=Aw F31 (mg_of X G a31) b31 (λ_ _ _ h=>by obtain⟨_,_,e,_⟩:=h; rw [e]; rfl) (Li T  F31)
 have G__law_is_net:Got l.prog w K mg base "_law_is_net" 3 ["_law_thing"] .sh Nm:=Aw F32 (mg_of X G a32) b32 (λ_ _ _ h=>G1 h) (Iz T G__law_is_name G__law_is_tie G__law_rise F32)
 have G__law_is_thin:Got l.prog w K mg base "_law_is_thin" 4 ["_law_net_here","_law_thing"] .sh Fd:=Aw F33 (mg_of X G a33) b33 (λ_ _ _ h=>by obtain⟨_,_,e,_⟩:=h; rw [e]; rfl) (Hn T G__law_is_net F33)
 have G__law_walked:Got l.prog w K mg base "_law_walked" 1 ["_law_net_here","_law_way"] .sh Hs:=Aw F34 (mg_of X G a34) b34 (λ_ _ _ h=>by obtain⟨_,_,e,_⟩:=h; rw [e]; rfl) (Iu T  F34)
 have G__law_ways_due:Got l.prog w K mg base "_law_ways_due" 5 ["_law_net_here","_law_times_here","_law_thin","_law_paper"] .sh Nk:=Aw F35 (mg_of X G a35) b35 (λ_ _ _ h=>by obtain⟨_,_,_,_,_,e,_⟩:=h; rw [e]; rfl) (G3 T G__law_in_order G__law_is_thin G__law_walked F35)
 have G__law_some_thin:Got l.prog w K mg base "_law_some_thin" 3 ["_law_feed_here","_law_net_here","_law_times_here"] .sh Jl:=Aw F36 (mg_of X G a36) b36 (λ_ _ _ h=>by obtain⟨_,_,_,e,_⟩:=h; rw [e]; rfl) (GD T G__law_next G__law_thinned F36)
 have G__law_keeps:Got l.prog w K mg base "_law_keeps" 2 ["_law_net_here","_law_times_here","_law_thin"] .sh Gj:=Aw F37 (mg_of X G a37) b37 (λ_ _ _ h=>by obtain⟨_,_,_,_,e,_⟩:=h; rw [e]; rfl) (J6 T G__law_least F37)
 exact VQ T Gf (mg_of X G a19) F19.kp b19 G__law_keeps G__law_net G__law_next G__law_some_thin G__law_times G__law_ways_due G_lets_ways G_ways_paper F38
theorem walk{l:PySem.W.OpenLaw}{q:Program}{loose:List Str}{XP:(Str->Option Value)->Heap->Prop}{YP:World->Heap->Prop}{d:DefRec}{K:Params->Frag}(hn:l.most=some 63)(hdf:d.params.defaults=[])
  (hY:∀(w:World) (h:Heap),YP w h->(K w.params).In h)
  (F:∀(w:World) (mg:Str->Option Value) (fa:Addr) (h:Heap),(K w.params).In h->h.Ns mainGlobals mg->mg d.name=some (.ref fa) ->
   ∃fd:FuncData,(∀(s:Shared) (u:Value),BindsTo s fd ⟨[u],[]⟩ [("_law_script",u)])/\∀base:Heap,(K w.params).In base->base.Ns mainGlobals mg->BK l.prog w (K w.params) mg base DB 7 fa fd ["_law_script"] (MS (K w.params))) :
  PySem.W.WalkO q loose XP YP l.row.toRowW d [] (λf vs=>PySem.call f vs) :=
 L2.Om (n:=63) (k:=7) (x := "_law_script") (CX:=λ_=>DB) (sp:=λw=>MS (K w.params)) hn (by decide) hdf ⟨rfl,by decide,by decide,rfl⟩ hY F (λ_ _ a ns hl _ hS=>⟨a,ns,rfl,⟨hl,hS⟩,λ_=>rfl⟩) λ_ _ _ _ _ z=>z
end K13
end _p
namespace PySem.W.Fast
theorem tw17383516656402064421:True:=⟨⟩
theorem tw15043134201630191200:True:=⟨⟩
theorem tw736822752254127214:True:=⟨⟩
theorem tw4009068234765124767:True:=⟨⟩
theorem tw12644717641853506555:True:=⟨⟩
theorem tw6095058923914112413:True:=⟨⟩
theorem tw1441949059559130233:True:=⟨⟩
theorem tw10562132684637241658:True:=⟨⟩
theorem tw1096919208779248699:True:=⟨⟩
theorem tw5926779534458828114:True:=⟨⟩
theorem tw9327639597178128050:True:=⟨⟩
theorem tw8088180726009948701:True:=⟨⟩
theorem tw6502104284896173558:True:=⟨⟩
theorem tw18052270308707727319:True:=⟨⟩
theorem tw12507593346938773816:True:=⟨⟩
theorem tw2919433143924812680:True:=⟨⟩
end PySem.W.Fast
open _p
open PySem PySem.W PyProof.Rows
set_option maxRecDepth 100000 in
set_option maxHeartbeats 0 in
theorem PySem.Challenge.cw_thinnet_k13_papers_of_ways_told_holds : PySem.Challenge.rw_thinnet_k13_papers_of_ways_told.Holds := by
 w_on; o_law; k_head; (case hw=>w_witness2)
 k_fill
 refine K13.walk (l:=PySem.Challenge.rw_thinnet_k13_papers_of_ways_told) rfl rfl (λw h Y=>PySem.W.kIn_of Y) ?F
 case F =>
  intro w mg fa h KX G hmg
  refine' K13.all_mk KX G hmg ?a0 ?l0 ?c0 ?k0 ?a1 ?l1 ?c1 ?k1 ?a2 ?l2 ?c2 ?k2 ?a3 ?l3 ?c3 ?k3 ?a4 ?l4 ?c4 ?k4 ?a5 ?l5 ?c5 ?k5 ?a6 ?l6 ?c6 ?k6 ?a7 ?l7 ?c7 ?k7 ?a8 ?l8 ?c8 ?k8 ?a9 ?l9 ?c9 ?k9 ?a10 ?l10 ?c10 ?k10 ?a11 ?l11 ?c11 ?k11 ?a12 ?l12 ?c12 ?k12 ?a13 ?l13 ?c13 ?k13 ?a14 ?l14 ?c14 ?k14 ?a15 ?l15 ?c15 ?k15 ?a16 ?l16 ?c16 ?k16 ?a17 ?l17 ?c17 ?k17 ?a18 ?l18 ?c18 ?k18 ?a19 ?l19 ?c19 ?k19 ?a20 ?l20 ?c20 ?k20 ?a21 ?l21 ?c21 ?k21 ?a22 ?l22 ?c22 ?k22 ?a23 ?l23 ?c23 ?k23 ?a24 ?l24 ?c24 ?k24 ?a25 ?l25 ?c25 ?k25 ?a26 ?l26 ?c26 ?k26 ?a27 ?l27 ?c27 ?k27 ?a28 ?l28 ?c28 ?k28 ?a29 ?l29 ?c29 ?k29 ?a30 ?l30 ?c30 ?k30 ?a31 ?l31 ?c31 ?k31 ?a32 ?l32 ?c32 ?k32 ?a33 ?l33 ?c33 ?k33 ?a34 ?l34 ?c34 ?k34 ?a35 ?l35 ?c35 ?k35 ?a36 ?l36 ?c36 ?k36 ?a37 ?l37 ?c37 ?k37 ?a38 ?l38 ?c38 ?k38 ?z_all ?z_bool ?z_enumerate ?z_int ?z_isinstance ?z_len ?z_list ?z_min ?z_range ?z_repr ?z_reversed ?z_sorted ?z_str ?z_tuple ?z_zip
  case a0=>k_is
  case l0=>k_is
  case c0=>k_is
  case k0=>k_is
  case a1=>k_is
  case l1=>k_is
  case c1=>k_is
  case k1=>k_is
  case a2=>k_is
  case l2=>k_is
  case c2=>k_is
  case k2=>k_is
  case a3=>k_is
  case l3=>k_is
  case c3=>k_is
  case k3=>k_is
  case a4=>k_is
  case l4=>k_is
  case c4=>k_is
  case k4=>k_is
  case a5=>k_is
  case l5=>k_is
  case c5=>k_is
  case k5=>k_is
  case a6=>k_is
  case l6=>k_is
  case c6=>k_is
  case k6=>k_is
  case a7=>k_is
  case l7=>k_is
  case c7=>k_is
  case k7=>k_is
  case a8=>k_is
  case l8=>k_is
  case c8=>k_is
  case k8=>k_is
  case a9=>k_is
  case l9=>k_is
  case c9=>k_is
  case k9=>k_is
  case a10=>k_is
  case l10=>k_is
  case c10=>k_is
  case k10=>k_is
  case a11=>k_is
  case l11=>k_is
  case c11=>k_is
  case k11=>k_is
  case a12=>k_is
  case l12=>k_is
  case c12=>k_is
  case k12=>k_is
  case a13=>k_is
  case l13=>k_is
  case c13=>k_is
  case k13=>k_is
  case a14=>k_is
  case l14=>k_is
  case c14=>k_is
  case k14=>k_is
  case a15=>k_is
  case l15=>k_is
  case c15=>k_is
  case k15=>k_is
  case a16=>k_is
  case l16=>k_is
  case c16=>k_is
  case k16=>k_is
  case a17=>k_is
  case l17=>k_is
  case c17=>k_is
  case k17=>k_is
  case a18=>k_is
  case l18=>k_is
  case c18=>k_is
  case k18=>k_is
  case a19=>k_is
  case l19=>k_is
  case c19=>k_is
  case k19=>k_is
  case a20=>k_is
  case l20=>k_is
  case c20=>k_is
  case k20=>k_is
  case a21=>k_is
  case l21=>k_is
  case c21=>k_is
  case k21=>k_is
  case a22=>k_is
  case l22=>k_is
  case c22=>k_is
  case k22=>k_is
  case a23=>k_is
  case l23=>k_is
  case c23=>k_is
  case k23=>k_is
  case a24=>k_is
  case l24=>k_is
  case c24=>k_is
  case k24=>k_is
  case a25=>k_is
  case l25=>k_is
  case c25=>k_is
  case k25=>k_is
  case a26=>k_is
  case l26=>k_is
  case c26=>k_is
  case k26=>k_is
  case a27=>k_is
  case l27=>k_is
  case c27=>k_is
  case k27=>k_is
  case a28=>k_is
  case l28=>k_is
  case c28=>k_is
  case k28=>k_is
  case a29=>k_is
  case l29=>k_is
  case c29=>k_is
  case k29=>k_is
  case a30=>k_is
  case l30=>k_is
  case c30=>k_is
  case k30=>k_is
  case a31=>k_is
  case l31=>k_is
  case c31=>k_is
  case k31=>k_is
  case a32=>k_is
  case l32=>k_is
  case c32=>k_is
  case k32=>k_is
  case a33=>k_is
  case l33=>k_is
  case c33=>k_is
  case k33=>k_is
  case a34=>k_is
  case l34=>k_is
  case c34=>k_is
  case k34=>k_is
  case a35=>k_is
  case l35=>k_is
  case c35=>k_is
  case k35=>k_is
  case a36=>k_is
  case l36=>k_is
  case c36=>k_is
  case k36=>k_is
  case a37=>k_is
  case l37=>k_is
  case c37=>k_is
  case k37=>k_is
  case a38=>k_is
  case l38=>k_is
  case c38=>k_is
  case k38=>k_is
  case z_all=>k_is
  case z_bool=>k_is
  case z_enumerate=>k_is
  case z_int=>k_is
  case z_isinstance=>k_is
  case z_len=>k_is
  case z_list=>k_is
  case z_min=>k_is
  case z_range=>k_is
  case z_repr=>k_is
  case z_reversed=>k_is
  case z_sorted=>k_is
  case z_str=>k_is
  case z_tuple=>k_is
  case z_zip=>k_is
#print axioms PySem.Challenge.cw_thinnet_k13_papers_of_ways_told_holds

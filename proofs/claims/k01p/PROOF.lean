import PyProof.Rows.All
import Wide.All
import OpenK.AllK
import Wide.FinOn
import Lean
import PyProof.EqAt
import PyProof.EqKinds
import PyProof.TupleCall
import PySem.Challenge.RW_thinnet_k01_names_and_times
set_option Elab.async false
set_option linter.all false
set_option maxRecDepth 100000
/-! THE HAND LAYER, for ints, bools, texts, own classes, LISTS and tuples (index, slices, in, append, pop ..), calls, loops. Paste it whole ahead of your own text; what your proof does not reach may be deleted. -/
namespace L2
open PySem PySem.Spec PyProof.Rows

/-- a key: an int or a str -/
abbrev Key := Sum Int Str
def keyIs : Key → Value → Bool
  | .inl k, v => Value.isInt k v
  | .inr x, v => Value.isStrOf x v
def keyH (w : World) : Key → Int
  | .inl k => hashInt k
  | .inr x => hashStr w x
theorem keyIs_shape : ∀ {k : Key} {v : Value}, keyIs k v = true → (∃ i t, k = Sum.inl i ∧ v = Value.int i t) ∨ (∃ x t, k = Sum.inr x ∧ v = Value.str x t)
  | .inl i, v, h => by
    obtain ⟨t, e⟩ := Value.isInt_shape (k := i) (v := v) h
    exact .inl ⟨i, t, rfl, e⟩
  | .inr x, v, h => by
    obtain ⟨t, e⟩ := Value.isStrOf_shape (x := x) (v := v) h
    exact .inr ⟨x, t, rfl, e⟩
theorem keyIs_int (i : Int) (t : Tok) : keyIs (.inl i) (.int i t) = true := by simp [keyIs, Value.isInt]
theorem keyIs_str (x : Str) (t : Tok) : keyIs (.inr x) (.str x t) = true := by simp [keyIs, Value.isStrOf]
theorem key_ll (a b : Int) : decide ((Sum.inl a : Key) = Sum.inl b) = (a == b) := by
  by_cases e : a = b
  · subst e; simp
  · have h : ¬ (Sum.inl a : Key) = Sum.inl b := fun q => e (Sum.inl.inj q)
    rw [decide_eq_false h]
    exact (beq_eq_false_iff_ne.mpr e).symm
theorem key_rr (a b : Str) : decide ((Sum.inr a : Key) = Sum.inr b) = decide (a = b) := by
  by_cases e : a = b
  · subst e; simp
  · have h : ¬ (Sum.inr a : Key) = Sum.inr b := fun q => e (Sum.inr.inj q)
    rw [decide_eq_false h, decide_eq_false e]
theorem key_lr (a : Int) (b : Str) : decide ((Sum.inl a : Key) = Sum.inr b) = false := decide_eq_false (fun q => nomatch q)
theorem key_rl (a : Str) (b : Int) : decide ((Sum.inr a : Key) = Sum.inl b) = false := decide_eq_false (fun q => nomatch q)

def mixKind (prog : Program) (w : World) : PySem.KeyKind prog w Key where
  is := keyIs
  hash := keyH w
  inj := fun v a b ha hb => by
    rcases keyIs_shape ha with ⟨i, t, rfl, rfl⟩ | ⟨x, t, rfl, rfl⟩
    · rcases keyIs_shape hb with ⟨j, u, rfl, e⟩ | ⟨y, u, rfl, e⟩
      · injection e with e1 _; rw [e1]
      · exact nomatch e
    · rcases keyIs_shape hb with ⟨j, u, rfl, e⟩ | ⟨y, u, rfl, e⟩
      · exact nomatch e
      · injection e with e1 _; rw [e1]
  byValue := fun k v h => by
    rcases keyIs_shape h with ⟨i, t, rfl, rfl⟩ | ⟨x, t, rfl, rfl⟩ <;> rfl
  pyHash := fun hv h => by
    rcases keyIs_shape hv with ⟨i, t, rfl, rfl⟩ | ⟨x, t, rfl, rfl⟩
    · exact wpAny_pyHash_int h
    · exact wpAny_pyHash_str h
  eqBool := fun hu hv h => by
    rcases keyIs_shape hu with ⟨i, t, rfl, rfl⟩ | ⟨x, t, rfl, rfl⟩
    · rcases keyIs_shape hv with ⟨j, u, rfl, rfl⟩ | ⟨y, u, rfl, rfl⟩
      · rw [key_ll] at h; exact wpAny_eqBool_int h
      · rw [key_lr] at h; exact SeqAt.EqAt.int_str i t y u _ _ _ _ h
    · rcases keyIs_shape hv with ⟨j, u, rfl, rfl⟩ | ⟨y, u, rfl, rfl⟩
      · rw [key_rl] at h; exact SeqAt.EqAt.str_int x t j u _ _ _ _ h
      · rw [key_rr] at h; exact wpAny_eqBool_str h
  «strs» := fun k x t v h => by
    rcases keyIs_shape h with ⟨i, u, rfl, e⟩ | ⟨y, u, rfl, e⟩
    · exact nomatch e
    · injection e with e1 _
      subst e1
      cases v <;> rfl

theorem mixKind_is (prog : Program) (w : World) (k : Key) (v : Value) : (mixKind prog w).is k v = keyIs k v := rfl
theorem mixKind_int (prog : Program) (w : World) (i : Int) (t : Tok) : (mixKind prog w).is (.inl i) (.int i t) = true := keyIs_int i t
theorem mixKind_str (prog : Program) (w : World) (x : Str) (t : Tok) : (mixKind prog w).is (.inr x) (.str x t) = true := keyIs_str x t
end L2

namespace L2
open PySem PySem.Spec PyProof.Rows

/-- a value, without the heap -/
inductive V where
  | non | bl (b : Bool) | int (i : Int) | str (x : Str) | byt (b : Array UInt8) | flt (b : UInt64) | ref (a : Addr) | ty (n : String)
  deriving DecidableEq

def RelV : V → Value → Prop
  | .non, u => u = Value.none
  | .bl b, u => u = Value.bool b
  | .int i, u => ∃ t, u = Value.int i t
  | .str x, u => ∃ t, u = Value.str x t
  | .byt b, u => ∃ t, u = Value.bytes b t
  | .flt b, u => ∃ t, u = Value.float b t
  | .ref a, u => u = Value.ref a
  | .ty n, u => u = Value.type n

abbrev Vals : List V → List Value → Prop := Paired RelV
theorem Vals.length {xs : List V} {us : List Value} (r : Vals xs us) : xs.length = us.length := Paired.length r
theorem Vals.get : ∀ {xs : List V} {us : List Value} {i : Nat} {x : V}, Vals xs us → xs[i]? = some x → ∃ u, us[i]? = some u ∧ RelV x u
  | _, _, _, _, .nil, e => by simp at e
  | _, _, 0, _, .cons r _, e => by simp at e; subst e; exact ⟨_, rfl, r⟩
  | _, _, i + 1, x, .cons _ t, e => by
    obtain ⟨u, h1, h2⟩ := Vals.get (i := i) (x := x) t (by simpa using e)
    exact ⟨u, by simpa using h1, h2⟩
theorem Vals.set {x : V} {u : Value} (r : RelV x u) : ∀ {xs : List V} {us : List Value} (i : Nat), Vals xs us → Vals (xs.set i x) (us.set i u)
  | _, _, _, .nil => .nil
  | _, _, 0, .cons _ t => .cons r t
  | _, _, i + 1, .cons q t => .cons q (Vals.set r i t)
theorem Vals.append : ∀ {xs ys : List V} {us ws : List Value}, Vals xs us → Vals ys ws → Vals (xs ++ ys) (us ++ ws)
  | _, _, _, _, .nil, s => s
  | _, _, _, _, .cons r t, s => .cons r (Vals.append t s)
theorem Vals.take : ∀ {xs : List V} {us : List Value} (n : Nat), Vals xs us → Vals (xs.take n) (us.take n)
  | _, _, 0, _ => .nil
  | _, _, _ + 1, .nil => .nil
  | _, _, n + 1, .cons r t => .cons r (Vals.take n t)
theorem Vals.drop : ∀ {xs : List V} {us : List Value} (n : Nat), Vals xs us → Vals (xs.drop n) (us.drop n)
  | _, _, 0, r => r
  | _, _, _ + 1, .nil => .nil
  | _, _, n + 1, .cons _ t => Vals.drop n t
theorem Vals.none_of : ∀ {xs : List V} {us : List Value} {i : Nat}, Vals xs us → xs[i]? = none → us[i]? = none := fun {xs us i} r e => by
  have h1 := r.length
  have h2 : xs.length ≤ i := List.getElem?_eq_none_iff.mp e
  exact List.getElem?_eq_none_iff.mpr (by omega)

def RelO : Option V → Option Value → Prop
  | some v, some u => RelV v u
  | none, none => True
  | _, _ => False
def KV {κ : Type} : List (κ × V) → List (κ × Value) → Prop := Paired fun (p : κ × V) (q : κ × Value) => p.1 = q.1 ∧ RelV p.2 q.2

/-- a key of a dict (00_mix): an int or a text -/
def kV : Key → V
  | .inl i => .int i
  | .inr x => .str x

/-- what stands at a tracked address -/
inductive HO where
  /-- a list -/
  | lst (xs : List V)
  /-- a tuple (never changes) -/
  | tup (xs : List V)
  /-- a dict whose keys are ints and texts; one whose keys are tuples of ints and texts (the empty one is both) -/
  | dK (kvs : List (Key × V)) | dT (kvs : List (List Key × V))
  /-- a set of ints: its members, its size -/
  | set (S : Int → Bool) (n : Nat)
  /-- an instance of the class at C, its dict at dx, its attributes -/
  | ins (C dx : Addr) (fs : List (Str × V))
  /-- the dict of the instance at x -/
  | own (x : Addr)
  /-- the dict of an exception -/
  | xd (fs : List (Str × V))
  /-- a bound method, f of x -/
  | met (f x : Addr)
  /-- a range object lo, lo + 1, .. below hi -/
  | rng (lo hi : Int)
  /-- a thing that is known to the object (the script; a dict while a loop walks it): read, never written while it is so -/
  | frz (o : Obj) (u : HO)
  /-- a code object's table -/
  | tbl (ps : Array Value)
  /-- any other thing, by what is true of its one object (a def of one's own: SetO a S n := HO.ext fun h => ..) -/
  | ext (φ : Heap → Prop)

abbrev Hp := Addr → Option HO
def upd (H : Hp) (a : Addr) (o : HO) : Hp := fun b => if b = a then some o else H b
theorem upd_same {H : Hp} {a : Addr} {o : HO} : upd H a o a = some o := by unfold upd; rw [if_pos rfl]
theorem upd_ne {H : Hp} {a b : Addr} {o : HO} (h : b ≠ a) : upd H a o b = H b := by unfold upd; rw [if_neg h]
theorem upd_upd {H : Hp} {a : Addr} {o u : HO} : upd (upd H a o) a u = upd H a u := by
  funext b; unfold upd; split <;> rfl
/-- two objects of different content stand apart -/
theorem ne_of {H : Hp} {a b : Addr} {o u : HO} (h : H a = some o) (h' : H b = some u) (d : o ≠ u) : a ≠ b := by
  intro e; subst e; rw [h] at h'; exact d (Option.some.inj h')
theorem ne_of_none {H : Hp} {a b : Addr} {o : HO} (h : H a = some o) (h' : H b = none) : a ≠ b := by
  intro e; subst e; rw [h] at h'; cases h'

section
variable (P : Program) (w : World)
def ObjOk (H : Hp) (h : Heap) (a : Addr) : HO → Prop
  | .lst xs => xs.length ≤ sizeLine ∧ ∃ (its : List Value) (n : Nat), Vals xs its ∧ h.get? a = some { cls := .type "list", data := .seq its.toArray n }
  | .tup xs => xs.length ≤ sizeLine ∧ ∃ its : List Value, Vals xs its ∧ IsTup h a its.toArray
  | .dK kvs => kvs.length ≤ sizeLine ∧ (a == sysModules) = false ∧ ∃ vs, KV kvs vs ∧ h.DictOf (mixKind P w) a vs
  | .dT kvs => kvs.length ≤ sizeLine ∧ (a == sysModules) = false ∧ ∃ xs : List (List Key × Addr × Value),
      Paired (fun (p : List Key × V) (q : List Key × Addr × Value) => p.1 = q.1 ∧ H q.2.1 = some (.tup (p.1.map kV)) ∧ RelV p.2 q.2.2) kvs xs ∧
      ∃ o es ep, h.get? a = some o ∧ o.ExactDict ∧ o.data = .dict es ep ∧ es.toList = xs.map (entryOfKey (tupleKind (mixKind P w))) ∧ (xs.map (·.1)).Nodup
  | .set S n => h.SetOf (intKind P w) a S n
  | .ins C dx fs => H dx = some (.own a) ∧ fs.length ≤ 1000 ∧ dx ≠ a ∧ h.get? a = some (PySem.W.instObj C dx) ∧
      ∃ mA, h.Ns1 dx mA ∧ (∀ f, RelO (fs.lookup f) (mA f)) ∧ PySem.Within mA (fs.map (·.1))
  | .own _ => ∃ o, h.get? a = some o
  | .xd fs => ∃ mA, h.Ns1 a mA ∧ ∀ f, RelO (fs.lookup f) (mA f)
  | .rng lo hi => ∃ t u v, h.get? a = some { cls := .type "range", data := .fields #[.int lo t, .int hi u, .int 1 v] }
  | .frz o u => h.get? a = some o ∧ ObjOk H h a u
  | .tbl ps => h.get? a = some { cls := .none, data := .fields ps }
  | .met f x => h.get? a = some (PySem.W.methodObj (.ref f) (.ref x))
  | .ext φ => φ h ∧ (∃ o, h.get? a = some o) ∧ ∀ h1 h2 : Heap, φ h1 → (∀ o, h1.get? a = some o → h2.get? a = some o) → φ h2
/-- the abstract heap is held -/
def HOk (H : Hp) (h : Heap) : Prop := ∀ a o, H a = some o → ObjOk P w H h a o
end

section
variable {P : Program} {w : World} {H H' : Hp} {h h' : Heap} {a : Addr} {o : HO}
theorem ObjOk.lt (x : ObjOk P w H h a o) : a < h.objs.size := by
  cases o with
  | lst xs => obtain ⟨_, _, _, _, e⟩ := x; exact Heap.lt_size e
  | tup xs => obtain ⟨_, _, _, p⟩ := x; exact p.lt
  | dK kvs => obtain ⟨_, _, _, _, o, _, _, e, _⟩ := x; exact Heap.lt_size e
  | dT kvs => obtain ⟨_, _, _, _, o, _, _, e, _⟩ := x; exact Heap.lt_size e
  | set S n => obtain ⟨o, _, _, _, e, _⟩ := x; exact Heap.lt_size e
  | ins C dx fs => obtain ⟨_, _, _, e, _⟩ := x; exact Heap.lt_size e
  | own y => obtain ⟨_, e⟩ := x; exact Heap.lt_size e
  | xd fs => obtain ⟨_, ⟨_, _, _, e, _⟩, _⟩ := x; exact Heap.lt_size e
  | rng lo hi => obtain ⟨_, _, _, e⟩ := x; exact Heap.lt_size e
  | frz ob u => obtain ⟨e, _⟩ := x; exact Heap.lt_size e
  | tbl ps => exact Heap.lt_size (show h.get? a = some _ from x)
  | met f y => exact Heap.lt_size (show h.get? a = some _ from x)
  | ext φ => obtain ⟨_, ⟨_, e⟩, _⟩ := x; exact Heap.lt_size e
theorem Paired.mapP {α β : Type} {F G : α → β → Prop} : ∀ {l₁ : List α} {l₂ : List β}, Paired F l₁ l₂ → (∀ a b, F a b → G a b) → Paired G l₁ l₂
  | _, _, .nil, _ => .nil
  | _, _, .cons r t, f => .cons (f _ _ r) (Paired.mapP t f)
theorem Paired.imp' {α β : Type} {F G : α → β → Prop} (f : ∀ a b, F a b → G a b) {l₁ : List α} {l₂ : List β} (r : Paired F l₁ l₂) : Paired G l₁ l₂ := Paired.mapP r f
/-- what an object's description leans on: its own object, its own dict, the tuples -/
theorem ObjOk.stay (x : ObjOk P w H h a o) (k : ∀ b u, (b = a ∨ H b = some (.own a)) → h.get? b = some u → h'.get? b = some u)
    (ho : ∀ b, H b = some (.own a) → H' b = some (.own a)) (ht : ∀ b xs, H b = some (.tup xs) → H' b = some (.tup xs)) : ObjOk P w H' h' a o := by
  induction o with
  | lst xs => obtain ⟨z, its, n, r, e⟩ := x; exact ⟨z, its, n, r, k _ _ (.inl rfl) e⟩
  | tup xs => obtain ⟨z, its, r, ob, e, c⟩ := x; exact ⟨z, its, r, ob, k _ _ (.inl rfl) e, c⟩
  | dK kvs => obtain ⟨z, y, vs, r, ob, es, ep, e, c⟩ := x; exact ⟨z, y, vs, r, ob, es, ep, k _ _ (.inl rfl) e, c⟩
  | dT kvs =>
    obtain ⟨z, y, xs, r, ob, es, ep, e, c⟩ := x
    exact ⟨z, y, xs, Paired.mapP r fun p q z => ⟨z.1, ht _ _ z.2.1, z.2.2⟩, ob, es, ep, k _ _ (.inl rfl) e, c⟩
  | set S n => obtain ⟨ob, es, ep, t, e, c⟩ := x; exact ⟨ob, es, ep, t, k _ _ (.inl rfl) e, c⟩
  | ins C dx fs =>
    obtain ⟨d, z, ne, e, mA, ⟨od, es, ep, e2, c⟩, r⟩ := x
    exact ⟨ho _ d, z, ne, k _ _ (.inl rfl) e, mA, ⟨od, es, ep, k _ _ (.inr d) e2, c⟩, r⟩
  | own y => obtain ⟨ob, e⟩ := x; exact ⟨ob, k _ _ (.inl rfl) e⟩
  | xd fs => obtain ⟨mA, ⟨od, es, ep, e, c⟩, r⟩ := x; exact ⟨mA, ⟨od, es, ep, k _ _ (.inl rfl) e, c⟩, r⟩
  | rng lo hi => obtain ⟨t, u, v, e⟩ := x; exact ⟨t, u, v, k _ _ (.inl rfl) e⟩
  | frz ob u ih => obtain ⟨e, q⟩ := x; exact ⟨k _ _ (.inl rfl) e, ih q⟩
  | tbl ps =>
    have e : h.get? a = some { cls := .none, data := .fields ps } := x
    show h'.get? a = some { cls := .none, data := .fields ps }
    exact k a _ (.inl rfl) e
  | met f y =>
    have e : h.get? a = some (PySem.W.methodObj (.ref f) (.ref y)) := x
    show h'.get? a = some (PySem.W.methodObj (.ref f) (.ref y))
    exact k a _ (.inl rfl) e
  | ext φ => obtain ⟨p, ⟨o, e⟩, st⟩ := x; exact ⟨st _ _ p fun o q => k _ _ (.inl rfl) q, ⟨o, k _ _ (.inl rfl) e⟩, st⟩
theorem HOk.lt (x : HOk P w H h) (e : H a = some o) : a < h.objs.size := (x a o e).lt
theorem HOk.fresh (x : HOk P w H h) (e : h.objs.size ≤ a) : H a = none := by
  cases q : H a with
  | none => rfl
  | some u => exact absurd (Nat.lt_of_lt_of_le (x.lt q) e) (Nat.lt_irrefl _)
/-- every object of the heap is kept -/
theorem HOk.kept (x : HOk P w H h) (k : ∀ b u, h.get? b = some u → h'.get? b = some u) : HOk P w H h' := fun a o e =>
  (x a o e).stay (fun b u _ q => k b u q) (fun _ q => q) fun _ _ q => q
/-- a new object is laid and tracked -/
theorem HOk.laid (x : HOk P w H h) (k : ∀ b u, h.get? b = some u → h'.get? b = some u) (hp : h.objs.size ≤ a) (new : ObjOk P w (upd H a o) h' a o) : HOk P w (upd H a o) h' := fun b u e => by
  have hn := x.fresh hp
  by_cases hb : b = a
  · subst hb; rw [upd_same] at e; cases e; exact new
  · rw [upd_ne hb] at e
    exact (x b u e).stay (fun c v _ q => k c v q) (fun c q => by rw [upd_ne (ne_of_none q hn)]; exact q) fun c xs q => by rw [upd_ne (ne_of_none q hn)]; exact q
end

/-- what may be read as u: it is u, or a known u -/
def Rd (H : Hp) (a : Addr) (u : HO) : Prop := H a = some u ∨ ∃ o, H a = some (.frz o u)
theorem Rd.of {H : Hp} {a : Addr} {u : HO} (h : H a = some u) : Rd H a u := .inl h
theorem Rd.ok {P : Program} {w : World} {H : Hp} {h : Heap} {a : Addr} {u : HO} (r : Rd H a u) (x : HOk P w H h) : ObjOk P w H h a u := by
  rcases r with r | ⟨o, r⟩
  · exact x a u r
  · obtain ⟨_, q⟩ := x a _ r
    exact q
/-- what may be written -/
def Mut : Option HO → Prop
  | some (.lst _) => True
  | some (.dK _) => True
  | some (.dT _) => True
  | some (.set _ _) => True
  | some (.ins _ _ _) => True
  | some (.ext _) => True
  | _ => False
section
variable {P : Program} {w : World} {H : Hp} {h h' : Heap} {x e : Addr} {o' : HO}
/-- the object at e is changed: x itself, or the dict of the instance x -/
theorem HOk.write (ok : HOk P w H h) (mu : Mut (H x)) (he : e = x ∨ H e = some (.own x)) (k : ∀ b u, b ≠ e → h.get? b = some u → h'.get? b = some u) (heo : ∃ u, h'.get? e = some u)
    (new : ObjOk P w (upd H x o') h' x o') : HOk P w (upd H x o') h' := fun b u q => by
  have nown : ∀ c y, H c = some (.own y) → c ≠ x := fun c y r z => by subst z; rw [r] at mu; exact mu
  have ntup : ∀ c xs, H c = some (.tup xs) → c ≠ x := fun c xs r z => by subst z; rw [r] at mu; exact mu
  by_cases hb : b = x
  · subst hb; rw [upd_same] at q; cases q; exact new
  · rw [upd_ne hb] at q
    by_cases hbe : b = e
    · have q' : H b = some (.own x) := by
        rcases he with z | z
        · exact absurd (hbe.trans z) hb
        · rw [hbe]; exact z
      rw [q] at q'; cases q'
      obtain ⟨v, hv⟩ := heo
      exact ⟨v, by rw [hbe]; exact hv⟩
    · refine (ok b u q).stay (fun c v hc r => k c v ?_ r) (fun c r => by rw [upd_ne (nown c b r)]; exact r) fun c xs r => by rw [upd_ne (ntup c xs r)]; exact r
      rcases hc with rfl | hc
      · exact hbe
      · rintro rfl
        rcases he with z | z
        · exact nown c b hc z
        · rw [hc] at z; cases z; exact hb rfl
end

/-! ### kept unless tracked; of the frames at fs (the callers') the slots may change (an exception that passes writes there); of the records at ex (iterators) nothing is said -/
structure Un (fs ex : List Addr) (H H' : Hp) (h h' : Heap) : Prop where
  keep : ∀ b o, h.get? b = some o → H b = none → b ∉ fs → b ∉ ex → h'.get? b = some o
  slot : ∀ b o, h.get? b = some o → H b = none → b ∈ fs → b ∉ ex → ∃ sl, h'.get? b = some { o with slots := sl }
  free : ∀ b o, h.get? b = some o → H b = none → b ∉ ex → H' b = none
  there : ∀ b o, h.get? b = some o → b ∉ ex → ∃ o', h'.get? b = some o'
  tups : ∀ b xs, H b = some (.tup xs) → H' b = some (.tup xs)
  frzs : ∀ b o u, H b = some (.frz o u) → H' b = some (.frz o u)
  tbls : ∀ b ps, H b = some (.tbl ps) → ∃ more, H' b = some (.tbl (ps ++ more))
section
variable {fs fs' ex ex' : List Addr} {H H1 H2 : Hp} {h h1 h2 h' : Heap} {a x e : Addr} {o : HO}
theorem Un.any (u : Un fs ex H H1 h h1) {b : Addr} {ob : Obj} (q : h.get? b = some ob) (n : H b = none) (hx : b ∉ ex) : ∃ sl, h1.get? b = some { ob with slots := sl } := by
  by_cases hb : b ∈ fs
  · exact u.slot b ob q n hb hx
  · exact ⟨ob.slots, u.keep b ob q n hb hx⟩
theorem Un.trans (a : Un fs ex H H1 h h1) (b : Un fs ex H1 H2 h1 h2) : Un fs ex H H2 h h2 where
  keep := fun c ob q n hc hx => b.keep c ob (a.keep c ob q n hc hx) (a.free c ob q n hx) hc hx
  slot := fun c ob q n hc hx => by
    obtain ⟨sl, e1⟩ := a.slot c ob q n hc hx
    obtain ⟨sl', e2⟩ := b.slot c _ e1 (a.free c ob q n hx) hc hx
    exact ⟨sl', e2⟩
  free := fun c ob q n hx => by
    obtain ⟨o', e1⟩ := a.there c ob q hx
    exact b.free c o' e1 (a.free c ob q n hx) hx
  there := fun c ob q hx => by
    obtain ⟨o', e1⟩ := a.there c ob q hx
    exact b.there c o' e1 hx
  tups := fun c xs q => b.tups c xs (a.tups c xs q)
  frzs := fun c ob xs q => b.frzs c ob xs (a.frzs c ob xs q)
  tbls := fun c ps q => by
    obtain ⟨m1, e1⟩ := a.tbls c ps q
    obtain ⟨m2, e2⟩ := b.tbls c _ e1
    exact ⟨m1 ++ m2, by rw [e2, Array.append_assoc]⟩
theorem Un.kept (k : ∀ b u, h.get? b = some u → h'.get? b = some u) : Un fs ex H H h h' :=
  ⟨fun b ob q _ _ _ => k b ob q, fun b ob q _ _ _ => ⟨ob.slots, k b ob q⟩, fun _ _ _ n _ => n, fun b ob q _ => ⟨ob, k b ob q⟩, fun _ _ q => q, fun _ _ _ q => q, fun _ ps q => ⟨#[], by rw [q]; simp⟩⟩
theorem Un.refl : Un fs ex H H h h := Un.kept fun _ _ q => q
theorem Un.laid (k : ∀ b u, h.get? b = some u → h'.get? b = some u) (hp : h.objs.size ≤ a) (hn : H a = none) : Un fs ex H (upd H a o) h h' where
  keep := fun b u q _ _ _ => k b u q
  slot := fun b u q _ _ _ => ⟨u.slots, k b u q⟩
  free := fun b u q n _ => by rw [upd_ne (Nat.ne_of_lt (Nat.lt_of_lt_of_le (Heap.lt_size q) hp))]; exact n
  there := fun b u q _ => ⟨u, k b u q⟩
  tups := fun b xs q => by rw [upd_ne (ne_of_none q hn)]; exact q
  frzs := fun b u xs q => by rw [upd_ne (ne_of_none q hn)]; exact q
  tbls := fun b ps q => ⟨#[], by rw [upd_ne (ne_of_none q hn), q]; simp⟩
theorem Un.write (mu : Mut (H x)) (he : e = x ∨ H e = some (.own x)) (k : ∀ b u, b ≠ e → h.get? b = some u → h'.get? b = some u) (heo : ∃ u, h'.get? e = some u) : Un fs ex H (upd H x o) h h' := by
  have hx : ∀ b, H b = none → b ≠ x := fun b n z => by subst z; rw [n] at mu; exact mu
  have hb : ∀ b, H b = none → b ≠ e := fun b n z => by
    subst z
    rcases he with r | r
    · exact hx b n r
    · rw [n] at r; cases r
  have hm : ∀ b u, H b = some u → ¬ Mut (some u) → b ≠ x := fun b u q nm z => by subst z; rw [q] at mu; exact nm mu
  refine ⟨fun b u q n _ _ => k b u (hb b n) q, fun b u q n _ _ => ⟨u.slots, k b u (hb b n) q⟩, fun b u q n _ => by rw [upd_ne (hx b n)]; exact n, fun b u q _ => ?_,
    fun b xs q => by rw [upd_ne (hm b _ q fun z => z)]; exact q, fun b u xs q => by rw [upd_ne (hm b _ q fun z => z)]; exact q, fun b ps q => ⟨#[], by rw [upd_ne (hm b _ q fun z => z), q]; simp⟩⟩
  by_cases hbe : b = e
  · subst hbe; exact heo
  · exact ⟨u, k b u hbe q⟩
theorem Un.mono (u : Un fs ex H H1 h h1) (hs : ∀ b ∈ fs, b ∈ fs') (hx : ∀ b ∈ ex, b ∈ ex') : Un fs' ex' H H1 h h1 :=
  ⟨fun b ob q n hb he => u.keep b ob q n (fun z => hb (hs b z)) fun z => he (hx b z), fun _ _ q n _ he => u.any q n fun z => he (hx _ z), fun b ob q n he => u.free b ob q n fun z => he (hx b z), fun b ob q he => u.there b ob q fun z => he (hx b z), u.tups, u.frzs, u.tbls⟩
end

/-! ### the heap without what is tracked -/
def trk (h : Heap) (H : Hp) : List Addr := (List.range h.objs.size).filter fun a => (H a).isSome
def hidT (h : Heap) (H : Hp) : Heap := PySem.W.hideAll h (trk h H)
theorem hidT_size (h : Heap) (H : Hp) : (hidT h H).objs.size = h.objs.size := PySem.W.hideAll_size _ _
theorem hidT_get {h : Heap} {H : Hp} {b : Addr} {o : Obj} (e : h.get? b = some o) (n : H b = none) : (hidT h H).get? b = some o :=
  PySem.W.hideAll_get _ e fun hm => by
    have q : (H b).isSome = true := (List.mem_filter.mp hm).2
    rw [n] at q; simp at q
theorem of_hidT {h : Heap} {H : Hp} {b : Addr} {o : Obj} (e : (hidT h H).get? b = some o) : h.get? b = some o ∧ H b = none := by
  have e' : h.get? b = some o := PySem.W.of_hideAll (trk h H) e
  refine ⟨e', ?_⟩
  cases q : H b with
  | none => rfl
  | some x =>
    have hm : b ∈ trk h H := List.mem_filter.mpr ⟨List.mem_range.mpr (Heap.lt_size e'), by simp [q]⟩
    have z : (hidT h H).get? b = none := PySem.W.hideAll_none (trk h H) hm
    rw [z] at e; cases e

/-! ### OpenK's ledger, filled with every new object but one -/
def allNews (g h : Heap) (L : Addr) : List (Addr × Obj) := (List.range h.objs.size).filterMap fun a => if a = L ∨ (g.get? a).isSome = true then none else (h.get? a).map fun o => (a, o)
theorem mem_allNews {g h : Heap} {L a : Addr} {o : Obj} (h1 : a ≠ L) (h2 : g.get? a = none) (h3 : h.get? a = some o) : (a, o) ∈ allNews g h L :=
  List.mem_filterMap.mpr ⟨a, List.mem_range.mpr (Heap.lt_size h3), by simp [h1, h2, h3]⟩
theorem of_mem_allNews {g h : Heap} {L : Addr} {p : Addr × Obj} (hp : p ∈ allNews g h L) : p.1 ≠ L ∧ g.get? p.1 = none ∧ h.get? p.1 = some p.2 := by
  obtain ⟨b, _, e⟩ := List.mem_filterMap.mp hp
  split at e
  · cases e
  · rename_i hn
    cases q : h.get? b with
    | none => rw [q] at e; simp at e
    | some u =>
      rw [q] at e
      simp only [Option.map_some, Option.some.injEq] at e
      subst e
      refine ⟨fun z => hn (.inl z), ?_, q⟩
      show g.get? b = none
      cases r : g.get? b with
      | none => rfl
      | some v => exact (hn (.inr (by simp [r]))).elim
def rest (g h : Heap) (L d : Addr) : List (Addr × Obj) := (allNews g h L).filter fun p => decide (p.1 ≠ d)
theorem rest_ne {g h : Heap} {L d : Addr} : ∀ p ∈ rest g h L d, p.1 ≠ d := fun p hp => of_decide_eq_true (List.mem_filter.mp hp).2
theorem mem_rest {g h : Heap} {L d a : Addr} {o : Obj} (h1 : a ≠ L) (h2 : g.get? a = none) (h3 : h.get? a = some o) (h4 : a ≠ d) : (a, o) ∈ rest g h L d :=
  List.mem_filter.mpr ⟨mem_allNews h1 h2 h3, decide_eq_true h4⟩
theorem news_all {g h : Heap} {L : Addr} : News g L h (allNews g h L) := fun p hp => let ⟨a, b, c⟩ := of_mem_allNews hp; ⟨c, a, b⟩
theorem news_at {g h : Heap} {L d : Addr} {o : Obj} (h1 : d ≠ L) (h2 : g.get? d = none) (h3 : h.get? d = some o) : News g L h ((d, o) :: rest g h L d) := fun p hp => by
  rcases List.mem_cons.mp hp with rfl | hp
  · exact ⟨h3, h1, h2⟩
  · exact news_all p (List.mem_filter.mp hp).1
/-- behind a rule that changed d alone: all else but the frame is kept -/
theorem kept_of_news {g h h' : Heap} {L d : Addr} {m : Str → Option Value} (k : ∀ b o, g.get? b = some o → h.get? b = some o) (F : Fr g L h' m) (N : News g L h' (rest g h L d)) :
    ∀ b o, b ≠ L → b ≠ d → h.get? b = some o → h'.get? b = some o := fun b o h1 h2 e => by
  cases q : g.get? b with
  | some u =>
    have := k b u q
    rw [e] at this; cases this
    exact F.keep b _ q
  | none => exact (N (b, o) (mem_rest h1 q e h2)).1
end L2

namespace L2
open PySem PySem.Spec PyProof.Rows

/-- the module's facts, over the base: the heap at the law's entry without what is tracked there -/
structure Mod (K : PySem.W.Frag) (mg : Str → Option Value) (base : Heap) : Prop where
  kin : K.In base
  glob : base.Ns mainGlobals mg
  blt : ∃ mb, base.Ns builtinsNs mb ∧ ∀ x : Str, x ≠ "__name__" → mb x = bootBuiltins x
  nolimit : base.NoLimit

/-- the context: a def's body (or a comprehension's block) running. base: fixed through the whole law; s₀, H₀: the entry; outer: the frames whose slots others may change (a def's callers); stack: all frames that run;
   ex: iterators that were made ahead of the entry and are walked here (a comprehension's); fn: the names whose cells were made at the entry (a def: all; a comprehension's block: its own); calm: not within an except suite; pn: pins that every state bears; xe: what is wanted of an exception that leaves the code -/
structure Cx where
  prog : Program
  w : World
  K : PySem.W.Frag
  mg : Str → Option Value
  base : Heap
  A : Around
  N : List Str
  s₀ : Shared
  H₀ : Hp
  env : Env
  outer : List Env
  stack : List Env
  ex : List Addr
  fn : Str → Bool
  calm : Bool
  pn : List (Addr × Obj)
  xe : Value → Shared → Prop
/-- the callers' frames -/
def frs (l : List Env) : List Addr := l.filterMap (·.frame)
abbrev Cx.fs (X : Cx) : List Addr := frs X.outer

def Vis (sc : Scope) (x : Str) : Prop := sc.names.lookup x = some .local ∨ sc.names.lookup x = some .cell ∨ sc.names.lookup x = some .free
def Loc (sc : Scope) (x : Str) : Prop := sc.names.lookup x = some .local ∨ sc.names.lookup x = some .cell
def Look (env : Env) (h : Heap) (m : Str → Option Value) (x : Str) (u : Value) : Prop :=
  (env.kindOf x = some .local ∧ m x = some u) ∨ ((env.kindOf x = some .cell ∨ env.kindOf x = some .free) ∧ ∃ c, env.cells.lookup x = some c ∧ h.IsCell c (some u))

structure Cx.Ok (X : Cx) : Prop where
  mod : Mod X.K X.mg X.base
  kind : X.env.scope.kind = .function
  glob : X.env.globals = mainGlobals
  blt : X.env.builtins = builtinsNs
  above : X.s₀.heap.objs.size ≤ X.env.locals
  inj : ∀ x y c, X.env.cells.lookup x = some c → X.env.cells.lookup y = some c → x = y
  has : ∀ x, (X.env.kindOf x = some .cell ∨ X.env.kindOf x = some .free) → ∃ c, X.env.cells.lookup x = some c
  cab : ∀ x c, X.fn x = true → X.env.cells.lookup x = some c → X.s₀.heap.objs.size ≤ c
  hd : X.calm = true → X.A.handled = none
  frames : X.A.frames = some X.stack
  stk : X.stack = X.outer ∨ (X.stack = X.env :: X.outer ∧ X.env.frame = some X.env.locals)
  exf : ∀ b ∈ X.ex, b ≠ X.env.locals ∧ ∀ x c, X.env.cells.lookup x = some c → c ≠ b
  bs : ∀ b o, X.base.get? b = some o → X.s₀.heap.get? b = some o ∧ X.H₀ b = none
  bsz : X.base.objs.size ≤ X.s₀.heap.objs.size
  noex : ∀ b o, X.base.get? b = some o → b ∉ X.ex
  exfs : ∀ b ∈ X.ex, b ∉ X.fs
  funs : X.s₀.heap.FunFrames X.base X.outer
  frf : ∀ b ∈ X.fs, X.H₀ b = none

structure Inv (X : Cx) (pins : List (Addr × Obj)) (σ : List (Option V)) (H : Hp) (s : Shared) : Prop where
  ok : X.Ok
  os : s.os = X.s₀.os
  bare : AllBare s.gens
  base : Un X.fs X.ex X.H₀ H X.s₀.heap s.heap
  loc : ∃ m, s.heap.Ns X.env.locals m ∧ ∀ (i : Nat) (x : Str) (v : V), X.N[i]? = some x → σ[i]? = some (some v) → Vis X.env.scope x → ∃ u, RelV v u ∧ Look X.env s.heap m x u
  cell : ∀ x c, X.env.cells.lookup x = some c → ∃ v, s.heap.IsCell c v
  free : H X.env.locals = none
  freeC : ∀ x c, X.env.cells.lookup x = some c → H c = none
  pin : ∀ p ∈ X.pn ++ pins, s.heap.get? p.1 = some p.2 ∧ H p.1 = none ∧ p.1 ≠ X.env.locals ∧ p.1 ∉ X.fs ∧ ∀ v, p.2.data ≠ .cell v
  hok : HOk X.prog X.w H s.heap
  len : σ.length = X.N.length

section
variable {X : Cx} {pins : List (Addr × Obj)} {σ : List (Option V)} {H H' : Hp} {s : Shared} {h' : Heap}

theorem Cx.Ok.nofr (ok : X.Ok) {b : Addr} {o : Obj} (e : X.base.get? b = some o) : b ∉ X.fs := fun hb => by
  have := (ok.funs.mem hb).1
  rw [e] at this; cases this
theorem Inv.bs (I : Inv X pins σ H s) : ∀ b o, X.base.get? b = some o → s.heap.get? b = some o ∧ H b = none := fun b o e =>
  ⟨I.base.keep b o (I.ok.bs b o e).1 (I.ok.bs b o e).2 (I.ok.nofr e) (I.ok.noex b o e), I.base.free b o (I.ok.bs b o e).1 (I.ok.bs b o e).2 (I.ok.noex b o e)⟩
theorem Inv.bk (I : Inv X pins σ H s) : ∀ b o, X.base.get? b = some o → s.heap.get? b = some o := fun b o e => (I.bs b o e).1
theorem Inv.mod (I : Inv X pins σ H s) : Mod X.K X.mg X.base := I.ok.mod
theorem Inv.kIn (I : Inv X pins σ H s) : X.K.In s.heap := I.ok.mod.kin.keeps I.bk
theorem Inv.nolimit (I : Inv X pins σ H s) : s.heap.NoLimit := I.ok.mod.nolimit.keeps I.bk
/-- the frame over the base: for OpenK's rules (K.In X.base is I.mod.kin) -/
theorem Inv.fr (I : Inv X pins σ H s) : ∃ m, Fr X.base X.env.locals s.heap m :=
  let ⟨m, hn, _⟩ := I.loc
  ⟨m, hn, I.bk, Nat.le_trans I.ok.bsz I.ok.above⟩
theorem Inv.lt (I : Inv X pins σ H s) : X.env.locals < s.heap.objs.size := let ⟨_, hn, _⟩ := I.loc; hn.lt
theorem Inv.sz (I : Inv X pins σ H s) : X.s₀.heap.objs.size ≤ s.heap.objs.size := Nat.le_trans I.ok.above (Nat.le_of_lt I.lt)
theorem Inv.nofs (I : Inv X pins σ H s) {a : Addr} (h : s.heap.objs.size ≤ a) : a ∉ X.fs := fun hb => by
  obtain ⟨_, o, ho, _⟩ := I.ok.funs.mem hb
  exact absurd (Nat.lt_of_lt_of_le (Heap.lt_size ho) (Nat.le_trans I.sz h)) (Nat.lt_irrefl _)
theorem Inv.cne (I : Inv X pins σ H s) : ∀ x c, X.env.cells.lookup x = some c → c ≠ X.env.locals := fun x c e z => by
  obtain ⟨v, o, ho, hd⟩ := I.cell x c e
  obtain ⟨m, ⟨o', es, ep, ho', hd', _⟩, _⟩ := I.loc
  rw [z, ho'] at ho; cases ho; rw [hd'] at hd; cases hd
theorem Inv.funs (I : Inv X pins σ H s) : s.heap.FunFrames X.base X.outer := by
  have all : ∀ (l : List Env), (∀ b ∈ frs l, b ∈ X.fs) → X.s₀.heap.FunFrames X.base l → s.heap.FunFrames X.base l := by
    intro l
    induction l with
    | nil => intro _ _; trivial
    | cons env r ih =>
      intro hs hl
      obtain ⟨hk, ⟨L, o, hf, hn, ho, hd⟩, hr⟩ := hl
      have hL : L ∈ X.fs := hs L (by unfold frs; rw [List.filterMap_cons, hf]; exact List.mem_cons_self)
      obtain ⟨sl, e⟩ := I.base.slot L o ho (I.ok.frf L hL) hL fun z => I.ok.exfs L z hL
      exact ⟨hk, ⟨L, _, hf, hn, e, hd⟩, ih (fun b hb => hs b (by unfold frs; rw [List.filterMap_cons, hf]; exact List.mem_cons_of_mem _ hb)) hr⟩
  exact all X.outer (fun _ hb => hb) I.ok.funs

/-- the frames that run, for a call -/
theorem Inv.stack (I : Inv X pins σ H s) : s.heap.FunFrames X.base X.stack := by
  rcases I.ok.stk with e | ⟨e, hf⟩
  · rw [e]; exact I.funs
  · rw [e]
    obtain ⟨m, hn, _⟩ := I.loc
    refine .cons (by rw [I.ok.kind]; decide) hf hn ?_ I.funs
    exact Heap.get?_none_of_le (Nat.le_trans I.ok.bsz I.ok.above)
theorem Inv.stkSub (I : Inv X pins σ H s) : ∀ b ∈ frs X.stack, b ∈ X.env.locals :: X.fs := fun b hb => by
  rcases I.ok.stk with e | ⟨e, hf⟩
  · rw [e] at hb; exact List.mem_cons_of_mem _ hb
  · rw [e] at hb
    unfold frs at hb
    rw [List.filterMap_cons, hf] at hb
    exact hb
theorem Inv.stkFree (I : Inv X pins σ H s) : ∀ b ∈ frs X.stack, H b = none := fun b hb => by
  rcases List.mem_cons.mp (I.stkSub b hb) with e | hb
  · rw [e]; exact I.free
  · obtain ⟨_, o, ho, _⟩ := I.ok.funs.mem hb
    exact I.base.free b o ho (I.ok.frf b hb) fun z => I.ok.exfs b z hb

/-- THE STEP: the untracked objects but the frame and the records at ch are kept (the callers' frames up to slots), the frame's map is kept, the new abstract heap is held -/
theorem Inv.step {g' : Array GenState} {t' : Nat} {d' : Drawn} {ch : List Addr} (I : Inv X pins σ H s)
    (hch : ∀ b ∈ ch, (b ∈ X.ex ∨ X.s₀.heap.objs.size ≤ b) ∧ b ≠ X.env.locals ∧ (∀ x c, X.env.cells.lookup x = some c → c ≠ b) ∧ ∀ p ∈ X.pn ++ pins, p.1 ≠ b)
    (keep : ∀ b o, b ≠ X.env.locals → b ∉ X.fs → b ∉ ch → s.heap.get? b = some o → H b = none → h'.get? b = some o)
    (slot : ∀ b o, b ≠ X.env.locals → b ∈ X.fs → b ∉ ch → s.heap.get? b = some o → H b = none → ∃ sl, h'.get? b = some { o with slots := sl }) (free : ∀ b o, b ∉ ch → s.heap.get? b = some o → H b = none → H' b = none)
    (there : ∀ b o, b ∉ ch → s.heap.get? b = some o → ∃ o', h'.get? b = some o')
    (tups : ∀ b xs, H b = some (.tup xs) → H' b = some (.tup xs)) (frzs : ∀ b o u, H b = some (.frz o u) → H' b = some (.frz o u)) (tbls : ∀ b ps, H b = some (.tbl ps) → ∃ more, H' b = some (.tbl (ps ++ more)))
    (ns : ∀ m, s.heap.Ns X.env.locals m → h'.Ns X.env.locals m) (hok : HOk X.prog X.w H' h') (hg : AllBare g') :
    Inv X pins σ H' { s with heap := h', gens := g', drawn := d', toks := t' } := by
  have neL : ∀ b o, X.s₀.heap.get? b = some o → b ≠ X.env.locals := fun b o e => Nat.ne_of_lt (Nat.lt_of_lt_of_le (Heap.lt_size e) I.ok.above)
  have neC : ∀ b o, X.s₀.heap.get? b = some o → b ∉ X.ex → b ∉ ch := fun b o e hx hb => by
    rcases (hch b hb).1 with z | z
    · exact hx z
    · exact absurd (Nat.lt_of_lt_of_le (Heap.lt_size e) z) (Nat.lt_irrefl _)
  have cellK : ∀ x c, X.env.cells.lookup x = some c → ∀ v, s.heap.IsCell c v → h'.IsCell c v := fun x c e v ⟨o, ho, hd⟩ => by
    have nch : c ∉ ch := fun z => (hch c z).2.2.1 x c e rfl
    by_cases hc : c ∈ X.fs
    · obtain ⟨sl, q⟩ := slot c o (I.cne x c e) hc nch ho (I.freeC x c e)
      exact ⟨_, q, hd⟩
    · exact ⟨o, keep c o (I.cne x c e) hc nch ho (I.freeC x c e), hd⟩
  refine ⟨I.ok, I.os, hg, ⟨fun b o e n hb hx => ?_, fun b o e n hb hx => ?_, fun b o e n hx => ?_, fun b o e hx => ?_, fun b xs e => tups b xs (I.base.tups b xs e), fun b o xs e => frzs b o xs (I.base.frzs b o xs e), fun b ps e => ?_⟩, ?_, fun x c e => ?_, ?_, fun x c e => ?_, fun p hp => ?_, hok, I.len⟩
  · exact keep b o (neL b o e) hb (neC b o e hx) (I.base.keep b o e n hb hx) (I.base.free b o e n hx)
  · obtain ⟨sl, e1⟩ := I.base.slot b o e n hb hx
    obtain ⟨sl', e2⟩ := slot b _ (neL b o e) hb (neC b o e hx) e1 (I.base.free b o e n hx)
    exact ⟨sl', e2⟩
  · obtain ⟨o', e1⟩ := I.base.there b o e hx
    exact free b o' (neC b o e hx) e1 (I.base.free b o e n hx)
  · obtain ⟨o', e1⟩ := I.base.there b o e hx
    exact there b o' (neC b o e hx) e1
  · obtain ⟨m1, e1⟩ := I.base.tbls b ps e
    obtain ⟨m2, e2⟩ := tbls b _ e1
    exact ⟨m1 ++ m2, by rw [e2, Array.append_assoc]⟩
  · obtain ⟨m, hn, hl⟩ := I.loc
    refine ⟨m, ns m hn, fun i x v e1 e2 e3 => ?_⟩
    obtain ⟨u, r, l⟩ := hl i x v e1 e2 e3
    refine ⟨u, r, ?_⟩
    rcases l with l | ⟨k, c, e, z⟩
    · exact .inl l
    · exact .inr ⟨k, c, e, cellK x c e _ z⟩
  · obtain ⟨v, z⟩ := I.cell x c e
    exact ⟨v, cellK x c e v z⟩
  · obtain ⟨m, ⟨o, _, _, ho, _⟩, _⟩ := I.loc
    exact free _ o (fun z => (hch _ z).2.1 rfl) ho I.free
  · obtain ⟨v, o, ho, hd⟩ := I.cell x c e
    exact free c o (fun z => (hch c z).2.2.1 x c e rfl) ho (I.freeC x c e)
  · obtain ⟨e, n, ne, nf, d⟩ := I.pin p hp
    have nch : p.1 ∉ ch := fun z => (hch p.1 z).2.2.2 p hp rfl
    exact ⟨keep p.1 p.2 ne nf nch e n, free p.1 p.2 nch e n, ne, nf, d⟩
/-- .. where the frame's own object is kept too -/
theorem Inv.un {t' : Nat} (I : Inv X pins σ H s) (u : Un X.fs [] H H' s.heap h') (hok : HOk X.prog X.w H' h') : Inv X pins σ H' { s with heap := h', toks := t' } := by
  obtain ⟨m, ⟨o, es, ep, ho, r⟩, _⟩ := id I.loc
  obtain ⟨sl, hL⟩ := u.any ho I.free (by simp)
  exact I.step (g' := s.gens) (d' := s.drawn) (ch := []) (fun _ z => nomatch z) (fun b o _ hb _ e n => u.keep b o e n hb (by simp)) (fun b o _ hb _ e n => u.slot b o e n hb (by simp)) (fun b o _ e n => u.free b o e n (by simp)) (fun b o _ e => u.there b o e (by simp)) u.tups u.frzs u.tbls (fun m' hm => by
    obtain ⟨o', es', ep', ho', r'⟩ := hm
    rw [ho] at ho'; cases ho'
    exact ⟨_, es', ep', hL, r'⟩) hok I.bare
/-- behind a call (or a comprehension's block): the slots of this frame may have changed too, the records at ch may have turned -/
theorem Inv.call {g' : Array GenState} {t' : Nat} {d' : Drawn} {ch : List Addr} (I : Inv X pins σ H s) (u : Un (frs X.stack) ch H H' s.heap h') (hok : HOk X.prog X.w H' h') (hg : AllBare g')
    (hch : ∀ b ∈ ch, (b ∈ X.ex ∨ X.s₀.heap.objs.size ≤ b) ∧ b ≠ X.env.locals ∧ (∀ x c, X.env.cells.lookup x = some c → c ≠ b) ∧ ∀ p ∈ X.pn ++ pins, p.1 ≠ b) :
    Inv X pins σ H' { s with heap := h', gens := g', drawn := d', toks := t' } := by
  obtain ⟨m, ⟨o, es, ep, ho, r⟩, _⟩ := id I.loc
  obtain ⟨sl, hL⟩ := u.any ho I.free fun z => (hch _ z).2.1 rfl
  exact I.step (ch := ch) hch (fun b o hL hb hc e n => u.keep b o e n (fun z => (List.mem_cons.mp (I.stkSub b z)).elim hL hb) hc) (fun b o _ _ hc e n => u.any e n hc) (fun b o hc e n => u.free b o e n hc) (fun b o hc e => u.there b o e hc) u.tups u.frzs u.tbls (fun m' hm => by
    obtain ⟨o', es', ep', ho', r'⟩ := hm
    rw [ho] at ho'; cases ho'
    exact ⟨_, es', ep', hL, r'⟩) hok hg
/-- an untracked record of ours (an iterator) has turned -/
theorem Inv.turned {t' : Nat} {it : Addr} (I : Inv X pins σ H s) (k : ∀ b o, b ≠ it → s.heap.get? b = some o → h'.get? b = some o) (hn : H it = none) (hL : it ≠ X.env.locals)
    (h1 : it ∈ X.ex ∨ X.s₀.heap.objs.size ≤ it) (h2 : ∀ x c, X.env.cells.lookup x = some c → c ≠ it) (h3 : ∀ p ∈ X.pn ++ pins, p.1 ≠ it) : Inv X pins σ H { s with heap := h', toks := t' } := by
  have nit : ∀ b u, H b = some u → b ≠ it := fun b u e z => by rw [z, hn] at e; cases e
  refine I.step (g' := s.gens) (d' := s.drawn) (ch := [it]) (fun b hb => ?_) (fun b o _ _ hc e _ => k b o (fun z => hc (by simp [z])) e) (fun b o _ _ hc e _ => ⟨o.slots, k b o (fun z => hc (by simp [z])) e⟩) (fun _ _ _ _ n => n)
    (fun b o hc e => ⟨o, k b o (fun z => hc (by simp [z])) e⟩) (fun _ _ e => e) (fun _ _ _ e => e) (fun b ps e => ⟨#[], by rw [e]; simp⟩) (fun m hm => ?_) (fun b u e => ?_) I.bare
  · have e : b = it := by simpa using hb
    subst e
    exact ⟨h1, hL, h2, h3⟩
  · obtain ⟨o, es, ep, ho, r⟩ := hm
    exact ⟨o, es, ep, k _ o (Ne.symm hL) ho, r⟩
  · refine (I.hok b u e).stay (fun c v hc q => k c v ?_ q) (fun _ q => q) fun _ _ q => q
    rcases hc with z | z
    · rw [z]; exact nit b u e
    · exact nit c _ z
theorem Inv.tok (I : Inv X pins σ H s) (t : Nat) : Inv X pins σ H { s with toks := t } := I.un (h' := s.heap) (t' := t) Un.refl I.hok
/-- all objects kept -/
theorem Inv.kept {t' : Nat} (I : Inv X pins σ H s) (k : ∀ b u, s.heap.get? b = some u → h'.get? b = some u) : Inv X pins σ H { s with heap := h', toks := t' } := I.un (Un.kept k) (I.hok.kept k)
/-- a new object laid and tracked -/
theorem Inv.laid {a : Addr} {o : HO} {t' : Nat} (I : Inv X pins σ H s) (k : ∀ b u, s.heap.get? b = some u → h'.get? b = some u) (hp : s.heap.objs.size ≤ a) (new : ObjOk X.prog X.w (upd H a o) h' a o) :
    Inv X pins σ (upd H a o) { s with heap := h', toks := t' } := I.un (Un.laid k hp (I.hok.fresh hp)) (I.hok.laid k hp new)
/-- an object written -/
theorem Inv.write {x e : Addr} {o : HO} {t' : Nat} (I : Inv X pins σ H s) (mu : Mut (H x)) (he : e = x ∨ H e = some (.own x)) (k : ∀ b u, b ≠ e → s.heap.get? b = some u → h'.get? b = some u) (heo : ∃ u, h'.get? e = some u)
    (new : ObjOk X.prog X.w (upd H x o) h' x o) : Inv X pins σ (upd H x o) { s with heap := h', toks := t' } := I.un (Un.write mu he k heo) (I.hok.write mu he k heo new)
/-- forgetting slots, pins -/
theorem Inv.weak {σ' : List (Option V)} (I : Inv X pins σ H s) (hl : σ'.length = σ.length) (w : ∀ (i : Nat) v, σ'[i]? = some (some v) → σ[i]? = some (some v)) : Inv X pins σ' H s :=
  ⟨I.ok, I.os, I.bare, I.base, let ⟨m, hn, hl'⟩ := I.loc; ⟨m, hn, fun i x v e1 e2 e3 => hl' i x v e1 (w i v e2) e3⟩, I.cell, I.free, I.freeC, I.pin, I.hok, hl.trans I.len⟩
theorem Inv.pins_of {pins' : List (Addr × Obj)} (I : Inv X pins σ H s) (h : ∀ p ∈ pins', s.heap.get? p.1 = some p.2 ∧ H p.1 = none ∧ p.1 ≠ X.env.locals ∧ p.1 ∉ X.fs ∧ ∀ v, p.2.data ≠ .cell v) : Inv X pins' σ H s :=
  ⟨I.ok, I.os, I.bare, I.base, I.loc, I.cell, I.free, I.freeC, fun p hp => (List.mem_append.mp hp).elim (fun z => I.pin p (List.mem_append_left _ z)) (h p), I.hok, I.len⟩

theorem nodup_ix {N : List Str} (hN : N.Nodup) {i j : Nat} {x : Str} (a : N[i]? = some x) (b : N[j]? = some x) : i = j := by
  obtain ⟨h1, e1⟩ := List.getElem?_eq_some_iff.mp a
  obtain ⟨h2, e2⟩ := List.getElem?_eq_some_iff.mp b
  exact (List.getElem_inj hN).mp (e1.trans e2.symm)

/-- a name is stored; what changed -/
theorem store_ok2 {M : Model} {A : Around} {E : Value → Shared → Prop} {i : Nat} {x : Str} {v : V} {u : Value} {Q : Unit → Shared → Prop} (I : Inv X pins σ H s) (hN : X.N.Nodup) (hi : X.N[i]? = some x) (hx : Loc X.env.scope x) (r : RelV v u)
    (h : ∀ s', Inv X pins (σ.set i (some v)) H s' → (∃ a, Heap.SameBut a s.heap s'.heap ∧ (a = X.env.locals ∨ X.env.cells.lookup x = some a)) → Q () s') (hf : X.fn x = true ∨ X.env.scope.names.lookup x = some .local := by first | exact .inl rfl | exact .inr rfl | assumption) : wpAny M A (storeName X.env x u) Q E s := by
  obtain ⟨m, hn, hl⟩ := id I.loc
  have hcls : (X.env.scope.kind == .class || (X.env.scope.kind == .module && X.env.locals != X.env.globals)) = false := by rw [I.ok.kind]; rfl
  have hiσ : i < σ.length := by rw [I.len]; exact (List.getElem?_eq_some_iff.mp hi).1
  have cne := I.cne
  have tracked : ∀ {a : Addr} {h' : Heap}, (∃ o, s.heap.get? a = some o ∧ H a = none) → Heap.SameBut a s.heap h' → HOk X.prog X.w H h' := fun {a h'} ha hs b ob e => by
    obtain ⟨_, _, hfree⟩ := ha
    refine (I.hok b ob e).stay (fun c w' hc q => (hs.2 c ?_).trans q) (fun _ q => q) fun _ _ q => q
    rintro rfl
    rcases hc with rfl | hc
    · rw [hfree] at e; cases e
    · rw [hfree] at hc; cases hc
  rcases hx with hk | hk
  · refine wpAny_storeName_local hk hn (fun h' hn' hs => ?_) hcls
    obtain ⟨oL, _, _, hoL, _⟩ := id hn
    refine h _ ⟨I.ok, I.os, I.bare, ⟨fun b o e n hb hx => ?_, fun b o e n hb hx => ?_, I.base.free, fun b o e hx => ?_, I.base.tups, I.base.frzs, I.base.tbls⟩, ⟨_, hn', fun j y v' e1 e2 e3 => ?_⟩, fun y c e => ?_, I.free, I.freeC, fun p hp => ?_, tracked ⟨oL, hoL, I.free⟩ hs, by simpa using I.len⟩ ⟨_, hs, .inl rfl⟩
    · exact (hs.2 b (Nat.ne_of_lt (Nat.lt_of_lt_of_le (Heap.lt_size e) I.ok.above))).trans (I.base.keep b o e n hb hx)
    · obtain ⟨sl, e1⟩ := I.base.slot b o e n hb hx
      exact ⟨sl, (hs.2 b (Nat.ne_of_lt (Nat.lt_of_lt_of_le (Heap.lt_size e) I.ok.above))).trans e1⟩
    · obtain ⟨o', e1⟩ := I.base.there b o e hx
      exact ⟨o', (hs.2 b (Nat.ne_of_lt (Nat.lt_of_lt_of_le (Heap.lt_size e) I.ok.above))).trans e1⟩
    · by_cases hj : j = i
      · subst hj
        rw [hi] at e1; cases e1
        rw [List.getElem?_set_self hiσ] at e2
        cases e2
        exact ⟨u, r, .inl ⟨hk, by simp⟩⟩
      · rw [List.getElem?_set_ne (Ne.symm hj)] at e2
        obtain ⟨u', r', q⟩ := hl j y v' e1 e2 e3
        refine ⟨u', r', ?_⟩
        rcases q with ⟨k, e⟩ | ⟨k, c, e, z⟩
        · refine .inl ⟨k, ?_⟩
          have : y ≠ x := fun e => hj (nodup_ix hN e1 (e ▸ hi))
          simp [this, e]
        · exact .inr ⟨k, c, e, z.sameBut hs (cne y c e)⟩
    · obtain ⟨w', z⟩ := I.cell y c e
      exact ⟨w', z.sameBut hs (cne y c e)⟩
    · obtain ⟨e, n, ne, nf, d⟩ := I.pin p hp
      exact ⟨(hs.2 p.1 ne).trans e, n, ne, nf, d⟩
  · have hfn : X.fn x = true := by
      rcases hf with z | z
      · exact z
      · rw [z] at hk; cases hk
    obtain ⟨c, hc⟩ := I.ok.has x (.inl hk)
    obtain ⟨w', z⟩ := I.cell x c hc
    refine wpAny_storeName_cell I.ok.kind hk hc z (fun h' hc' hs => ?_)
    obtain ⟨oc, hoc, hocd⟩ := id z
    refine h { s with heap := h' } ⟨I.ok, I.os, I.bare, ⟨fun b o e n hb hx => ?_, fun b o e n hb hx => ?_, I.base.free, fun b o e hx => ?_, I.base.tups, I.base.frzs, I.base.tbls⟩, ⟨m, hn.sameBut hs (Ne.symm (cne x c hc)), fun j y v' e1 e2 e3 => ?_⟩, fun y c' e => ?_, I.free, I.freeC, fun p hp => ?_, tracked ⟨oc, hoc, I.freeC x c hc⟩ hs, by simpa using I.len⟩ ⟨c, hs, .inr hc⟩
    · exact (hs.2 b (Nat.ne_of_lt (Nat.lt_of_lt_of_le (Heap.lt_size e) (I.ok.cab x c hfn hc)))).trans (I.base.keep b o e n hb hx)
    · obtain ⟨sl, e1⟩ := I.base.slot b o e n hb hx
      exact ⟨sl, (hs.2 b (Nat.ne_of_lt (Nat.lt_of_lt_of_le (Heap.lt_size e) (I.ok.cab x c hfn hc)))).trans e1⟩
    · obtain ⟨o', e1⟩ := I.base.there b o e hx
      exact ⟨o', (hs.2 b (Nat.ne_of_lt (Nat.lt_of_lt_of_le (Heap.lt_size e) (I.ok.cab x c hfn hc)))).trans e1⟩
    · by_cases hj : j = i
      · subst hj
        rw [hi] at e1; cases e1
        rw [List.getElem?_set_self hiσ] at e2
        cases e2
        exact ⟨u, r, .inr ⟨.inl hk, c, hc, hc'⟩⟩
      · rw [List.getElem?_set_ne (Ne.symm hj)] at e2
        obtain ⟨u', r', q⟩ := hl j y v' e1 e2 e3
        refine ⟨u', r', ?_⟩
        rcases q with q | ⟨k, c', e, z'⟩
        · exact .inl q
        · refine .inr ⟨k, c', e, z'.sameBut hs ?_⟩
          rintro rfl
          exact hj (nodup_ix hN e1 (I.ok.inj _ _ _ e hc ▸ hi))
    · by_cases hcc : c' = c
      · subst hcc; exact ⟨_, hc'⟩
      · obtain ⟨w2, z2⟩ := I.cell y c' e
        exact ⟨w2, z2.sameBut hs hcc⟩
    · obtain ⟨e, n, ne, nf, d⟩ := I.pin p hp
      refine ⟨(hs.2 p.1 ?_).trans e, n, ne, nf, d⟩
      intro q
      rw [q, hoc] at e
      have q' : oc = p.2 := Option.some.inj e
      exact d w' (by rw [← q']; exact hocd)
theorem store_ok {M : Model} {A : Around} {E : Value → Shared → Prop} {i : Nat} {x : Str} {v : V} {u : Value} {Q : Unit → Shared → Prop} (I : Inv X pins σ H s) (hN : X.N.Nodup) (hi : X.N[i]? = some x) (hx : Loc X.env.scope x) (r : RelV v u)
    (h : ∀ s', Inv X pins (σ.set i (some v)) H s' → Q () s') (hf : X.fn x = true ∨ X.env.scope.names.lookup x = some .local := by first | exact .inl rfl | exact .inr rfl | assumption) : wpAny M A (storeName X.env x u) Q E s :=
  store_ok2 I hN hi hx r (fun s' I' _ => h s' I') hf
/-- behind a call or a block, the state as it is -/
theorem Inv.call' {s' : Shared} {ch : List Addr} (I : Inv X pins σ H s) (ho : s'.os = s.os) (u : Un (frs X.stack) ch H H' s.heap s'.heap) (hok : HOk X.prog X.w H' s'.heap) (hg : AllBare s'.gens)
    (hch : ∀ b ∈ ch, (b ∈ X.ex ∨ X.s₀.heap.objs.size ≤ b) ∧ b ≠ X.env.locals ∧ (∀ x c, X.env.cells.lookup x = some c → c ≠ b) ∧ ∀ p ∈ X.pn ++ pins, p.1 ≠ b) : Inv X pins σ H' s' := by
  obtain ⟨h', g', d', t', o'⟩ := s'
  have e : o' = s.os := ho
  subst e
  exact I.call (g' := g') (t' := t') (d' := d') u hok hg hch
end

/-! ### the judgements -/
/-- an exception: its class, its own dict's address (where it has one), the abstract heap behind it -/
abbrev XK := Value → Option Addr → Hp → Prop
abbrev St := List (Option V)
abbrev VK := V → Hp → Prop
/-- an expression's reading; a test's; an argument list's -/
abbrev TE := St → Hp → VK → Prop
abbrev TT := St → Hp → (Bool → Hp → Prop) → Prop
abbrev TA := St → Hp → (List V → Hp → Prop) → Prop
/-- what is wanted behind a statement -/
structure Ends where
  nx : St → Hp → Prop
  rt : VK
  bk : St → Hp → Prop := fun _ _ => False
  ct : St → Hp → Prop := fun _ _ => False
abbrev TS := Ends → St → Hp → Prop

def EP (X : Cx) (pins : List (Addr × Obj)) (σ : St) (Q : VK) (u : Value) (s' : Shared) : Prop := ∃ v H', Inv X pins σ H' s' ∧ RelV v u ∧ Q v H'
def TP (X : Cx) (pins : List (Addr × Obj)) (σ : St) (Q : Bool → Hp → Prop) (b : Bool) (s' : Shared) : Prop := ∃ H', Inv X pins σ H' s' ∧ Q b H'
def AP (X : Cx) (pins : List (Addr × Obj)) (σ : St) (Q : List V → Hp → Prop) (us : List Value) (s' : Shared) : Prop := ∃ vs H', Inv X pins σ H' s' ∧ Vals vs us ∧ Q vs H'
def SP (X : Cx) (pins : List (Addr × Obj)) (D : Ends) (f : Flow) (s' : Shared) : Prop :=
  match f with
  | .next => ∃ σ' H', Inv X pins σ' H' s' ∧ D.nx σ' H'
  | .brk => ∃ σ' H', Inv X pins σ' H' s' ∧ D.bk σ' H'
  | .cont => ∃ σ' H', Inv X pins σ' H' s' ∧ D.ct σ' H'
  | .ret u => ∃ v σ' H', Inv X pins σ' H' s' ∧ RelV v u ∧ D.rt v H'

def PE (X : Cx) (e : Expr) (t : TE) : Prop :=
  ∀ (pins : List (Addr × Obj)) (s : Shared) (σ : St) (H : Hp) (Q : VK), Inv X pins σ H s → t σ H Q → wpAny (model X.prog X.w) X.A (eval e X.env) (EP X pins σ Q) X.xe s
def PT (X : Cx) (e : Expr) (t : TT) : Prop :=
  ∀ (pins : List (Addr × Obj)) (s : Shared) (σ : St) (H : Hp) (Q : Bool → Hp → Prop), Inv X pins σ H s → t σ H Q → wpAny (model X.prog X.w) X.A (isTrue e X.env (eval e X.env)) (TP X pins σ Q) X.xe s
/-- a test whatever its 'whole' is (and, or) -/
def PW (X : Cx) (e : Expr) (t : TT) : Prop :=
  ∀ (whole : Sem Value) (pins : List (Addr × Obj)) (s : Shared) (σ : St) (H : Hp) (Q : Bool → Hp → Prop), Inv X pins σ H s → t σ H Q → wpAny (model X.prog X.w) X.A (isTrue e X.env whole) (TP X pins σ Q) X.xe s
theorem PW.pt {X : Cx} {e : Expr} {t : TT} (h : PW X e t) : PT X e t := h _
/-- an argument list (no star), from the left -/
def PA (X : Cx) (es : List Expr) (t : TA) : Prop :=
  ∀ (pos : Pos) (pins : List (Addr × Obj)) (s : Shared) (σ : St) (H : Hp) (Q : List V → Hp → Prop), Inv X pins σ H s → t σ H Q → wpAny (model X.prog X.w) X.A (spliced (backTo pos (starEach es X.env))) (AP X pins σ Q) X.xe s
def PS (X : Cx) (st : Stmt) (t : TS) : Prop :=
  ∀ (pins : List (Addr × Obj)) (s : Shared) (σ : St) (H : Hp) (D : Ends), Inv X pins σ H s → t D σ H → wpAny (model X.prog X.w) X.A (exec st X.env) (SP X pins D) X.xe s
def PSs (X : Cx) (st : List Stmt) (t : TS) : Prop :=
  ∀ (pins : List (Addr × Obj)) (s : Shared) (σ : St) (H : Hp) (D : Ends), Inv X pins σ H s → t D σ H → wpAny (model X.prog X.w) X.A (execs st X.env) (SP X pins D) X.xe s
/-- weaken the end -/
theorem thn {α : Type} {t : Sem α} {Q Q' : α → Shared → Prop} {M : Model} {A : Around} {E : Value → Shared → Prop} {s : Shared} (h : wpAny M A t Q E s) (hQ : ∀ a s, Q a s → Q' a s) : wpAny M A t Q' E s := wpAny_mono h hQ fun _ _ x => x
end L2

namespace L2
open PySem PySem.Spec PyProof.Rows
section
variable {X : Cx}

/-- two expressions in a row -/
theorem bin {a b : Expr} {ta tb : TE} (ha : PE X a ta) (hb : PE X b tb) {pins : List (Addr × Obj)} {s : Shared} {σ : St} {H : Hp} {R : V → V → Hp → Prop} (I : Inv X pins σ H s) (h : ta σ H fun x H1 => tb σ H1 fun y H2 => R x y H2)
    {α : Type} {Q : α → Shared → Prop} {f : Value → Value → Sem α}
    (hf : ∀ v u s2 x y H2, Inv X pins σ H2 s2 → RelV x v → RelV y u → R x y H2 → wpAny (model X.prog X.w) X.A (f v u) Q X.xe s2) :
    wpAny (model X.prog X.w) X.A (eval a X.env) (fun v s₁ => wpAny (model X.prog X.w) X.A (eval b X.env) (fun u s₂ => wpAny (model X.prog X.w) X.A (f v u) Q X.xe s₂) X.xe s₁) X.xe s := by
  refine thn (ha pins s σ H _ I h) fun v s1 ⟨x, H1, I1, r1, q1⟩ => ?_
  refine thn (hb pins s1 σ H1 _ I1 q1) fun u s2 ⟨y, H2, I2, r2, q2⟩ => ?_
  exact hf v u s2 x y H2 I2 r1 r2 q2

/-! ### names and constants -/
def tVar (i : Nat) : TE := fun σ H Q => ∃ v, σ[i]? = some (some v) ∧ Q v H
def tC (v : V) : TE := fun _ H Q => Q v H
theorem pe_var {i : Nat} {x : Str} {pos : Pos} (hN : X.N[i]? = some x) (hv : Vis X.env.scope x) (hd : (x == ("__debug__" : Str)) = false := by decide) (hcd : (x == ("__classdict__" : Str)) = false := by decide) : PE X (.Name x pos) (tVar i) := by
  intro pins s σ H Q I h
  obtain ⟨v, e, h⟩ := h
  obtain ⟨m, hn, hl⟩ := I.loc
  obtain ⟨u, r, l⟩ := hl i x v hN e hv
  have fin : EP X pins σ Q u s := ⟨v, H, I, r, h⟩
  rcases l with ⟨hk, hm⟩ | ⟨hk, c, hc, hcell⟩
  · exact wpAny_Name (wpAny_loadName_local I.ok.kind hk hn hm fin) hd
  · rcases hk with hk | hk
    · exact wpAny_Name (wpAny_loadName_cell I.ok.kind hk hc hcell fin) hd
    · exact wpAny_Name (wpAny_loadName_free I.ok.kind hk hc hcell fin hcd) hd
theorem pe_int {i j pos} : PE X (.Constant (.int i) j pos) (tC (.int i)) := fun _ _ _ H _ I h => wpAny_Constant_int ⟨.int i, H, I.tok _, ⟨_, rfl⟩, h⟩
theorem pe_bl {b j pos} : PE X (.Constant (.bool b) j pos) (tC (.bl b)) := fun _ _ _ H _ I h => Constant_bool ⟨.bl b, H, I, rfl, h⟩
theorem pe_non {j pos} : PE X (.Constant .none j pos) (tC .non) := fun _ _ _ H _ I h => Constant_none ⟨.non, H, I, rfl, h⟩
theorem pe_str {x j pos} : PE X (.Constant (.str x) j pos) (tC (.str x)) := fun _ _ _ H _ I h => Calls.Constant_str ⟨.str x, H, I.tok _, ⟨_, rfl⟩, h⟩

/-- a global name of the def -/
def Gl (X : Cx) (x : Str) : Prop := X.env.kindOf x = some .globalImplicit
theorem ld_glob {E : Value → Shared → Prop} {pins : List (Addr × Obj)} {s : Shared} {σ : St} {H : Hp} {x : Str} {u : Value} {pos : Pos} {Q : Value → Shared → Prop} (I : Inv X pins σ H s) (hg : Gl X x) (hm : X.mg x = some u) (h : Q u s)
    (hd : (x == ("__debug__" : Str)) = false := by decide) : wpAny (model X.prog X.w) X.A (eval (.Name x pos) X.env) Q E s :=
  Calls.Name_function_global I.ok.kind hg (Calls.loadGlobal_global (by rw [I.ok.glob]; exact I.mod.glob.keeps I.bk) hm h) hd
theorem ld_blt {E : Value → Shared → Prop} {pins : List (Addr × Obj)} {s : Shared} {σ : St} {H : Hp} {x : Str} {u : Value} {pos : Pos} {Q : Value → Shared → Prop} (I : Inv X pins σ H s) (hg : Gl X x) (hm : X.mg x = none) (hv : bootBuiltins x = some u) (h : Q u s)
    (hn : x ≠ "__name__" := by decide) (hd : (x == ("__debug__" : Str)) = false := by decide) : wpAny (model X.prog X.w) X.A (eval (.Name x pos) X.env) Q E s := by
  obtain ⟨mb, h1, h2⟩ := I.mod.blt
  exact Calls.Name_function_global I.ok.kind hg (Calls.loadGlobal_builtin (by rw [I.ok.glob]; exact I.mod.glob.keeps I.bk) hm (by rw [I.ok.blt]; exact h1.keeps I.bk) ((h2 x hn).trans hv) h) hd
/-- a module's constant, a class, a function, as a value -/
theorem pe_glob {x : Str} {v : V} {u : Value} {pos : Pos} (hg : Gl X x) (hm : X.mg x = some u) (r : RelV v u) (hd : (x == ("__debug__" : Str)) = false := by decide) : PE X (.Name x pos) (tC v) :=
  fun _ _ _ H _ I h => ld_glob I hg hm ⟨v, H, I, r, h⟩ hd
theorem pe_bltn {x : Str} {v : V} {u : Value} {pos : Pos} (hg : Gl X x) (hm : X.mg x = none) (hv : bootBuiltins x = some u) (r : RelV v u) (hn : x ≠ "__name__" := by decide) (hd : (x == ("__debug__" : Str)) = false := by decide) : PE X (.Name x pos) (tC v) :=
  fun _ _ _ H _ I h => ld_blt I hg hm hv ⟨v, H, I, r, h⟩ hn hd

/-! ### arithmetic -/
/-- two ints -/
def t2I (ta tb : TE) (k : Int → Int → Hp → Prop) : St → Hp → Prop := fun σ H => ta σ H fun x H1 => tb σ H1 fun y H2 => ∃ i j, x = .int i ∧ y = .int j ∧ k i j H2
def tAdd (ta tb : TE) : TE := fun σ H Q => t2I ta tb (fun i j H2 => Q (.int (i + j)) H2) σ H
def tSub (ta tb : TE) : TE := fun σ H Q => t2I ta tb (fun i j H2 => Q (.int (i - j)) H2) σ H
/-- the left factor below 2^64 -/
def tMul (ta tb : TE) : TE := fun σ H Q => t2I ta tb (fun i j H2 => (-(2 ^ 64) < i ∧ i < 2 ^ 64) ∧ Q (.int (i * j)) H2) σ H
variable {a b : Expr} {ta tb : TE} {pos : Pos}
theorem pe_add (ha : PE X a ta) (hb : PE X b tb) : PE X (.BinOp a .Add b pos) (tAdd ta tb) := by
  intro pins s σ H Q I h
  refine wpAny_BinOp (bin ha hb I h fun v u s2 x y H2 I2 rx ry q => ?_)
  obtain ⟨i, j, rfl, rfl, q⟩ := q
  obtain ⟨t, rfl⟩ := rx
  obtain ⟨t', rfl⟩ := ry
  exact add_int ⟨.int _, H2, I2.tok _, ⟨_, rfl⟩, q⟩
theorem pe_sub (ha : PE X a ta) (hb : PE X b tb) : PE X (.BinOp a .Sub b pos) (tSub ta tb) := by
  intro pins s σ H Q I h
  refine wpAny_BinOp (bin ha hb I h fun v u s2 x y H2 I2 rx ry q => ?_)
  obtain ⟨i, j, rfl, rfl, q⟩ := q
  obtain ⟨t, rfl⟩ := rx
  obtain ⟨t', rfl⟩ := ry
  exact sub_int ⟨.int _, H2, I2.tok _, ⟨_, rfl⟩, q⟩
theorem pe_mul (ha : PE X a ta) (hb : PE X b tb) : PE X (.BinOp a .Mult b pos) (tMul ta tb) := by
  intro pins s σ H Q I h
  refine wpAny_BinOp (bin ha hb I h fun v u s2 x y H2 I2 rx ry q => ?_)
  obtain ⟨i, j, rfl, rfl, ⟨q1, q2⟩, q⟩ := q
  obtain ⟨t, rfl⟩ := rx
  obtain ⟨t', rfl⟩ := ry
  exact mul_int ⟨.int _, H2, I2.tok _, ⟨_, rfl⟩, q⟩ (.of_left (intBits_le_64 q1 q2))

/-! ### comparisons -/
def PC (X : Cx) (op : CmpOp) (a b : Expr) (t : TE) : Prop :=
  ∀ (pins : List (Addr × Obj)) (s : Shared) (σ : St) (H : Hp) (Q : VK), Inv X pins σ H s → t σ H Q →
    wpAny (model X.prog X.w) X.A (eval a X.env) (fun v s₁ => wpAny (model X.prog X.w) X.A (eval b X.env) (fun u s₂ => wpAny (model X.prog X.w) X.A (compareOp op v u) (EP X pins σ Q) X.xe s₂) X.xe s₁) X.xe s
theorem nobehind (b : Expr) {op : CmpOp} (h : op ≠ .In) (h2 : op ≠ .NotIn) : behindInMarks op b = false := by
  have e1 : (op == CmpOp.In) = false := by cases op <;> first | rfl | exact absurd rfl h
  have e2 : (op == CmpOp.NotIn) = false := by cases op <;> first | rfl | exact absurd rfl h2
  cases b <;> simp [behindInMarks, e1, e2]
def tCmp (p : Int → Int → Bool) (ta tb : TE) : TE := fun σ H Q => t2I ta tb (fun i j H2 => Q (.bl (p i j)) H2) σ H
abbrev tLt : TE → TE → TE := tCmp fun i j => decide (i < j)
abbrev tLe : TE → TE → TE := tCmp fun i j => decide (i ≤ j)
abbrev tGt : TE → TE → TE := tCmp fun i j => decide (j < i)
abbrev tGe : TE → TE → TE := tCmp fun i j => decide (j ≤ i)
abbrev tEqI : TE → TE → TE := tCmp fun i j => decide (i = j)
abbrev tNeI : TE → TE → TE := tCmp fun i j => !decide (i = j)
/-- a comparison of two ints, by its rule -/
theorem pc_int {op : CmpOp} {p : Int → Int → Bool} (ha : PE X a ta) (hb : PE X b tb)
    (rule : ∀ (i j : Int) (t u : Tok) (Q : Value → Shared → Prop) (s : Shared), Q (.bool (p i j)) s → wpAny (model X.prog X.w) X.A (compareOp op (.int i t) (.int j u)) Q X.xe s) : PC X op a b (tCmp p ta tb) := by
  intro pins s σ H Q I h
  refine bin ha hb I h fun v u s2 x y H2 I2 rx ry q => ?_
  obtain ⟨i, j, rfl, rfl, q⟩ := q
  obtain ⟨t, rfl⟩ := rx
  obtain ⟨t', rfl⟩ := ry
  exact rule i j t t' _ s2 ⟨.bl _, H2, I2, rfl, q⟩
theorem pc_lt (ha : PE X a ta) (hb : PE X b tb) : PC X .Lt a b (tLt ta tb) := pc_int ha hb fun _ _ _ _ _ _ h => lt_int h
theorem pc_le (ha : PE X a ta) (hb : PE X b tb) : PC X .LtE a b (tLe ta tb) := pc_int ha hb fun _ _ _ _ _ _ h => le_int h
theorem pc_gt (ha : PE X a ta) (hb : PE X b tb) : PC X .Gt a b (tGt ta tb) := pc_int ha hb fun _ _ _ _ _ _ h => gt_int h
theorem pc_ge (ha : PE X a ta) (hb : PE X b tb) : PC X .GtE a b (tGe ta tb) := pc_int ha hb fun _ _ _ _ _ _ h => ge_int h
theorem pc_eqI (ha : PE X a ta) (hb : PE X b tb) : PC X .Eq a b (tEqI ta tb) := pc_int ha hb fun _ _ _ _ _ _ h => eq_int (by rw [Bool.beq_eq_decide_eq]; exact h)
theorem pc_neI (ha : PE X a ta) (hb : PE X b tb) : PC X .NotEq a b (tNeI ta tb) := pc_int ha hb fun _ _ _ _ _ _ h => ne_int (by rw [bne, Bool.beq_eq_decide_eq]; exact h)
/-- is None -/
def tIsN (ta : TE) : TE := fun σ H Q => ta σ H fun x H1 => Q (.bl (decide (x = .non))) H1
def tNotN (ta : TE) : TE := fun σ H Q => ta σ H fun x H1 => Q (.bl (!decide (x = .non))) H1
theorem RelV.none_iff {x : V} {v : Value} (r : RelV x v) : (v == Value.none) = decide (x = .non) := by
  cases x with
  | non => cases r; rfl
  | bl _ => cases r; rfl
  | int _ => obtain ⟨t, rfl⟩ := r; rfl
  | str _ => obtain ⟨t, rfl⟩ := r; rfl
  | byt _ => obtain ⟨t, rfl⟩ := r; rfl
  | flt _ => obtain ⟨t, rfl⟩ := r; rfl
  | ref _ => cases r; rfl
  | ty _ => cases r; rfl
theorem pc_isN {j pos'} (ha : PE X a ta) : PC X .Is a (.Constant .none j pos') (tIsN ta) := by
  intro pins s σ H Q I h
  refine thn (ha pins s σ H _ I h) fun v s1 ⟨x, H1, I1, r1, q1⟩ => ?_
  exact Constant_none (is_none_gen ⟨.bl _, H1, I1, by rw [r1.none_iff]; rfl, q1⟩)
theorem pc_notN {j pos'} (ha : PE X a ta) : PC X .IsNot a (.Constant .none j pos') (tNotN ta) := by
  intro pins s σ H Q I h
  refine thn (ha pins s σ H _ I h) fun v s1 ⟨x, H1, I1, r1, q1⟩ => ?_
  exact Constant_none (isnot_none_gen ⟨.bl _, H1, I1, by rw [r1.none_iff]; rfl, q1⟩)
/-- a comparison as a value, as a test -/
def tB (t : TE) : TT := fun σ H Q => t σ H fun x H1 => ∃ c, x = .bl c ∧ Q c H1
theorem pe_cmp {op : CmpOp} {t : TE} (h : PC X op a b t) (h1 : behindInMarks op b = false := by first | exact nobehind _ (by decide) (by decide) | rfl) : PE X (.Compare a [op] [b] pos) t := fun pins s σ H Q I hw => wpAny_Compare1 (h pins s σ H Q I hw) h1
theorem pt_cmp {op : CmpOp} {t : TE} (h : PC X op a b t) (h1 : behindInMarks op b = false := by first | exact nobehind _ (by decide) (by decide) | rfl) : PT X (.Compare a [op] [b] pos) (tB t) := by
  intro pins s σ H Q I hw
  refine wpAny_isTrue_Compare1 (thn (h pins s σ H _ I hw) fun v s1 h1 => thn h1 fun u s2 h2 => thn h2 fun c s3 ⟨x, H1, I1, r1, q1⟩ => ?_) h1
  obtain ⟨d, rfl, q⟩ := q1
  cases r1
  exact wpAny_truthy_bool ⟨H1, I1, q⟩
/-- an expression whose value is a bool, as a test -/
theorem pt_val {e : Expr} {t : TE} (h : PE X e t) (he : ∀ whole, isTrue e X.env whole = (do let v ← whole; standAt e.pos; holding [v] (truthy v)) := by intro _; rfl) : PT X e (tB t) := by
  intro pins s σ H Q I hw
  refine isTrue_plain (thn (h pins s σ H _ I hw) fun v s1 ⟨x, H1, I1, r1, q1⟩ => ?_) (he _)
  obtain ⟨d, rfl, q⟩ := q1
  cases r1
  exact wpAny_truthy_bool ⟨H1, I1, q⟩

/-! ### and, or, not -/
variable {tA tB' : TT} {rest : List Expr}
def tAnd (t u : TT) : TT := fun σ H Q => t σ H fun c H1 => if c = true then u σ H1 Q else Q false H1
def tOr (t u : TT) : TT := fun σ H Q => t σ H fun c H1 => if c = true then Q true H1 else u σ H1 Q
def tNot (t : TT) : TT := fun σ H Q => t σ H fun c H1 => Q (!c) H1
theorem pw_and1 (ha : PT X a tA) : PW X (.BoolOp .And [a] pos) tA := by
  intro wh pins s σ H Q I h
  refine isTrue_and (thn (ha pins s σ H Q I h) fun c s1 e => ?_)
  cases c with
  | true => exact isTrue_and_nil e
  | false => exact e
theorem pw_or1 (ha : PT X a tA) : PW X (.BoolOp .Or [a] pos) tA := by
  intro wh pins s σ H Q I h
  refine isTrue_or (thn (ha pins s σ H Q I h) fun c s1 e => ?_)
  cases c with
  | false => exact isTrue_or_nil e
  | true => exact e
theorem pw_and (ha : PT X a tA) (hb : PW X (.BoolOp .And (b :: rest) pos) tB') : PW X (.BoolOp .And (a :: b :: rest) pos) (tAnd tA tB') := by
  intro wh pins s σ H Q I h
  refine isTrue_and (thn (ha pins s σ H _ I h) fun c s1 ⟨H1, I1, q1⟩ => ?_)
  cases c with
  | true => exact hb wh pins s1 σ H1 Q I1 q1
  | false => exact ⟨H1, I1, q1⟩
theorem pw_or (ha : PT X a tA) (hb : PW X (.BoolOp .Or (b :: rest) pos) tB') : PW X (.BoolOp .Or (a :: b :: rest) pos) (tOr tA tB') := by
  intro wh pins s σ H Q I h
  refine isTrue_or (thn (ha pins s σ H _ I h) fun c s1 ⟨H1, I1, q1⟩ => ?_)
  cases c with
  | true => exact ⟨H1, I1, q1⟩
  | false => exact hb wh pins s1 σ H1 Q I1 q1
theorem pt_not (ha : PT X a tA) : PT X (.UnaryOp .Not a pos) (tNot tA) := by
  intro pins s σ H Q I h
  exact isTrue_not (ha pins s σ H (fun c H1 => Q (!c) H1) I h)
/-- .. as values (bools) -/
def tAndV (ta tb : TE) : TE := fun σ H Q => ta σ H fun x H1 => ∃ c, x = .bl c ∧ if c = true then tb σ H1 Q else Q (.bl false) H1
def tOrV (ta tb : TE) : TE := fun σ H Q => ta σ H fun x H1 => ∃ c, x = .bl c ∧ if c = true then Q (.bl true) H1 else tb σ H1 Q
def tNotV (ta : TE) : TE := fun σ H Q => ta σ H fun x H1 => ∃ c, x = .bl c ∧ Q (.bl (!c)) H1
theorem pe_one {op} {t : TE} (h : PE X a t) : PE X (.BoolOp op [a] pos) t := fun pins s σ H Q I hw => BoolOp_one (h pins s σ H Q I hw)
theorem pe_and (ha : PE X a ta) (hb : PE X (.BoolOp .And (b :: rest) pos) tb) : PE X (.BoolOp .And (a :: b :: rest) pos) (tAndV ta tb) := by
  intro pins s σ H Q I h
  refine BoolOp_and (thn (ha pins s σ H _ I h) fun v s1 ⟨x, H1, I1, r1, q1⟩ => ?_)
  obtain ⟨c, rfl, q1⟩ := q1
  cases r1
  refine wpAny_truthy_bool ?_
  cases c with
  | true => exact hb pins s1 σ H1 Q I1 q1
  | false => exact ⟨.bl false, H1, I1, rfl, q1⟩
theorem pe_or (ha : PE X a ta) (hb : PE X (.BoolOp .Or (b :: rest) pos) tb) : PE X (.BoolOp .Or (a :: b :: rest) pos) (tOrV ta tb) := by
  intro pins s σ H Q I h
  refine BoolOp_or (thn (ha pins s σ H _ I h) fun v s1 ⟨x, H1, I1, r1, q1⟩ => ?_)
  obtain ⟨c, rfl, q1⟩ := q1
  cases r1
  refine wpAny_truthy_bool ?_
  cases c with
  | false => exact hb pins s1 σ H1 Q I1 q1
  | true => exact ⟨.bl true, H1, I1, rfl, q1⟩
theorem pe_not (ha : PE X a ta) : PE X (.UnaryOp .Not a pos) (tNotV ta) := by
  intro pins s σ H Q I h
  refine UnaryOp_ (thn (ha pins s σ H _ I h) fun v s1 ⟨x, H1, I1, r1, q1⟩ => ?_)
  obtain ⟨c, rfl, q1⟩ := q1
  cases r1
  exact not_of (wpAny_truthy_bool ⟨.bl (!c), H1, I1, rfl, q1⟩)
/-- a if t else b -/
def tIf (t : TT) (ta tb : TE) : TE := fun σ H Q => t σ H fun c H1 => if c = true then ta σ H1 Q else tb σ H1 Q
theorem pe_ifExp {c : Expr} (hc : PT X c tA) (ha : PE X a ta) (hb : PE X b tb) : PE X (.IfExp c a b pos) (tIf tA ta tb) := by
  intro pins s σ H Q I h
  refine wpAny_IfExp (thn (hc pins s σ H _ I h) fun d s1 ⟨H1, I1, q1⟩ => ?_)
  cases d with
  | true => exact ha pins s1 σ H1 Q I1 q1
  | false => exact hb pins s1 σ H1 Q I1 q1
end
end L2

namespace L2
open PySem PySem.Spec PyProof.Rows

/-! ### a list, a tuple that is read: tracked, frozen, or an object of the module -/
def SqL (K : PySem.W.Frag) (H : Hp) (a : Addr) (xs : List V) : Prop :=
  Rd H a (.lst xs) ∨
    ∃ (o : Obj) (its : Array Value) (n : Nat), K.lookup a = some o ∧ o.cls = .type "list" ∧ o.dict = none ∧ o.data = .seq its n ∧ its.size ≤ sizeLine ∧ Vals xs its.toList
def SqT (K : PySem.W.Frag) (H : Hp) (a : Addr) (xs : List V) : Prop :=
  Rd H a (.tup xs) ∨
    ∃ (o : Obj) (its : Array Value) (n : Nat), K.lookup a = some o ∧ o.cls = .type "tuple" ∧ o.data = .seq its n ∧ its.size ≤ sizeLine ∧ Vals xs its.toList
def absV : Value → Option V
  | .none => some .non
  | .bool b => some (.bl b)
  | .int i _ => some (.int i)
  | .str x _ => some (.str x)
  | .bytes b _ => some (.byt b)
  | .float b _ => some (.flt b)
  | .ref a => some (.ref a)
  | .type n => some (.ty n)
  | _ => none
theorem RelV.abs {x : V} {u : Value} (r : RelV x u) : absV u = some x := by
  cases x with
  | non => cases r; rfl
  | bl _ => cases r; rfl
  | int _ => obtain ⟨t, rfl⟩ := r; rfl
  | str _ => obtain ⟨t, rfl⟩ := r; rfl
  | byt _ => obtain ⟨t, rfl⟩ := r; rfl
  | flt _ => obtain ⟨t, rfl⟩ := r; rfl
  | ref _ => cases r; rfl
  | ty _ => cases r; rfl
theorem RelV.inj {x y : V} {u : Value} (r : RelV x u) (q : RelV y u) : x = y := Option.some.inj (r.abs.symm.trans q.abs)
theorem Vals.inj : ∀ {xs ys : List V} {us : List Value}, Vals xs us → Vals ys us → xs = ys
  | _, _, _, .nil, .nil => rfl
  | _, _, _, .cons r t, .cons r' t' => by rw [r.inj r', Vals.inj t t']
section
variable {X : Cx} {pins : List (Addr × Obj)} {σ : St} {H : Hp} {s : Shared} {a : Addr} {xs ys : List V}
theorem SqL.of {K : PySem.W.Frag} (h : H a = some (.lst xs)) : SqL K H a xs := .inl (.inl h)
theorem SqT.of {K : PySem.W.Frag} (h : H a = some (.tup xs)) : SqT K H a xs := .inl (.inl h)
theorem Inv.list (I : Inv X pins σ H s) (h : SqL X.K H a xs) : ∃ its : List Value, Vals xs its ∧ PlainL s.heap a its.toArray ∧ xs.length ≤ sizeLine := by
  rcases h with h | ⟨o, its, n, hk, hc, hd, hs, hz, r⟩
  · obtain ⟨z, its, n, r, e⟩ := h.ok I.hok
    exact ⟨its, r, ⟨_, n, e, rfl, rfl, rfl⟩, z⟩
  · refine ⟨its.toList, r, ⟨o, n, I.kIn a o hk, hc, hd, by simpa using hs⟩, ?_⟩
    have e := r.length
    simp only [Array.length_toList] at e
    omega
theorem Inv.tuple (I : Inv X pins σ H s) (h : SqT X.K H a xs) : ∃ its : List Value, Vals xs its ∧ IsTup s.heap a its.toArray ∧ xs.length ≤ sizeLine := by
  rcases h with h | ⟨o, its, n, hk, hc, hs, hz, r⟩
  · obtain ⟨z, its, r, p⟩ := h.ok I.hok
    exact ⟨its, r, p, z⟩
  · refine ⟨its.toList, r, ⟨o, I.kIn a o hk, hc, n, by simpa using hs⟩, ?_⟩
    have e := r.length
    simp only [Array.length_toList] at e
    omega
theorem Inv.list_inj (I : Inv X pins σ H s) (h : SqL X.K H a xs) (h' : SqL X.K H a ys) : xs = ys := by
  obtain ⟨its, r, ⟨o, n, e, _, _, d⟩, _⟩ := I.list h
  obtain ⟨its', r', ⟨o', n', e', _, _, d'⟩, _⟩ := I.list h'
  rw [e] at e'; cases e'
  rw [d] at d'
  injection d' with d1 _
  have : its = its' := by simpa using congrArg Array.toList d1
  subst this
  exact r.inj r'
theorem Inv.tuple_inj (I : Inv X pins σ H s) (h : SqT X.K H a xs) (h' : SqT X.K H a ys) : xs = ys := by
  obtain ⟨its, r, ⟨o, e, _, n, d⟩, _⟩ := I.tuple h
  obtain ⟨its', r', ⟨o', e', _, n', d'⟩, _⟩ := I.tuple h'
  rw [e] at e'; cases e'
  rw [d] at d'
  injection d' with d1 _
  have : its = its' := by simpa using congrArg Array.toList d1
  subst this
  exact r.inj r'
end

/-! ### another wish about exceptions -/
abbrev Cx.wish (X : Cx) (E : Value → Shared → Prop) : Cx := { X with xe := E }
/-- no exception leaves -/
abbrev Cx.nox (X : Cx) : Cx := X.wish fun _ _ => False
theorem Cx.Ok.wish {X : Cx} (ok : X.Ok) (E : Value → Shared → Prop) : (X.wish E).Ok :=
  ⟨ok.mod, ok.kind, ok.glob, ok.blt, ok.above, ok.inj, ok.has, ok.cab, ok.hd, ok.frames, ok.stk, ok.exf, ok.bs, ok.bsz, ok.noex, ok.exfs, ok.funs, ok.frf⟩
theorem Cx.Ok.unwish {X : Cx} {E : Value → Shared → Prop} (ok : (X.wish E).Ok) : X.Ok :=
  ⟨ok.mod, ok.kind, ok.glob, ok.blt, ok.above, ok.inj, ok.has, ok.cab, ok.hd, ok.frames, ok.stk, ok.exf, ok.bs, ok.bsz, ok.noex, ok.exfs, ok.funs, ok.frf⟩
section
variable {X : Cx} {pins : List (Addr × Obj)} {σ : St} {H : Hp} {s : Shared} {E : Value → Shared → Prop}
theorem Inv.wish (I : Inv X pins σ H s) (E : Value → Shared → Prop) : Inv (X.wish E) pins σ H s := ⟨I.ok.wish E, I.os, I.bare, I.base, I.loc, I.cell, I.free, I.freeC, I.pin, I.hok, I.len⟩
theorem Inv.unwish (I : Inv (X.wish E) pins σ H s) : Inv X pins σ H s := ⟨I.ok.unwish, I.os, I.bare, I.base, I.loc, I.cell, I.free, I.freeC, I.pin, I.hok, I.len⟩
theorem SP.unwish {D : Ends} {f : Flow} {s' : Shared} (h : SP (X.wish E) pins D f s') : SP X pins D f s' := by
  cases f with
  | next => obtain ⟨σ', H', I, q⟩ := h; exact ⟨σ', H', I.unwish, q⟩
  | brk => obtain ⟨σ', H', I, q⟩ := h; exact ⟨σ', H', I.unwish, q⟩
  | cont => obtain ⟨σ', H', I, q⟩ := h; exact ⟨σ', H', I.unwish, q⟩
  | ret u => obtain ⟨v, σ', H', I, r, q⟩ := h; exact ⟨v, σ', H', I.unwish, r, q⟩
theorem PE.nox {e : Expr} {t : TE} (h : PE X.nox e t) : PE X e t := fun pins s σ H Q I hw =>
  wpAny_mono (h pins s σ H Q (I.wish _) hw) (fun _ _ ⟨v, H', I', r, q⟩ => ⟨v, H', I'.unwish, r, q⟩) fun _ _ z => False.elim z
theorem PT.nox {e : Expr} {t : TT} (h : PT X.nox e t) : PT X e t := fun pins s σ H Q I hw =>
  wpAny_mono (h pins s σ H Q (I.wish _) hw) (fun _ _ ⟨H', I', q⟩ => ⟨H', I'.unwish, q⟩) fun _ _ z => False.elim z
theorem PSs.nox {st : List Stmt} {t : TS} (h : PSs X.nox st t) : PSs X st t := fun pins s σ H D I hw =>
  wpAny_mono (h pins s σ H D (I.wish _) hw) (fun _ _ q => q.unwish) fun _ _ z => False.elim z
end

/-! ### blocks and small statements -/
section
variable {X : Cx} {st : Stmt} {rest : List Stmt} {t u : TS} {e : Expr} {te : TE} {pos : Pos}
def tNext : TS := fun D σ H => D.nx σ H
def tSeq (t u : TS) : TS := fun D σ H => t { D with nx := u D } σ H
theorem pss_nil : PSs X [] tNext := fun _ _ σ H _ I h => wpAny_execs_nil ⟨σ, H, I, h⟩
theorem pss_cons (h1 : PS X st t) (h2 : PSs X rest u) : PSs X (st :: rest) (tSeq t u) := by
  intro pins s σ H D I h
  refine wpAny_execs_cons (thn (h1 pins s σ H { D with nx := u D } I h) fun f s1 q => ?_)
  cases f with
  | next =>
    obtain ⟨σ', H', I', q⟩ := q
    exact h2 pins s1 σ' H' D I' q
  | ret v => exact q
  | brk => exact q
  | cont => exact q
theorem pss_one (h1 : PS X st t) : PSs X [st] t := by
  intro pins s σ H D I h
  refine wpAny_execs_cons (thn (h1 pins s σ H D I h) fun f s1 q => ?_)
  cases f with
  | next => exact wpAny_execs_nil q
  | ret v => exact q
  | brk => exact q
  | cont => exact q
def tBreak : TS := fun D σ H => D.bk σ H
def tCont : TS := fun D σ H => D.ct σ H
theorem ps_pass : PS X (.Pass pos) tNext := fun _ _ σ H _ I h => wpAny_Pass ⟨σ, H, I, h⟩
theorem ps_break : PS X (.Break pos) tBreak := fun _ _ σ H _ I h => wpAny_Break ⟨σ, H, I, h⟩
theorem ps_continue : PS X (.Continue pos) tCont := fun _ _ σ H _ I h => wpAny_Continue ⟨σ, H, I, h⟩
/-- in a def's body nothing is shown -/
theorem Inv.quiet {pins : List (Addr × Obj)} {σ : St} {H : Hp} {s : Shared} (I : Inv X pins σ H s) : interactive X.env = false := by simp [interactive, I.ok.kind]
/-- a docstring -/
theorem ps_doc {x j pos pos'} : PS X (.Expr (.Constant (.str x) j pos) pos') tNext := fun _ s σ H _ I h => wpAny_Expr (Calls.Constant_str (show SP X _ _ .next { s with toks := s.toks + 1 } from ⟨σ, H, I.tok _, h⟩)) I.quiet
/-- an expression whose value is dropped -/
def tDrop (te : TE) : TS := fun D σ H => te σ H fun _ H1 => D.nx σ H1
theorem ps_expr (he : PE X e te) (hs : swapsWith e none pos.line X.env = pure false := by rfl) : PS X (.Expr e pos) (tDrop te) := by
  intro pins s σ H D I h
  exact wpAny_Expr_any (thn (he pins s σ H _ I h) fun v s1 ⟨x, H1, I1, r1, q1⟩ => ⟨σ, H1, I1, q1⟩) I.quiet hs
def tRet (te : TE) : TS := fun D σ H => te σ H D.rt
theorem ps_ret (he : PE X e te) : PS X (.Return (some e) pos) (tRet te) := by
  intro pins s σ H D I h
  exact wpAny_Return_some (thn (he pins s σ H _ I h) fun v s1 ⟨x, H1, I1, r1, q1⟩ => ⟨x, σ, H1, I1, r1, q1⟩)
def tRetN : TS := fun D _ H => D.rt .non H
theorem ps_retN : PS X (.Return none pos) tRetN := fun _ _ σ H _ I h => wpAny_Return_none ⟨.non, σ, H, I, rfl, h⟩
def tIfS (c : TT) (t u : TS) : TS := fun D σ H => c σ H fun b H1 => if b = true then t D σ H1 else u D σ H1
theorem ps_if {c : Expr} {a b : List Stmt} {tc : TT} (hc : PT X c tc) (ha : PSs X a t) (hb : PSs X b u) : PS X (.If c a b pos) (tIfS tc t u) := by
  intro pins s σ H D I h
  refine wpAny_If (thn (hc pins s σ H _ I h) fun d s1 ⟨H1, I1, q1⟩ => ?_)
  cases d with
  | true => exact ha pins s1 σ H1 D I1 q1
  | false => exact hb pins s1 σ H1 D I1 q1
/-- code that the proof never comes to -/
def tNever : TS := fun _ _ _ => False
theorem ps_never : PS X st tNever := fun _ _ _ _ _ _ h => h.elim
theorem pss_never {sts : List Stmt} : PSs X sts tNever := fun _ _ _ _ _ _ h => h.elim
end

/-! ### targets -/
abbrev TG := V → St → Hp → (St → Hp → Prop) → Prop
abbrev TGs := List V → St → Hp → (St → Hp → Prop) → Prop
def PG (X : Cx) (target : Expr) (t : TG) : Prop :=
  ∀ (pins : List (Addr × Obj)) (s : Shared) (σ : St) (H : Hp) (v : V) (u : Value) (Q : St → Hp → Prop), Inv X pins σ H s → RelV v u → t v σ H Q →
    wpAny (model X.prog X.w) X.A (assign target X.env u) (fun _ s' => ∃ σ' H', Inv X pins σ' H' s' ∧ Q σ' H') X.xe s
/-- several targets, one after another -/
def PGs (X : Cx) (ts : List Expr) (t : TGs) : Prop :=
  ∀ (pins : List (Addr × Obj)) (s : Shared) (σ : St) (H : Hp) (vs : List V) (us : List Value) (Q : St → Hp → Prop), Inv X pins σ H s → Vals vs us → t vs σ H Q →
    wpAny (model X.prog X.w) X.A (assignInOrder ((assignEach ts X.env).map (·.2)) us) (fun _ s' => ∃ σ' H', Inv X pins σ' H' s' ∧ Q σ' H') X.xe s
/-- o[i] = v, by values -/
abbrev TSet := V → V → V → Hp → (Hp → Prop) → Prop
def PSet (X : Cx) (t : TSet) : Prop :=
  ∀ (pins : List (Addr × Obj)) (s : Shared) (σ : St) (H : Hp) (o i v : V) (ov iv u : Value) (Q : Hp → Prop), Inv X pins σ H s → RelV o ov → RelV i iv → RelV v u → t o i v H Q →
    wpAny (model X.prog X.w) X.A (setItem ov iv u) (fun _ s' => ∃ H', Inv X pins σ H' s' ∧ Q H') X.xe s
/-- a op= b, by values -/
abbrev TIp := V → V → Hp → VK → Prop
def PIp (X : Cx) (op : Operator) (t : TIp) : Prop :=
  ∀ (pins : List (Addr × Obj)) (s : Shared) (σ : St) (H : Hp) (x y : V) (v u : Value) (Q : VK), Inv X pins σ H s → RelV x v → RelV y u → t x y H Q →
    wpAny (model X.prog X.w) X.A (inplaceOp op v u) (EP X pins σ Q) X.xe s
section
variable {X : Cx} {pos : Pos}
def gName (i : Nat) : TG := fun v σ H Q => Q (σ.set i (some v)) H
theorem pg_name {i : Nat} {x : Str} (hN : X.N.Nodup) (hi : X.N[i]? = some x) (hx : Loc X.env.scope x) (hf : X.fn x = true ∨ X.env.scope.names.lookup x = some .local := by first | exact .inl rfl | exact .inr rfl | assumption) : PG X (.Name x pos) (gName i) := by
  intro pins s σ H v u Q I r h
  exact wpAny_assign_Name (store_ok I hN hi hx r (fun s' I' => ⟨_, H, I', h⟩) hf)
def gNil : TGs := fun vs σ H Q => vs = [] ∧ Q σ H
def gCons (t : TG) (u : TGs) : TGs := fun vs σ H Q => ∃ v r, vs = v :: r ∧ t v σ H fun σ' H' => u r σ' H' Q
theorem pgs_nil : PGs X [] gNil := by
  intro pins s σ H vs us Q I r h
  obtain ⟨e, h⟩ := h
  subst e
  cases r
  exact assignInOrder_nil ⟨σ, H, I, h⟩
theorem pgs_cons {e : Expr} {es : List Expr} {t : TG} {u : TGs} (h1 : PG X e t) (h2 : PGs X es u)
    (hs : (assignEach (e :: es) X.env).map (·.2) = assign e X.env :: (assignEach es X.env).map (·.2) := by rfl) : PGs X (e :: es) (gCons t u) := by
  intro pins s σ H vs us Q I r h
  obtain ⟨v, vr, e1, h⟩ := h
  subst e1
  cases r with
  | cons r rr =>
    rw [hs]
    refine assignInOrder_cons (thn (h1 pins s σ H _ _ _ I r h) fun _ s1 ⟨σ1, H1, I1, q1⟩ => ?_)
    exact h2 pins s1 σ1 H1 _ _ Q I1 rr q1
/-- (a, b, ..) = a tuple of that length -/
def gTup (K : PySem.W.Frag) (n : Nat) (t : TGs) : TG := fun v σ H Q => ∃ a xs, v = .ref a ∧ SqT K H a xs ∧ xs.length = n ∧ t xs σ H Q
theorem pg_tup {es : List Expr} {k : Nat} {t : TGs} {n : Nat} (hc : X.calm = true) (h : PGs X es t)
    (hn : (assignEach es X.env).length = n := by rfl) (hst : (assignEach es X.env).findIdx? (·.1) = none := by rfl) : PG X (.Tuple es k pos) (gTup X.K n t) := by
  intro pins s σ H v u Q I r hw
  obtain ⟨a, xs, e1, hq, hl, hw⟩ := hw
  subst e1
  cases r
  obtain ⟨its, rv, ht, hz⟩ := I.tuple hq
  refine assign_Tuple_tuple (I.ok.hd hc) ht (by simp [hn, ← hl, rv.length]) hst fun h' hx => ?_
  have I1 : Inv X pins σ H { s with heap := h' } := I.kept (t' := s.toks) fun b o e => hx b o (Nat.ne_of_lt (Heap.lt_size e)) e
  exact h pins _ σ H xs _ Q I1 (by simpa using rv) hw
/-- o[i] = .. -/
def gSub (to ti : TE) (t : TSet) : TG := fun v σ H Q => to σ H fun o H1 => ti σ H1 fun i H2 => t o i v H2 fun H3 => Q σ H3
theorem pg_sub {o i : Expr} {to ti : TE} {t : TSet} (ho : PE X o to) (hi : PE X i ti) (hs : PSet X t)
    (ha : ∀ v, assign (.Subscript o i pos) X.env v = (do
      let ov ← holding [v] (eval o X.env)
      let iv ← holding [v, ov] (eval i X.env)
      standAt pos
      holding [v, ov, iv] (setItem ov iv v)
      release [v, ov, iv] []) := by intro _; rfl) : PG X (.Subscript o i pos) (gSub to ti t) := by
  intro pins s σ H v u Q I r h
  rw [ha]
  refine wpAny_bind (wpAny_holding (thn (ho pins s σ H _ I h) fun ov s1 ⟨x, H1, I1, r1, q1⟩ => ?_))
  refine wpAny_bind (wpAny_holding (thn (hi pins s1 σ H1 _ I1 q1) fun iv s2 ⟨y, H2, I2, r2, q2⟩ => ?_))
  refine wpAny_bind (wpAny_standAt (wpAny_bind (wpAny_holding (thn (hs pins s2 σ H2 x y v ov iv u _ I2 r1 r2 r q2) fun _ s3 ⟨H3, I3, q3⟩ => ?_))))
  exact wpAny_release ⟨σ, H3, I3, q3⟩
/-- target = value -/
def tAsg (te : TE) (g : TG) : TS := fun D σ H => te σ H fun x H1 => g x σ H1 D.nx
theorem ps_asg {tg e : Expr} {te : TE} {g : TG} (he : PE X e te) (hg : PG X tg g) (hs : swapsWithSole [tg] e pos.line X.env = pure false := by rfl) (hw : swappedStores [tg] e X.env = pure none := by rfl)
    (h1 : (assignEach [tg] X.env).map (·.2) = [assign tg X.env] := by rfl) : PS X (.Assign [tg] e pos) (tAsg te g) := by
  intro pins s σ H D I h
  refine wpAny_Assign_stores (thn (he pins s σ H _ I h) fun v s1 ⟨x, H1, I1, r1, q1⟩ => ?_) hs hw
  rw [h1]
  exact thn (hg pins s1 σ H1 x v _ I1 r1 q1) fun _ s2 q => q
/-- name = value -/
theorem ps_set {i : Nat} {x : Str} {e : Expr} {te : TE} {pos' : Pos} (hN : X.N.Nodup) (hi : X.N[i]? = some x) (hx : Loc X.env.scope x) (he : PE X e te) (hs : swapsWith e (some (.Name x pos')) pos.line X.env = pure false := by rfl) (hf : X.fn x = true ∨ X.env.scope.names.lookup x = some .local := by first | exact .inl rfl | exact .inr rfl | assumption) :
    PS X (.Assign [.Name x pos'] e pos) (tAsg te (gName i)) := by
  intro pins s σ H D I h
  refine wpAny_Assign_Name (thn (he pins s σ H _ I h) fun v s1 ⟨y, H1, I1, r1, q1⟩ => ?_) hs
  exact store_ok I1 hN hi hx r1 (fun s2 I2 => ⟨_, H1, I2, q1⟩) hf
/-- a, b = x, y with plain local names: stored from the right; the pair itself is not tracked (the opening rows as in PyProof/Rows/TupAssign.lean:23) -/
def tPar (i j : Nat) (ta : TA) : TS := fun D σ H => ta σ H fun vs H1 => ∃ v w, vs = [v, w] ∧ D.nx ((σ.set i (some v)).set j (some w)) H1
theorem ps_par {i j : Nat} {x y : Str} {a b : Expr} {ta : TA} {px py pt : Pos} {kt k2 pt2} (hc : X.calm = true) (hN : X.N.Nodup) (hi : X.N[i]? = some x) (hj : X.N[j]? = some y) (hij : i ≠ j)
    (hx : X.env.scope.names.lookup x = some .local) (hy : X.env.scope.names.lookup y = some .local) (ha : PA X [a, b] ta)
    (hw : swappedStores [.Tuple [.Name x px, .Name y py] kt pt] (.Tuple [a, b] k2 pt2) X.env = pure (some [x, y]))
    (hs : swapsWithSole [.Tuple [.Name x px, .Name y py] kt pt] (.Tuple [a, b] k2 pt2) pos.line X.env = pure false := by rfl) :
    PS X (.Assign [.Tuple [.Name x px, .Name y py] kt pt] (.Tuple [a, b] k2 pt2) pos) (tPar i j ta) := by
  intro pins s σ H D I h
  rw [exec_Assign_arm]
  refine wpAny_bind (wpAny_standAt ?_)
  rw [hs]
  refine wpAny_bind (wpAny_pure ?_)
  rw [if_neg (by decide)]
  refine wpAny_bind (Tuple_ (thn (ha _ pins s σ H _ I h) fun us s1 ⟨vs, H1, I1, r1, q1⟩ => ?_))
  obtain ⟨v, w, e1, q1⟩ := q1
  subst e1
  obtain ⟨u1, u2, rfl, rv, rw'⟩ : ∃ u1 u2, us = [u1, u2] ∧ RelV v u1 ∧ RelV w u2 := by
    cases r1 with
    | cons p q =>
      cases q with
      | cons p' q' =>
        cases q'
        exact ⟨_, _, rfl, p, p'⟩
  refine wpAny_newObj_type ?_ (by show 2 ≤ sizeLine; decide)
  have I2 : Inv X pins σ H1 { s1 with heap := s1.heap.push { cls := .type "tuple", data := .seq [u1, u2].toArray } } := I1.kept (t' := s1.toks) fun b o e => Heap.get?_push_of_some _ e
  rw [hw]
  refine wpAny_bind (wpAny_pure ?_)
  show wpAny (model X.prog X.w) X.A (do rule "assign.swapped-stores"; let items ← unpackItems (.ref s1.heap.objs.size) 2 none; assignInOrder [fun v => bindName X.env y v, fun v => bindName X.env x v] items.reverse; pure Flow.next) _ _ _
  refine wpAny_bind (wpAny_rule (wpAny_bind (unpackItems_tuple (items := #[u1, u2]) (I.ok.hd hc) (IsTup.new s1.heap _) fun h' hx' => ?_)))
  have I3 := I2.kept (h' := h') (t' := s1.toks) fun b o e => hx' b o (Nat.ne_of_lt (Heap.lt_size e)) e
  show wpAny _ _ (assignInOrder [fun v => bindName X.env y v, fun v => bindName X.env x v] [u2, u1] >>= fun _ => pure Flow.next) _ _ _
  refine wpAny_bind (assignInOrder_cons (wpAny_bindName (store_ok I3 hN hj (.inl hy) rw' (fun s2 I4 => ?_) (.inr hy))))
  refine assignInOrder_cons (wpAny_bindName (store_ok I4 hN hi (.inl hx) rv (fun s3 I5 => assignInOrder_nil (wpAny_pure ?_)) (.inr hx)))
  rw [List.set_comm _ _ (Ne.symm hij)] at I5
  exact ⟨_, H1, I5, q1⟩
/-- name op= e -/
def tAug (i : Nat) (te : TE) (ti : TIp) : TS := fun D σ H => ∃ x, σ[i]? = some (some x) ∧ te σ H fun y H1 => ti x y H1 fun z H2 => D.nx (σ.set i (some z)) H2
theorem ps_aug {i : Nat} {x : Str} {e : Expr} {te : TE} {op : Operator} {ti : TIp} {pos' : Pos} (hN : X.N.Nodup) (hi : X.N[i]? = some x) (hx : Loc X.env.scope x) (he : PE X e te) (ho : PIp X op ti) (hf : X.fn x = true ∨ X.env.scope.names.lookup x = some .local := by first | exact .inl rfl | exact .inr rfl | assumption) :
    PS X (.AugAssign (.Name x pos') op e pos) (tAug i te ti) := by
  intro pins s σ H D I h
  obtain ⟨v, e1, h⟩ := h
  obtain ⟨m, hn, hl⟩ := I.loc
  have vis : Vis X.env.scope x := by rcases hx with k | k; exact .inl k; exact .inr (.inl k)
  obtain ⟨u, r, l⟩ := hl i x v hi e1 vis
  refine wpAny_AugAssign_Name ?_
  have go : wpAny (model X.prog X.w) X.A (eval e X.env) (fun w s₂ => wpAny (model X.prog X.w) X.A (inplaceOp op u w) (fun r s₃ => wpAny (model X.prog X.w) X.A (storeName X.env x r) (fun _ => SP X pins D .next) X.xe s₃) X.xe s₂) X.xe s := by
    refine thn (he pins s σ H _ I h) fun w s1 ⟨y, H1, I1, r1, q1⟩ => ?_
    refine thn (ho pins s1 σ H1 v y u w _ I1 r r1 q1) fun z s2 ⟨zv, H2, I2, r2, q2⟩ => ?_
    exact store_ok I2 hN hi hx r2 (fun s3 I3 => ⟨_, H2, I3, q2⟩) hf
  rcases l with ⟨hk, hm⟩ | ⟨hk, c, hc, hcell⟩
  · exact wpAny_loadName_local I.ok.kind hk hn hm go
  · rcases hk with hk | hk
    · exact wpAny_loadName_cell I.ok.kind hk hc hcell go
    · rcases hx with k | k
      · have : X.env.scope.names.lookup x = some .free := hk
        rw [k] at this; cases this
      · have : X.env.scope.names.lookup x = some .free := hk
        rw [k] at this; cases this
/-- o[i] op= e -/
def tAugS (to ti te : TE) (tget : V → V → Hp → VK → Prop) (tip : TIp) (tset : TSet) : TS := fun D σ H => to σ H fun o H1 => ti σ H1 fun i H2 => tget o i H2 fun x H3 => te σ H3 fun y H4 => tip x y H4 fun z H5 => tset o i z H5 fun H6 => D.nx σ H6
/-- o[i], by values -/
def PGet (X : Cx) (t : V → V → Hp → VK → Prop) : Prop :=
  ∀ (pins : List (Addr × Obj)) (s : Shared) (σ : St) (H : Hp) (o i : V) (ov iv : Value) (Q : VK), Inv X pins σ H s → RelV o ov → RelV i iv → t o i H Q →
    wpAny (model X.prog X.w) X.A (getItem ov iv) (EP X pins σ Q) X.xe s
theorem ps_augS {o i e : Expr} {to ti te : TE} {tget : V → V → Hp → VK → Prop} {tip : TIp} {tset : TSet} {op : Operator} {tpos : Pos} (ho : PE X o to) (hi : PE X i ti) (hg : PGet X tget) (he : PE X e te) (hp : PIp X op tip) (hs : PSet X tset)
    (ha : ∀ ov iv new, augStore i ov iv new = (do holding [new, ov, iv] (setItem ov iv new); release [new, ov, iv] []; pure .next) := by intros; rfl) : PS X (.AugAssign (.Subscript o i tpos) op e pos) (tAugS to ti te tget tip tset) := by
  intro pins s σ H D I h
  refine wpAny_AugAssign_SubscriptAny (thn (ho pins s σ H _ I h) fun ov s1 ⟨x1, H1, I1, r1, q1⟩ => ?_) ha
  refine thn (hi pins s1 σ H1 _ I1 q1) fun iv s2 ⟨x2, H2, I2, r2, q2⟩ => ?_
  refine thn (hg pins s2 σ H2 x1 x2 ov iv _ I2 r1 r2 q2) fun old s3 ⟨x3, H3, I3, r3, q3⟩ => ?_
  refine thn (he pins s3 σ H3 _ I3 q3) fun v s4 ⟨x4, H4, I4, r4, q4⟩ => ?_
  refine thn (hp pins s4 σ H4 x3 x4 old v _ I4 r3 r4 q4) fun new s5 ⟨x5, H5, I5, r5, q5⟩ => ?_
  exact thn (hs pins s5 σ H5 x1 x2 x5 ov iv new _ I5 r1 r2 r5 q5) fun _ s6 ⟨H6, I6, q6⟩ => ⟨σ, H6, I6, q6⟩
/-- ints -/
def ipI (f : Int → Int → Int) : TIp := fun x y H Q => ∃ i j, x = .int i ∧ y = .int j ∧ Q (.int (f i j)) H
theorem ip_add : PIp X .Add (ipI fun i j => i + j) := by
  intro pins s σ H x y v u Q I r1 r2 h
  obtain ⟨i, j, e1, e2, q⟩ := h
  subst e1; subst e2
  obtain ⟨t, rfl⟩ := r1
  obtain ⟨t', rfl⟩ := r2
  exact iadd_int ⟨.int _, H, I.tok _, ⟨_, rfl⟩, q⟩
theorem ip_sub : PIp X .Sub (ipI fun i j => i - j) := by
  intro pins s σ H x y v u Q I r1 r2 h
  obtain ⟨i, j, e1, e2, q⟩ := h
  subst e1; subst e2
  obtain ⟨t, rfl⟩ := r1
  obtain ⟨t', rfl⟩ := r2
  exact isub_int ⟨.int _, H, I.tok _, ⟨_, rfl⟩, q⟩
end

/-! ### while -/
section
variable {X : Cx} {pos : Pos}
/-- the invariant W with its measure -/
def tWhile (c : TT) (tb : TS) : TS := fun D σ H => ∃ W : Nat → St → Hp → Prop, (∃ m, W m σ H) ∧ ∀ m σ H, W m σ H →
  c σ H fun b H1 => if b = true then ∃ N : St → Hp → Prop, (∀ σ' H', N σ' H' → ∃ m', m' < m ∧ W m' σ' H') ∧ tb { D with nx := N, ct := N, bk := D.nx } σ H1 else D.nx σ H1
theorem ps_while {c : Expr} {body : List Stmt} {tc : TT} {tb : TS} (hp : PassesOwn (model X.prog X.w) X.A X.env X.xe) (hc : PT X c tc) (hb : PSs X body tb) : PS X (.While c body [] pos) (tWhile tc tb) := by
  intro pins s σ H D I h
  obtain ⟨W, ⟨m0, w0⟩, turn⟩ := h
  refine wpAny_While (codeAny_whileLoop (fun n s' => ∃ σ' H', Inv X pins σ' H' s' ∧ W n σ' H') ?_ m0 ⟨σ, H, I, w0⟩)
  rintro n s1 ⟨σ1, H1, I1, w1⟩
  refine wpAny_passesOwn hp (thn (hc pins s1 σ1 H1 _ I1 (turn n σ1 H1 w1)) fun b s2 ⟨H2, I2, q2⟩ => ?_)
  cases b with
  | true =>
    obtain ⟨N, hN, q2⟩ := q2
    rw [if_pos rfl]
    refine wpAny_passesOwn hp (thn (hb pins s2 σ1 H2 _ I2 q2) fun f s3 q3 => ?_)
    cases f with
    | next =>
      obtain ⟨σ3, H3, I3, n3⟩ := q3
      obtain ⟨m', hm, w3⟩ := hN σ3 H3 n3
      exact ⟨m', hm, σ3, H3, I3, w3⟩
    | cont =>
      obtain ⟨σ3, H3, I3, n3⟩ := q3
      obtain ⟨m', hm, w3⟩ := hN σ3 H3 n3
      exact ⟨m', hm, σ3, H3, I3, w3⟩
    | brk => exact q3
    | ret v => exact q3
  | false =>
    rw [if_neg Bool.false_ne_true]
    exact wpAny_execs_nil ⟨σ1, H2, I2, q2⟩
end

/-! ### what a loop or a comprehension walks -/
/-- at turn i: it yields x (the heap may grow), or it stops -/
structure It where
  go : Nat → Hp → Prop
  yld : Nat → Hp → V → Hp → Prop
  stop : Nat → Hp → Prop
/-- the iterator's own objects may turn: they are not the frame's, not pinned, younger than the entry (or a comprehension's own) -/
def FpOk (X : Cx) (pins : List (Addr × Obj)) (H : Hp) (b : Addr) : Prop :=
  H b = none ∧ b ≠ X.env.locals ∧ b ∉ X.fs ∧ (b ∈ X.ex ∨ X.s₀.heap.objs.size ≤ b) ∧ (∀ x c, X.env.cells.lookup x = some c → c ≠ b) ∧ ∀ p ∈ X.pn ++ pins, p.1 ≠ b
theorem Inv.fpOk {X : Cx} {pins : List (Addr × Obj)} {σ : St} {H H' : Hp} {s : Shared} {b : Addr} (I : Inv X pins σ H s) (hb : s.heap.objs.size ≤ b) (hn : H' b = none) : FpOk X pins H' b := by
  refine ⟨hn, Nat.ne_of_gt (Nat.lt_of_lt_of_le I.lt hb), I.nofs hb, .inr (Nat.le_trans I.sz hb), fun x c e z => ?_, fun p hp z => ?_⟩
  · obtain ⟨v, q⟩ := I.cell x c e
    exact absurd (Nat.lt_of_lt_of_le q.lt (by rw [z]; exact hb)) (Nat.lt_irrefl _)
  · exact absurd (Nat.lt_of_lt_of_le (Heap.lt_size (I.pin p hp).1) (by rw [z]; exact hb)) (Nat.lt_irrefl _)
structure Turn (P : Program) (w : World) (K : PySem.W.Frag) (tg : Expr) (J : It) (fp : List Addr) (it : Addr) (tn : Nat → Heap → Prop) : Prop where
  mem : it ∈ fp
  obj : ∀ i h, tn i h → ∀ b ∈ fp, ∃ o, h.get? b = some o ∧ ∀ v, o.data ≠ .cell v
  keep : ∀ i h h', tn i h → (∀ b ∈ fp, ∀ o, h.get? b = some o → h'.get? b = some o) → tn i h'
  item : ∀ (X : Cx), X.prog = P → X.w = w → X.K = K → X.calm = true → ∀ (i : Nat) (pins : List (Addr × Obj)) (s : Shared) (σ : St) (H : Hp) (E : Value → Shared → Prop), Inv X pins σ H s → (∀ b ∈ fp, FpOk X pins H b) → tn i s.heap → J.go i H →
    wpAny (model P w) X.A (pyNext (.ref it)) (fun r s1 => ∃ u, r = some u ∧
      wpAny (model P w) X.A (letOwnedTupleGo tg (.ref it) u) (fun _ s2 => ∃ x H', Inv X pins σ H' s2 ∧ RelV x u ∧ J.yld i H x H' ∧ tn (i + 1) s2.heap ∧ ∀ b ∈ fp, H' b = none) E s1) E s
  done : ∀ (X : Cx), X.prog = P → X.w = w → X.K = K → X.calm = true → ∀ (i : Nat) (pins : List (Addr × Obj)) (s : Shared) (σ : St) (H : Hp) (E : Value → Shared → Prop), Inv X pins σ H s → (∀ b ∈ fp, FpOk X pins H b) → tn i s.heap → J.stop i H →
    wpAny (model P w) X.A (pyNext (.ref it)) (fun r s1 => r = none ∧ Inv X pins σ H s1) E s
  self : ∀ (A : Around) (i : Nat) (s : Shared) (Q : Value → Shared → Prop) (E : Value → Shared → Prop), tn i s.heap → Q (.ref it) s → wpAny (model P w) A (pyIter (.ref it)) Q E s
abbrev TI := St → Hp → (It → Hp → Prop) → Prop
/-- an iterator has come -/
def PIE (X : Cx) (pins : List (Addr × Obj)) (σ : St) (tg : Expr) (R : It → Hp → Prop) (itv : Value) (s2 : Shared) : Prop :=
  ∃ (it : Addr) (fp : List Addr) (tn : Nat → Heap → Prop) (J : It) (H' : Hp), itv = .ref it ∧ Inv X pins σ H' s2 ∧ Turn X.prog X.w X.K tg J fp it tn ∧ tn 0 s2.heap ∧ (∀ b ∈ fp, FpOk X pins H' b) ∧ R J H'
def PI (X : Cx) (tg iter : Expr) (wi : TI) : Prop :=
  ∀ (pins : List (Addr × Obj)) (s : Shared) (σ : St) (H : Hp) (R : It → Hp → Prop), Inv X pins σ H s → wi σ H R →
    wpAny (model X.prog X.w) X.A (eval iter X.env) (fun v s1 => wpAny (model X.prog X.w) X.A (pyIter v) (PIE X pins σ tg R) X.xe s1) X.xe s

/-- the step ahead of the store is nothing for an iterator that keeps no tuple -/
theorem go_of {M : Model} {A : Around} {E : Value → Shared → Prop} {s : Shared} {tg : Expr} {it : Addr} {u : Value} {o : Obj} {n : String} {vs : Array Value} {Q : Unit → Shared → Prop} (ho : s.heap.get? it = some o) (hc : o.cls = .type n) (hd : o.data = .fields vs)
    (hn : ["enumerate", "zip", "dict_itemiterator", "dict_reverseitemiterator", "odict_iterator", "itertools.zip_longest", "itertools.pairwise"].contains n = false) (hQ : Q () s) : wpAny M A (letOwnedTupleGo tg (.ref it) u) Q E s := by
  unfold letOwnedTupleGo
  cases tg <;> first
    | exact wpAny_pure hQ
    | (cases u <;> first
        | exact wpAny_pure hQ
        | (refine wpAny_bind (wpAny_load ho ?_)
           rw [hc, hd]
           show wpAny M A (if (["enumerate", "zip", "dict_itemiterator", "dict_reverseitemiterator", "odict_iterator", "itertools.zip_longest", "itertools.pairwise"].contains n && vs[0]? == some (rawInt _)) = true then _ else _) Q E s
           rw [if_neg (by intro h; rw [hn, Bool.false_and] at h; cases h)]
           exact wpAny_pure hQ))

/-- the list at a, as it stands at each turn (a loop may append to it) -/
def Itl (K : PySem.W.Frag) (a : Addr) : It :=
  ⟨fun i H => ∃ xs x, SqL K H a xs ∧ xs[i]? = some x, fun i H x H' => H' = H ∧ ∀ xs, SqL K H a xs → xs[i]? = some x, fun i H => ∃ xs, SqL K H a xs ∧ xs.length ≤ i⟩
def Itt (K : PySem.W.Frag) (a : Addr) : It :=
  ⟨fun i H => ∃ xs x, SqT K H a xs ∧ xs[i]? = some x, fun i H x H' => H' = H ∧ ∀ xs, SqT K H a xs → xs[i]? = some x, fun i H => ∃ xs, SqT K H a xs ∧ xs.length ≤ i⟩
/-- lo, lo + 1, .. (n of them) -/
def Itr (lo : Int) (n : Nat) : It := ⟨fun i _ => i < n, fun i H x H' => H' = H ∧ x = .int (lo + i), fun i _ => n ≤ i⟩
theorem turn_list {P : Program} {w : World} {K : PySem.W.Frag} {tg : Expr} (a it : Addr) : Turn P w K tg (Itl K a) [it] it (fun i h => h.IsListIter it a i) where
  mem := by simp
  obj := fun i h st b hb => by
    have e : b = it := by simpa using hb
    subst e
    obtain ⟨o, e, c, d⟩ := st
    exact ⟨o, e, fun v z => by rw [d] at z; cases z⟩
  keep := fun i h h' st k => st.at fun o e => k it (by simp) o e
  item := by
    intro X hP hw hK hc i pins s σ H E I hf st hg
    subst hP hw hK
    obtain ⟨xs, x, hq, hx⟩ := hg
    obtain ⟨its, rv, p, hz⟩ := I.list hq
    obtain ⟨u, hu, ru⟩ := rv.get hx
    obtain ⟨f0, f1, f2, f3, f4, f5⟩ := hf it (by simp)
    refine wpAny_pyNext_list_item st p.isList (x := u) (by simpa using hu) fun h' st' sb => ?_
    have I1 : Inv X pins σ H { s with heap := h' } := I.turned (t' := s.toks) (fun b o hb e => (sb.2 b hb).trans e) f0 f1 f3 f4 f5
    obtain ⟨o, e, c, d⟩ := id st'
    exact ⟨u, rfl, go_of (s := { s with heap := h' }) e c d (by decide) ⟨x, H, I1, ru, ⟨rfl, fun ys hy => by rw [I.list_inj hy hq]; exact hx⟩, st', fun b hb => (hf b hb).1⟩⟩
  done := by
    intro X hP hw hK hc i pins s σ H E I hf st hg
    subst hP hw hK
    obtain ⟨xs, hq, hx⟩ := hg
    obtain ⟨its, rv, p, hz⟩ := I.list hq
    obtain ⟨f0, f1, f2, f3, f4, f5⟩ := hf it (by simp)
    have hl := rv.length
    exact wpAny_pyNext_list_end (I.ok.hd hc) st p.isList (by simp; omega) fun h' eb => ⟨rfl, I.turned (t' := s.toks) (fun b o hb e => eb b o hb e) f0 f1 f3 f4 f5⟩
  self := fun _ _ _ _ _ st h => wpAny_pyIter_listiter st h
theorem turn_tuple {P : Program} {w : World} {K : PySem.W.Frag} {tg : Expr} (a it : Addr) : Turn P w K tg (Itt K a) [it] it (fun i h => h.IsTupleIter it a i) where
  mem := by simp
  obj := fun i h st b hb => by
    have e : b = it := by simpa using hb
    subst e
    obtain ⟨o, e, c, d⟩ := st
    exact ⟨o, e, fun v z => by rw [d] at z; cases z⟩
  keep := fun i h h' st k => st.at fun o e => k it (by simp) o e
  item := by
    intro X hP hw hK hc i pins s σ H E I hf st hg
    subst hP hw hK
    obtain ⟨xs, x, hq, hx⟩ := hg
    obtain ⟨its, rv, p, hz⟩ := I.tuple hq
    obtain ⟨u, hu, ru⟩ := rv.get hx
    obtain ⟨f0, f1, f2, f3, f4, f5⟩ := hf it (by simp)
    refine wpAny_pyNext_tuple_item st (show s.heap.IsTuple a its.toArray from p) (x := u) (by simpa using hu) fun h' st' sb => ?_
    have I1 : Inv X pins σ H { s with heap := h' } := I.turned (t' := s.toks) (fun b o hb e => (sb.2 b hb).trans e) f0 f1 f3 f4 f5
    obtain ⟨o, e, c, d⟩ := id st'
    exact ⟨u, rfl, go_of (s := { s with heap := h' }) e c d (by decide) ⟨x, H, I1, ru, ⟨rfl, fun ys hy => by rw [I.tuple_inj hy hq]; exact hx⟩, st', fun b hb => (hf b hb).1⟩⟩
  done := by
    intro X hP hw hK hc i pins s σ H E I hf st hg
    subst hP hw hK
    obtain ⟨xs, hq, hx⟩ := hg
    obtain ⟨its, rv, p, hz⟩ := I.tuple hq
    obtain ⟨f0, f1, f2, f3, f4, f5⟩ := hf it (by simp)
    have hl := rv.length
    exact wpAny_pyNext_tuple_end (I.ok.hd hc) st (show s.heap.IsTuple a its.toArray from p) (by simp; omega) fun h' eb => ⟨rfl, I.turned (t' := s.toks) (fun b o hb e => eb b o hb e) f0 f1 f3 f4 f5⟩
  self := fun _ _ _ _ _ st h => wpAny_pyIter_tupleiter st h
theorem turn_range {P : Program} {w : World} {K : PySem.W.Frag} {tg : Expr} (it : Addr) (lo : Int) (n : Nat) : Turn P w K tg (Itr lo n) [it] it (fun i h => IsRangeIter h it (lo + (i : Nat) * 1) ((n : Int) - (i : Nat)) 1) where
  mem := by simp
  obj := fun i h st b hb => by
    have e : b = it := by simpa using hb
    subst e
    exact ⟨_, st, fun v z => by
      have z' : Data.fields _ = Data.cell v := z
      cases z'⟩
  keep := fun i h h' st k => k it (by simp) _ st
  item := by
    intro X hP hw hK hc i pins s σ H E I hf st hg
    subst hP hw hK
    obtain ⟨f0, f1, f2, f3, f4, f5⟩ := hf it (by simp)
    have W := Walks.range (prog := X.prog) (w := X.w) (I.ok.hd hc) it lo 1 n
    refine W.item i s _ _ hg st fun v h' tk hv st' kk => ?_
    obtain ⟨t, rfl⟩ := hv
    have I1 : Inv X pins σ H { s with heap := h', toks := tk } := I.turned (fun b o hb e => kk b o (by simpa using hb) e) f0 f1 f3 f4 f5
    refine ⟨_, rfl, go_of (s := { s with heap := h', toks := tk }) (n := "range_iterator") st' rfl rfl (by decide) ⟨.int (lo + i), H, I1, ⟨t, ?_⟩, ⟨rfl, rfl⟩, st', fun b hb => (hf b hb).1⟩⟩
    rw [Int.mul_one]
  done := by
    intro X hP hw hK hc i pins s σ H E I hf st hg
    subst hP hw hK
    obtain ⟨f0, f1, f2, f3, f4, f5⟩ := hf it (by simp)
    exact wpAny_pyNext_range_end (I.ok.hd hc) st (by have : n ≤ i := hg; omega) fun h' eb => ⟨rfl, I.turned (t' := s.toks) (fun b o hb e => eb b o hb e) f0 f1 f3 f4 f5⟩
  self := fun _ _ _ _ _ st h => wpAny_pyIter_rangeiter st h
end L2

namespace L2
open PySem PySem.Spec PyProof.Rows
section
variable {X : Cx} {tg : Expr}
def iList (K : PySem.W.Frag) (tl : TE) : TI := fun σ H R => tl σ H fun x H1 => ∃ a, x = .ref a ∧ (∃ xs, SqL K H1 a xs) ∧ R (Itl K a) H1
def iTup (K : PySem.W.Frag) (tl : TE) : TI := fun σ H R => tl σ H fun x H1 => ∃ a, x = .ref a ∧ (∃ xs, SqT K H1 a xs) ∧ R (Itt K a) H1
theorem pi_list {l : Expr} {tl : TE} (hl : PE X l tl) : PI X tg l (iList X.K tl) := by
  intro pins s σ H R I h
  refine thn (hl pins s σ H _ I h) fun v s1 ⟨x, H1, I1, r1, q1⟩ => ?_
  obtain ⟨a, e, ⟨xs, hq⟩, q⟩ := q1
  subst e
  cases r1
  obtain ⟨its, rv, p, hz⟩ := I1.list hq
  refine wpAny_pyIter_list p.isList ?_
  refine ⟨s1.heap.objs.size, [s1.heap.objs.size], _, _, H1, rfl, I1.kept (t' := s1.toks) fun b o e => Heap.get?_push_of_some _ e, turn_list a _, ⟨_, Heap.get?_push_size _ rfl, rfl, rfl⟩, fun b hb => ?_, q⟩
  have e : b = s1.heap.objs.size := by simpa using hb
  subst e
  exact I1.fpOk (Nat.le_refl _) (I1.hok.fresh (Nat.le_refl _))
theorem pi_tup {l : Expr} {tl : TE} (hl : PE X l tl) : PI X tg l (iTup X.K tl) := by
  intro pins s σ H R I h
  refine thn (hl pins s σ H _ I h) fun v s1 ⟨x, H1, I1, r1, q1⟩ => ?_
  obtain ⟨a, e, ⟨xs, hq⟩, q⟩ := q1
  subst e
  cases r1
  obtain ⟨its, rv, p, hz⟩ := I1.tuple hq
  refine wpAny_pyIter_tuple (show s1.heap.IsTuple a its.toArray from p) ?_
  refine ⟨s1.heap.objs.size, [s1.heap.objs.size], _, _, H1, rfl, I1.kept (t' := s1.toks) fun b o e => Heap.get?_push_of_some _ e, turn_tuple a _, ⟨_, Heap.get?_push_size _ rfl, rfl, rfl⟩, fun b hb => ?_, q⟩
  have e : b = s1.heap.objs.size := by simpa using hb
  subst e
  exact I1.fpOk (Nat.le_refl _) (I1.hok.fresh (Nat.le_refl _))
/-- a range object just made, walked -/
theorem range_it {pins : List (Addr × Obj)} {σ : St} {H : Hp} {s : Shared} {R : It → Hp → Prop} {E : Value → Shared → Prop} {lo hi : Int} {t u v : Tok} {tk : Nat} (I : Inv X pins σ H s) (h1 : -(2 ^ 62) ≤ lo) (h2 : lo < 2 ^ 62) (h3 : -(2 ^ 62) ≤ hi) (h4 : hi < 2 ^ 62)
    (q : R (Itr lo (hi - lo).toNat) H) : wpAny (model X.prog X.w) X.A (pyIter (.ref s.heap.objs.size)) (PIE X pins σ tg R) E { s with heap := s.heap.push { cls := .type "range", data := .fields #[.int lo t, .int hi u, .int 1 v] }, toks := tk } := by
  refine wpAny_pyIter_range (IsRange.new ..) (small_one h1 h2 h3 h4) ?_
  have I1 : Inv X pins σ H { s with heap := s.heap.push { cls := .type "range", data := .fields #[.int lo t, .int hi u, .int 1 v] }, toks := tk } := I.kept fun b o e => Heap.get?_push_of_some _ e
  refine ⟨(s.heap.push { cls := .type "range", data := .fields #[.int lo t, .int hi u, .int 1 v] }).objs.size, [(s.heap.push { cls := .type "range", data := .fields #[.int lo t, .int hi u, .int 1 v] }).objs.size], _, _, H, rfl,
    I1.kept (t' := tk) fun b o e => Heap.get?_push_of_some _ e, turn_range _ lo (hi - lo).toNat, ?_, fun b hb => ?_, q⟩
  · have e1 : lo + ((0 : Nat) : Int) * 1 = lo := by simp
    have e2 : (((hi - lo).toNat : Nat) : Int) - ((0 : Nat) : Int) = Builtin.Range.rangeSize lo hi 1 := by rw [rangeSize_one]; split <;> omega
    show IsRangeIter _ _ (lo + ((0 : Nat) : Int) * 1) ((((hi - lo).toNat : Nat) : Int) - ((0 : Nat) : Int)) 1
    rw [e1, e2]
    exact Heap.get?_push_size _ rfl
  · have e : b = (s.heap.push { cls := .type "range", data := .fields #[.int lo t, .int hi u, .int 1 v] }).objs.size := by simpa using hb
    subst e
    exact I1.fpOk (Nat.le_refl _) (I1.hok.fresh (Nat.le_refl _))
def iRng1 (ta : TA) : TI := fun σ H R => ta σ H fun vs H1 => ∃ j : Int, vs = [.int j] ∧ -(2 ^ 62) ≤ j ∧ j < 2 ^ 62 ∧ R (Itr 0 j.toNat) H1
def iRng2 (ta : TA) : TI := fun σ H R => ta σ H fun vs H1 => ∃ i j : Int, vs = [.int i, .int j] ∧ (-(2 ^ 62) ≤ i ∧ i < 2 ^ 62 ∧ -(2 ^ 62) ≤ j ∧ j < 2 ^ 62) ∧ R (Itr i (j - i).toNat) H1
theorem pi_range1 {a : Expr} {ta : TA} {p pos : Pos} (hg : Gl X "range") (hm : X.mg "range" = none) (ha : PA X [a] ta) (hs : starEach [a] X.env = [(false, eval a X.env)] := by rfl) : PI X tg (.Call (.Name "range" p) [a] [] pos) (iRng1 ta) := by
  intro pins s σ H R I h
  refine Call_ (ld_blt I hg hm boot_range (PyProof.Rows.callWith_type1 (thn (ha pos pins s σ H _ I h) fun us s1 ⟨vs, H1, I1, r1, q1⟩ => ?_) hs rfl))
  obtain ⟨j, e, q1, q2, q⟩ := q1
  subst e
  cases r1 with
  | cons r rr =>
    cases rr
    obtain ⟨t, rfl⟩ := r
    exact call_range_1 (range_it I1 (by omega) (by omega) q1 q2 (by simpa using q))
theorem pi_range2 {a b : Expr} {ta : TA} {p pos : Pos} (hg : Gl X "range") (hm : X.mg "range" = none) (ha : PA X [a, b] ta) (hs : starEach [a, b] X.env = [(false, eval a X.env), (false, eval b X.env)] := by rfl) (hs2 : starEach [b] X.env = [(false, eval b X.env)] := by rfl) :
    PI X tg (.Call (.Name "range" p) [a, b] [] pos) (iRng2 ta) := by
  intro pins s σ H R I h
  refine Call_ (ld_blt I hg hm boot_range (PyProof.Rows.callWith_type1 (thn (ha pos pins s σ H _ I h) fun us s1 ⟨vs, H1, I1, r1, q1⟩ => ?_) (by rw [hs, hs2]) (by rw [hs2]; rfl)))
  obtain ⟨i, j, e, ⟨q1, q2, q3, q4⟩, q⟩ := q1
  subst e
  cases r1 with
  | cons r rr =>
    cases rr with
    | cons r' rr =>
      cases rr
      obtain ⟨t, rfl⟩ := r
      obtain ⟨t', rfl⟩ := r'
      exact call_range_2 (range_it I1 q1 q2 q3 q4 q)

/-! ### for -/
/-- W: the invariant by the turn and a measure; N: what the body is to reach -/
def tFor (wi : TI) (g : TG) (tb : TS) : TS := fun D σ H => wi σ H fun J H1 => ∃ W : Nat → Nat → St → Hp → Prop, (∃ m, W 0 m σ H1) ∧ ∀ i m σ H, W i m σ H →
  (J.stop i H ∧ D.nx σ H) ∨ (J.go i H ∧ ∃ N : St → Hp → Prop, (∀ σ' H', N σ' H' → ∃ m', m' < m ∧ W (i + 1) m' σ' H') ∧ ∀ x H', J.yld i H x H' → g x σ H' fun σ2 H2 => tb { D with nx := N, ct := N, bk := D.nx } σ2 H2)
/-- the records at fp as they stand -/
def pinsAt (fp : List Addr) (h : Heap) : List (Addr × Obj) := fp.filterMap fun b => (h.get? b).map fun o => (b, o)
theorem mem_pinsAt {fp : List Addr} {h : Heap} {b : Addr} {o : Obj} (hb : b ∈ fp) (e : h.get? b = some o) : (b, o) ∈ pinsAt fp h := List.mem_filterMap.mpr ⟨b, hb, by rw [e]; rfl⟩
theorem of_pinsAt {fp : List Addr} {h : Heap} {p : Addr × Obj} (hp : p ∈ pinsAt fp h) : p.1 ∈ fp ∧ h.get? p.1 = some p.2 := by
  obtain ⟨b, hb, e⟩ := List.mem_filterMap.mp hp
  cases q : h.get? b with
  | none => rw [q] at e; cases e
  | some o =>
    rw [q] at e
    have e' : (b, o) = p := Option.some.inj e
    subst e'
    exact ⟨hb, q⟩
theorem Inv.pinned {pins : List (Addr × Obj)} {σ : St} {H : Hp} {s : Shared} {fp : List Addr} (I : Inv X pins σ H s) (hf : ∀ b ∈ fp, FpOk X pins H b) (ho : ∀ b ∈ fp, ∃ o, s.heap.get? b = some o ∧ ∀ v, o.data ≠ .cell v) : Inv X (pins ++ pinsAt fp s.heap) σ H s :=
  I.pins_of fun p hp => (List.mem_append.mp hp).elim (fun z => I.pin p (List.mem_append_right _ z)) fun z => by
    obtain ⟨hb, e⟩ := of_pinsAt z
    obtain ⟨f0, f1, f2, _⟩ := hf p.1 hb
    obtain ⟨o, e', d⟩ := ho p.1 hb
    rw [e] at e'; cases e'
    exact ⟨e, f0, f1, f2, d⟩
theorem Inv.unpinned {pins pl : List (Addr × Obj)} {σ : St} {H : Hp} {s : Shared} (I : Inv X (pins ++ pl) σ H s) : Inv X pins σ H s := I.pins_of fun p hp => I.pin p (List.mem_append_right _ (List.mem_append_left _ hp))
theorem ps_for {iter : Expr} {body : List Stmt} {wi : TI} {g : TG} {tb : TS} {pos : Pos} (hp : PassesOwn (model X.prog X.w) X.A X.env X.xe) (hc : X.calm = true) (hi : PI X tg iter wi) (hg : PG X tg g) (hb : PSs X body tb)
    (hs : ∀ x, foldedSetIterable iter X.env x = pure x := by intro _; rfl) : PS X (.For tg iter body [] pos) (tFor wi g tb) := by
  intro pins s σ H D I h
  refine wpAny_For (thn (hi pins s σ H _ I h) fun v s1 h1 => thn h1 fun itv s2 h2 => ?_) hs
  obtain ⟨it, fp, tn, J, H2, e, I2, T, st2, f2, W, ⟨m0, w0⟩, turn⟩ := h2
  subst e
  -- what stays true of the iterator's objects through the loop
  have stat : ∀ {H' : Hp}, (∀ b ∈ fp, H' b = none) → ∀ b ∈ fp, FpOk X pins H' b := fun hn b hb => ⟨hn b hb, (f2 b hb).2⟩
  refine codeAny_forLoop_any (fun n s' => ∃ i σ' H', Inv X pins σ' H' s' ∧ tn i s'.heap ∧ (∀ b ∈ fp, H' b = none) ∧ W i n σ' H') ?_ m0 ⟨0, σ, H2, I2, st2, fun b hb => (f2 b hb).1, w0⟩
  rintro n s3 ⟨i, σ3, H3, I3, st3, fr3, w3⟩
  rcases turn i n σ3 H3 w3 with ⟨stop, qn⟩ | ⟨go, N, hN, step⟩
  · refine wpAny_passesOwn hp (thn (T.done X rfl rfl rfl hc i pins s3 σ3 H3 X.xe I3 (stat fr3) st3 stop) fun r s4 ⟨hr, I4⟩ => ?_)
    subst hr
    exact wpAny_execs_nil ⟨σ3, H3, I4, qn⟩
  · refine wpAny_passesOwn hp (thn (T.item X rfl rfl rfl hc i pins s3 σ3 H3 X.xe I3 (stat fr3) st3 go) fun r s4 ⟨u, hr, h4⟩ => ?_)
    subst hr
    refine wpAny_passesOwn hp (thn h4 fun _ s5 ⟨x, H5, I5, r5, y5, st5, fr5⟩ => ?_)
    have I5' := I5.pinned (stat fr5) (T.obj _ _ st5)
    refine wpAny_passesOwn hp (thn (hg _ s5 σ3 H5 x u _ I5' r5 (step x H5 y5)) fun _ s6 ⟨σ6, H6, I6, q6⟩ => ?_)
    refine wpAny_passesOwn hp (thn (hb _ s6 σ6 H6 _ I6 q6) fun f s7 q7 => ?_)
    have again : ∀ {σ7 : St} {H7 : Hp}, Inv X (pins ++ pinsAt fp s5.heap) σ7 H7 s7 → N σ7 H7 → ∃ m, m < n ∧ ∃ i σ' H', Inv X pins σ' H' s7 ∧ tn i s7.heap ∧ (∀ b ∈ fp, H' b = none) ∧ W i m σ' H' := fun {σ7 H7} I7 n7 => by
      obtain ⟨m', hm, w7⟩ := hN σ7 H7 n7
      refine ⟨m', hm, i + 1, σ7, H7, I7.unpinned, T.keep _ _ _ st5 fun b hb o e => (I7.pin (b, o) (List.mem_append_right _ (List.mem_append_right _ (mem_pinsAt hb e)))).1, fun b hb => ?_, w7⟩
      obtain ⟨o, e, d⟩ := T.obj _ _ st5 b hb
      exact (I7.pin (b, o) (List.mem_append_right _ (List.mem_append_right _ (mem_pinsAt hb e)))).2.1
    cases f with
    | next => obtain ⟨σ7, H7, I7, n7⟩ := q7; exact again I7 n7
    | cont => obtain ⟨σ7, H7, I7, n7⟩ := q7; exact again I7 n7
    | brk => obtain ⟨σ7, H7, I7, q7⟩ := q7; exact ⟨σ7, H7, I7.unpinned, q7⟩
    | ret v => obtain ⟨x7, σ7, H7, I7, r7, q7⟩ := q7; exact ⟨x7, σ7, H7, I7.unpinned, r7, q7⟩
end

/-! ### the forms one uses -/
/-- over a list that the body leaves as it is -/
theorem for_list {K : PySem.W.Frag} {a : Addr} {xs : List V} {g : TG} {tb : TS} {D : Ends} {σ : St} {H : Hp} (Pv : Nat → St → Hp → Prop) (h0 : Pv 0 σ H) (hl : ∀ i σ H, i ≤ xs.length → Pv i σ H → SqL K H a xs)
    (hs : ∀ i x σ H, xs[i]? = some x → Pv i σ H → g x σ H fun σ2 H2 => tb { D with nx := Pv (i + 1), ct := Pv (i + 1), bk := D.nx } σ2 H2) (hd : ∀ σ H, Pv xs.length σ H → D.nx σ H) :
    ∃ W : Nat → Nat → St → Hp → Prop, (∃ m, W 0 m σ H) ∧ ∀ i m σ H, W i m σ H →
      ((Itl K a).stop i H ∧ D.nx σ H) ∨ ((Itl K a).go i H ∧ ∃ N : St → Hp → Prop, (∀ σ' H', N σ' H' → ∃ m', m' < m ∧ W (i + 1) m' σ' H') ∧ ∀ x H', (Itl K a).yld i H x H' → g x σ H' fun σ2 H2 => tb { D with nx := N, ct := N, bk := D.nx } σ2 H2) := by
  refine ⟨fun i m σ H => m = xs.length - i ∧ i ≤ xs.length ∧ Pv i σ H, ⟨xs.length, by simp, Nat.zero_le _, h0⟩, ?_⟩
  rintro i m σ H ⟨rfl, hi, p⟩
  have q := hl i σ H hi p
  by_cases hlt : i < xs.length
  · refine .inr ⟨⟨xs, xs[i], q, by simp [hlt]⟩, Pv (i + 1), fun σ' H' p' => ⟨xs.length - (i + 1), by omega, rfl, hlt, p'⟩, fun x H' y => ?_⟩
    obtain ⟨e, y⟩ := y
    subst e
    exact hs i x σ _ (y xs q) p
  · have e : i = xs.length := by omega
    subst e
    exact .inl ⟨⟨xs, q, Nat.le_refl _⟩, hd σ H p⟩
theorem for_tup {K : PySem.W.Frag} {a : Addr} {xs : List V} {g : TG} {tb : TS} {D : Ends} {σ : St} {H : Hp} (Pv : Nat → St → Hp → Prop) (h0 : Pv 0 σ H) (hl : ∀ i σ H, i ≤ xs.length → Pv i σ H → SqT K H a xs)
    (hs : ∀ i x σ H, xs[i]? = some x → Pv i σ H → g x σ H fun σ2 H2 => tb { D with nx := Pv (i + 1), ct := Pv (i + 1), bk := D.nx } σ2 H2) (hd : ∀ σ H, Pv xs.length σ H → D.nx σ H) :
    ∃ W : Nat → Nat → St → Hp → Prop, (∃ m, W 0 m σ H) ∧ ∀ i m σ H, W i m σ H →
      ((Itt K a).stop i H ∧ D.nx σ H) ∨ ((Itt K a).go i H ∧ ∃ N : St → Hp → Prop, (∀ σ' H', N σ' H' → ∃ m', m' < m ∧ W (i + 1) m' σ' H') ∧ ∀ x H', (Itt K a).yld i H x H' → g x σ H' fun σ2 H2 => tb { D with nx := N, ct := N, bk := D.nx } σ2 H2) := by
  refine ⟨fun i m σ H => m = xs.length - i ∧ i ≤ xs.length ∧ Pv i σ H, ⟨xs.length, by simp, Nat.zero_le _, h0⟩, ?_⟩
  rintro i m σ H ⟨rfl, hi, p⟩
  have q := hl i σ H hi p
  by_cases hlt : i < xs.length
  · refine .inr ⟨⟨xs, xs[i], q, by simp [hlt]⟩, Pv (i + 1), fun σ' H' p' => ⟨xs.length - (i + 1), by omega, rfl, hlt, p'⟩, fun x H' y => ?_⟩
    obtain ⟨e, y⟩ := y
    subst e
    exact hs i x σ _ (y xs q) p
  · have e : i = xs.length := by omega
    subst e
    exact .inl ⟨⟨xs, q, Nat.le_refl _⟩, hd σ H p⟩
theorem for_range {lo : Int} {n : Nat} {g : TG} {tb : TS} {D : Ends} {σ : St} {H : Hp} (Pv : Nat → St → Hp → Prop) (h0 : Pv 0 σ H)
    (hs : ∀ i σ H, i < n → Pv i σ H → g (.int (lo + i)) σ H fun σ2 H2 => tb { D with nx := Pv (i + 1), ct := Pv (i + 1), bk := D.nx } σ2 H2) (hd : ∀ σ H, Pv n σ H → D.nx σ H) :
    ∃ W : Nat → Nat → St → Hp → Prop, (∃ m, W 0 m σ H) ∧ ∀ i m σ H, W i m σ H →
      ((Itr lo n).stop i H ∧ D.nx σ H) ∨ ((Itr lo n).go i H ∧ ∃ N : St → Hp → Prop, (∀ σ' H', N σ' H' → ∃ m', m' < m ∧ W (i + 1) m' σ' H') ∧ ∀ x H', (Itr lo n).yld i H x H' → g x σ H' fun σ2 H2 => tb { D with nx := N, ct := N, bk := D.nx } σ2 H2) := by
  refine ⟨fun i m σ H => m = n - i ∧ i ≤ n ∧ Pv i σ H, ⟨n, by simp, Nat.zero_le _, h0⟩, ?_⟩
  rintro i m σ H ⟨rfl, hi, p⟩
  by_cases hlt : i < n
  · refine .inr ⟨hlt, Pv (i + 1), fun σ' H' p' => ⟨n - (i + 1), by omega, rfl, hlt, p'⟩, fun x H' y => ?_⟩
    obtain ⟨e, y⟩ := y
    subst e y
    exact hs i σ _ hlt p
  · have e : i = n := by omega
    subst e
    exact .inl ⟨Nat.le_refl _, hd σ H p⟩
/-- while, by a word and a measure of the state -/
theorem while_by {c : TT} {tb : TS} {D : Ends} {σ : St} {H : Hp} (Pv : St → Hp → Prop) (μ : St → Hp → Nat) (h0 : Pv σ H)
    (hs : ∀ σ H, Pv σ H → c σ H fun b H1 => if b = true then tb { D with nx := fun σ' H' => Pv σ' H' ∧ μ σ' H' < μ σ H, ct := fun σ' H' => Pv σ' H' ∧ μ σ' H' < μ σ H, bk := D.nx } σ H1 else D.nx σ H1)
    (mono : ∀ σ H Q Q', (∀ b H1, Q b H1 → Q' b H1) → c σ H Q → c σ H Q') : tWhile c tb D σ H := by
  refine ⟨fun m σ H => m = μ σ H ∧ Pv σ H, ⟨_, rfl, h0⟩, ?_⟩
  rintro m σ H ⟨rfl, p⟩
  refine mono σ H _ _ (fun b H1 q => ?_) (hs σ H p)
  cases b with
  | true => exact ⟨_, fun σ' H' ⟨p', l⟩ => ⟨_, l, rfl, p'⟩, q⟩
  | false => exact q
end L2

namespace L2
open PySem PySem.Spec PyProof.Rows

abbrev R2 := V → V → Hp → VK → Prop
/-- a two-place operation on values: f is binaryOp op, inplaceOp op or compareOp op -/
def OpR (X : Cx) (f : Value → Value → Sem Value) (r : R2) : Prop :=
  ∀ (pins : List (Addr × Obj)) (s : Shared) (σ : St) (H : Hp) (x y : V) (v u : Value) (Q : VK), Inv X pins σ H s → RelV x v → RelV y u → r x y H Q →
    wpAny (model X.prog X.w) X.A (f v u) (EP X pins σ Q) X.xe s
/-- a one-place operation -/
def UnR (X : Cx) (f : Value → Sem Value) (r : V → Hp → VK → Prop) : Prop :=
  ∀ (pins : List (Addr × Obj)) (s : Shared) (σ : St) (H : Hp) (x : V) (v : Value) (Q : VK), Inv X pins σ H s → RelV x v → r x H Q →
    wpAny (model X.prog X.w) X.A (f v) (EP X pins σ Q) X.xe s
/-- a call of a value that is known (a builtin, a type) with values -/
def CallR (X : Cx) (f : Value) (r : List V → Hp → VK → Prop) : Prop :=
  ∀ (pins : List (Addr × Obj)) (s : Shared) (σ : St) (H : Hp) (xs : List V) (us : List Value) (Q : VK), Inv X pins σ H s → Vals xs us → r xs H Q →
    wpAny (model X.prog X.w) X.A (call f us) (EP X pins σ Q) X.xe s
/-- a value's truth -/
def TruR (X : Cx) (r : V → Hp → (Bool → Hp → Prop) → Prop) : Prop :=
  ∀ (pins : List (Addr × Obj)) (s : Shared) (σ : St) (H : Hp) (x : V) (v : Value) (Q : Bool → Hp → Prop), Inv X pins σ H s → RelV x v → r x H Q →
    wpAny (model X.prog X.w) X.A (truthy v) (TP X pins σ Q) X.xe s

def tOp (r : R2) (ta tb : TE) : TE := fun σ H Q => ta σ H fun x H1 => tb σ H1 fun y H2 => r x y H2 Q
def tUn (r : V → Hp → VK → Prop) (ta : TE) : TE := fun σ H Q => ta σ H fun x H1 => r x H1 Q
/-- ints in, under C, and a value out -/
def rI (C : Int → Int → Prop) (g : Int → Int → V) : R2 := fun x y H Q => ∃ i j, x = .int i ∧ y = .int j ∧ C i j ∧ Q (g i j) H
def rI0 (g : Int → Int → V) : R2 := fun x y H Q => ∃ i j, x = .int i ∧ y = .int j ∧ Q (g i j) H
def rU (g : Int → V) : V → Hp → VK → Prop := fun x H Q => ∃ i, x = .int i ∧ Q (g i) H

section
variable {X : Cx} {a b c : Expr} {ta tb tc : TE} {pos : Pos}

theorem binT (ha : PE X a ta) (hb : PE X b tb) {pins : List (Addr × Obj)} {s : Shared} {σ : St} {H : Hp} {R : V → V → Hp → Prop} (I : Inv X pins σ H s)
    (h : ta σ H fun x H1 => tb σ H1 fun y H2 => R x y H2) {Q : Value → Shared → Prop} {f : Value → Value → Sem Value}
    (hf : ∀ v u s2 x y H2, Inv X pins σ H2 s2 → RelV x v → RelV y u → R x y H2 → wpAny (model X.prog X.w) X.A (f v u) Q X.xe s2) :
    wpAny (model X.prog X.w) X.A (eval a X.env) (fun v s₁ => wpAny (model X.prog X.w) X.A (eval b X.env) (fun u s₂ => wpAny (model X.prog X.w) X.A (f v u) Q X.xe s₂) X.xe s₁) X.xe s := by
  refine thn (ha pins s σ H _ I h) fun v s1 ⟨x, H1, I1, r1, q1⟩ => ?_
  refine thn (hb pins s1 σ H1 _ I1 q1) fun u s2 ⟨y, H2, I2, r2, q2⟩ => ?_
  exact hf v u s2 x y H2 I2 r1 r2 q2

theorem pe_op {op : Operator} {r : R2} (ho : OpR X (binaryOp op) r) (ha : PE X a ta) (hb : PE X b tb) : PE X (.BinOp a op b pos) (tOp r ta tb) := by
  intro pins s σ H Q I h
  exact wpAny_BinOp (binT ha hb I h fun v u s2 x y H2 I2 rx ry q => ho pins s2 σ H2 x y v u Q I2 rx ry q)
theorem pe_un {op : UnaryOp} {r : V → Hp → VK → Prop} (ho : UnR X (unaryOp op) r) (ha : PE X a ta) : PE X (.UnaryOp op a pos) (tUn r ta) := by
  intro pins s σ H Q I h
  exact UnaryOp_ (thn (ha pins s σ H _ I h) fun v s1 ⟨x, H1, I1, r1, q1⟩ => ho pins s1 σ H1 x v Q I1 r1 q1)
/-- a op= e at a name: the name's slot i -/
theorem augR {op : Operator} {r : R2} (ho : OpR X (inplaceOp op) r) {pins : List (Addr × Obj)} {s : Shared} {σ : St} {H : Hp} {x y : V} {v u : Value} {Q : VK} (I : Inv X pins σ H s)
    (rx : RelV x v) (ry : RelV y u) (q : r x y H Q) : wpAny (model X.prog X.w) X.A (inplaceOp op v u) (EP X pins σ Q) X.xe s := ho pins s σ H x y v u Q I rx ry q

/-! ### ints -/
theorem opI {f : Value → Value → Sem Value} {C : Int → Int → Prop} {g : Int → Int → Int}
    (rule : ∀ (i j : Int) (t u : Tok) (s : Shared) (Q : Value → Shared → Prop) (E : Value → Shared → Prop), C i j → Q (.int (g i j) s.toks) { s with toks := s.toks + 1 } → wpAny (model X.prog X.w) X.A (f (.int i t) (.int j u)) Q E s) :
    OpR X f (rI C fun i j => .int (g i j)) := by
  intro pins s σ H x y v u Q I rx ry h
  obtain ⟨i, j, rfl, rfl, hc, q⟩ := h
  obtain ⟨t, rfl⟩ := rx
  obtain ⟨t', rfl⟩ := ry
  exact rule i j t t' s _ _ hc ⟨.int (g i j), H, I.tok _, ⟨_, rfl⟩, q⟩
theorem opI0 {f : Value → Value → Sem Value} {g : Int → Int → Int}
    (rule : ∀ (i j : Int) (t u : Tok) (s : Shared) (Q : Value → Shared → Prop) (E : Value → Shared → Prop), Q (.int (g i j) s.toks) { s with toks := s.toks + 1 } → wpAny (model X.prog X.w) X.A (f (.int i t) (.int j u)) Q E s) :
    OpR X f (rI0 fun i j => .int (g i j)) := by
  intro pins s σ H x y v u Q I rx ry h
  obtain ⟨i, j, rfl, rfl, q⟩ := h
  obtain ⟨t, rfl⟩ := rx
  obtain ⟨t', rfl⟩ := ry
  exact rule i j t t' s _ _ ⟨.int (g i j), H, I.tok _, ⟨_, rfl⟩, q⟩
theorem opB0 {f : Value → Value → Sem Value} {g : Int → Int → Bool}
    (rule : ∀ (i j : Int) (t u : Tok) (s : Shared) (Q : Value → Shared → Prop) (E : Value → Shared → Prop), Q (.bool (g i j)) s → wpAny (model X.prog X.w) X.A (f (.int i t) (.int j u)) Q E s) :
    OpR X f (rI0 fun i j => .bl (g i j)) := by
  intro pins s σ H x y v u Q I rx ry h
  obtain ⟨i, j, rfl, rfl, q⟩ := h
  obtain ⟨t, rfl⟩ := rx
  obtain ⟨t', rfl⟩ := ry
  exact rule i j t t' s _ _ ⟨.bl (g i j), H, I, rfl, q⟩

def CDiv (i j : Int) : Prop := 0 < j ∧ j < 1073741824
def CDivN (i j : Int) : Prop := j ≠ 0 ∧ j.natAbs < 1073741824
def CPow (i j : Int) : Prop := 0 ≤ j ∧ j ≤ 1000000 ∧ i.natAbs < 2 ^ 64
def CMul (i j : Int) : Prop := (-(2 ^ 64) < i ∧ i < 2 ^ 64) ∨ (-(2 ^ 64) < j ∧ j < 2 ^ 64)
theorem CMul.ok {i j : Int} (h : CMul i j) : IntMulOk i j := by
  rcases h with ⟨h1, h2⟩ | ⟨h1, h2⟩
  · exact .of_left (intBits_le_64 h1 h2)
  · exact .of_right (intBits_le_64 h1 h2)
theorem two_pow_nn (k : Nat) : (0 : Int) ≤ 2 ^ k := by
  rw [two_pow_cast]
  exact Int.natCast_nonneg _

theorem op_add : OpR X (binaryOp .Add) (rI0 fun i j => .int (i + j)) := opI0 fun _ _ _ _ _ _ _ q => add_int q
theorem op_sub : OpR X (binaryOp .Sub) (rI0 fun i j => .int (i - j)) := opI0 fun _ _ _ _ _ _ _ q => sub_int q
theorem op_mul : OpR X (binaryOp .Mult) (rI CMul fun i j => .int (i * j)) := opI fun _ _ _ _ _ _ _ hc q => mul_int q hc.ok
/-- // by a positive divisor -/
theorem op_fdiv : OpR X (binaryOp .FloorDiv) (rI CDiv fun i j => .int (i / j)) := opI fun i j _ _ _ _ _ hc q => by
  have h1 : (0 : Int) < j := hc.1
  have h2 : j < 1073741824 := hc.2
  exact floordiv_int (by omega) (by rw [Int.fdiv_eq_ediv_of_nonneg i (by omega)]; exact q) (.inl (PyProof.noPylong_small (by omega)))
theorem op_fdivN : OpR X (binaryOp .FloorDiv) (rI CDivN fun i j => .int (i.fdiv j)) := opI fun _ _ _ _ _ _ _ hc q => floordiv_int hc.1 q (.inl (PyProof.noPylong_small hc.2))
/-- % by a positive divisor of any size -/
theorem op_mod : OpR X (binaryOp .Mod) (rI (fun _ j => 0 < j) fun i j => .int (i % j)) := opI fun i j _ _ _ _ _ hc q => by
  have h1 : (0 : Int) < j := hc
  exact mod_int' (by omega) (by rw [Int.fmod_eq_emod_of_nonneg i (by omega)]; exact q)
theorem op_modN : OpR X (binaryOp .Mod) (rI (fun _ j => j ≠ 0) fun i j => .int (i.fmod j)) := opI fun _ _ _ _ _ _ _ hc q => mod_int' hc q
theorem op_pow : OpR X (binaryOp .Pow) (rI CPow fun i j => .int (i ^ j.toNat)) := opI fun _ _ _ _ _ _ _ hc q => pow_int_small hc.1 hc.2.1 hc.2.2 q
theorem op_shl : OpR X (binaryOp .LShift) (rI CPow fun i j => .int (i * 2 ^ j.toNat)) := opI fun _ _ _ _ _ _ _ hc q => lshift_int_small hc.1 hc.2.1 hc.2.2 q
theorem op_shr : OpR X (binaryOp .RShift) (rI (fun _ j => 0 ≤ j) fun i j => .int (i / 2 ^ j.toNat)) := opI fun i j _ _ _ _ _ hc q =>
  rshift_int hc (by rw [Int.fdiv_eq_ediv_of_nonneg i (two_pow_nn _)]; exact q)
theorem op_and : OpR X (binaryOp .BitAnd) (rI0 fun i j => .int (Builtin.bitAnd i j)) := opI0 fun _ _ _ _ _ _ _ q => and_int q
theorem op_or : OpR X (binaryOp .BitOr) (rI0 fun i j => .int (Builtin.bitOr i j)) := opI0 fun _ _ _ _ _ _ _ q => or_int q
theorem op_xor : OpR X (binaryOp .BitXor) (rI0 fun i j => .int (Builtin.bitXor i j)) := opI0 fun _ _ _ _ _ _ _ q => xor_int q

theorem iop_add : OpR X (inplaceOp .Add) (rI0 fun i j => .int (i + j)) := opI0 fun _ _ _ _ _ _ _ q => iadd_int q
theorem iop_sub : OpR X (inplaceOp .Sub) (rI0 fun i j => .int (i - j)) := opI0 fun _ _ _ _ _ _ _ q => isub_int q
theorem iop_mul : OpR X (inplaceOp .Mult) (rI CMul fun i j => .int (i * j)) := opI fun _ _ _ _ _ _ _ hc q => imul_int q hc.ok
theorem iop_fdiv : OpR X (inplaceOp .FloorDiv) (rI CDiv fun i j => .int (i / j)) := opI fun i j _ _ _ _ _ hc q => by
  have h1 : (0 : Int) < j := hc.1
  have h2 : j < 1073741824 := hc.2
  exact ifloordiv_int (by omega) (by rw [Int.fdiv_eq_ediv_of_nonneg i (by omega)]; exact q) (.inl (PyProof.noPylong_small (by omega)))
theorem iop_mod : OpR X (inplaceOp .Mod) (rI (fun _ j => 0 < j) fun i j => .int (i % j)) := opI fun i j _ _ _ _ _ hc q => by
  have h1 : (0 : Int) < j := hc
  exact imod_int (by omega) (by rw [Int.fmod_eq_emod_of_nonneg i (by omega)]; exact q)
theorem iop_shl : OpR X (inplaceOp .LShift) (rI CPow fun i j => .int (i * 2 ^ j.toNat)) := opI fun _ _ _ _ _ _ _ hc q => ilshift_int_small hc.1 hc.2.1 hc.2.2 q
theorem iop_shr : OpR X (inplaceOp .RShift) (rI (fun _ j => 0 ≤ j) fun i j => .int (i / 2 ^ j.toNat)) := opI fun i j _ _ _ _ _ hc q =>
  irshift_int hc (by rw [Int.fdiv_eq_ediv_of_nonneg i (two_pow_nn _)]; exact q)
theorem iop_and : OpR X (inplaceOp .BitAnd) (rI0 fun i j => .int (Builtin.bitAnd i j)) := opI0 fun _ _ _ _ _ _ _ q => iand_int q
theorem iop_or : OpR X (inplaceOp .BitOr) (rI0 fun i j => .int (Builtin.bitOr i j)) := opI0 fun _ _ _ _ _ _ _ q => ior_int q
theorem iop_xor : OpR X (inplaceOp .BitXor) (rI0 fun i j => .int (Builtin.bitXor i j)) := opI0 fun _ _ _ _ _ _ _ q => ixor_int q

theorem unI {f : Value → Sem Value} {g : Int → Int}
    (rule : ∀ (i : Int) (t : Tok) (s : Shared) (Q : Value → Shared → Prop) (E : Value → Shared → Prop), Q (.int (g i) s.toks) { s with toks := s.toks + 1 } → wpAny (model X.prog X.w) X.A (f (.int i t)) Q E s) :
    UnR X f (rU fun i => .int (g i)) := by
  intro pins s σ H x v Q I rx h
  obtain ⟨i, rfl, q⟩ := h
  obtain ⟨t, rfl⟩ := rx
  exact rule i t s _ _ ⟨.int (g i), H, I.tok _, ⟨_, rfl⟩, q⟩
theorem un_neg : UnR X (unaryOp .USub) (rU fun i => .int (-i)) := unI fun _ _ _ _ _ q => neg_int q
theorem un_inv : UnR X (unaryOp .Invert) (rU fun i => .int (Builtin.bitNot i)) := unI fun _ _ _ _ _ q => invert_int q

/-! ### bools among ints: n += (a < b) -/
theorem op_add_ib : OpR X (binaryOp .Add) (fun x y H Q => ∃ i k, x = .int i ∧ y = .bl k ∧ Q (.int (i + b2i k)) H) := by
  intro pins s σ H x y v u Q I rx ry h
  obtain ⟨i, k, rfl, rfl, q⟩ := h
  obtain ⟨t, rfl⟩ := rx
  cases ry
  exact add_int_bool ⟨.int (i + b2i k), H, I.tok _, ⟨_, rfl⟩, q⟩
end

/-! ### comparisons -/
/-- the scalars that == tells apart as data does -/
def scal : V → V → Bool
  | .non, .non => true | .non, .int _ => true | .int _, .non => true | .non, .bl _ => true | .bl _, .non => true | .non, .str _ => true | .str _, .non => true
  | .int _, .int _ => true | .bl _, .bl _ => true | .str _, .str _ => true | .byt _, .byt _ => true
  | .int _, .str _ => true | .str _, .int _ => true | .bl _, .str _ => true | .str _, .bl _ => true
  | _, _ => false
def rEq : R2 := fun x y H Q => scal x y = true ∧ Q (.bl (decide (x = y))) H
def rNe : R2 := fun x y H Q => scal x y = true ∧ Q (.bl (!decide (x = y))) H

theorem dec_int {i j : Int} : decide (V.int i = V.int j) = (i == j) := by
  rw [Bool.eq_iff_iff]
  simp
theorem dec_bl {i j : Bool} : decide (V.bl i = V.bl j) = (i == j) := by
  rw [Bool.eq_iff_iff]
  simp
theorem dec_str {i j : Str} : decide (V.str i = V.str j) = (i == j) := by
  rw [Bool.eq_iff_iff]
  simp
theorem dec_byt {i j : Array UInt8} : decide (V.byt i = V.byt j) = (i.toList == j.toList) := by
  rw [Bool.eq_iff_iff]
  cases i
  cases j
  simp

section
variable {X : Cx} {a b c : Expr} {ta tb tc : TE} {pos : Pos}
theorem fin_bl {pins : List (Addr × Obj)} {σ : St} {H : Hp} {s : Shared} {Q : VK} {k k' : Bool} (I : Inv X pins σ H s) (q : Q (.bl k) H) (e : k = k') : EP X pins σ Q (.bool k') s := by
  subst e
  exact ⟨.bl k, H, I, rfl, q⟩
theorem op_eq : OpR X (compareOp .Eq) rEq := by
  intro pins s σ H x y v u Q I rx ry h
  obtain ⟨hs, q⟩ := h
  cases x with
  | non =>
    cases rx
    cases y with
    | non => cases ry; exact PySem.EqNone.eq_none_none (fin_bl I q (by simp))
    | bl j => cases ry; exact PySem.EqNone.eq_none_bool (fin_bl I q (by simp))
    | int j => obtain ⟨t', rfl⟩ := ry; exact PySem.EqNone.eq_none_int (fin_bl I q (by simp))
    | str j => obtain ⟨t', rfl⟩ := ry; exact PySem.EqNone.eq_none_str (fin_bl I q (by simp))
    | _ => exact absurd (show false = true from hs) Bool.false_ne_true
  | bl i =>
    cases rx
    cases y with
    | non => cases ry; exact PySem.EqNone.eq_bool_none (fin_bl I q (by simp))
    | bl j => cases ry; exact eq_bool (fin_bl I q dec_bl)
    | str j => obtain ⟨t', rfl⟩ := ry; exact PySem.EqMixed.eq_bool_str (fin_bl I q (by simp))
    | _ => exact absurd (show false = true from hs) Bool.false_ne_true
  | int i =>
    obtain ⟨t, rfl⟩ := rx
    cases y with
    | non => cases ry; exact PySem.EqNone.eq_int_none (fin_bl I q (by simp))
    | int j => obtain ⟨t', rfl⟩ := ry; exact eq_int (fin_bl I q dec_int)
    | str j => obtain ⟨t', rfl⟩ := ry; exact PySem.EqMixed.eq_int_str (fin_bl I q (by simp))
    | _ => exact absurd (show false = true from hs) Bool.false_ne_true
  | str i =>
    obtain ⟨t, rfl⟩ := rx
    cases y with
    | non => cases ry; exact PySem.EqNone.eq_str_none (fin_bl I q (by simp))
    | bl j => cases ry; exact PySem.EqMixed.eq_str_bool (fin_bl I q (by simp))
    | int j => obtain ⟨t', rfl⟩ := ry; exact PySem.EqMixed.eq_str_int (fin_bl I q (by simp))
    | str j => obtain ⟨t', rfl⟩ := ry; exact eq_str (fin_bl I q dec_str)
    | _ => exact absurd (show false = true from hs) Bool.false_ne_true
  | byt i =>
    obtain ⟨t, rfl⟩ := rx
    cases y with
    | byt j => obtain ⟨t', rfl⟩ := ry; exact PySem.W.eq_bytes (fin_bl I q dec_byt)
    | _ => exact absurd (show false = true from hs) Bool.false_ne_true
  | _ => cases y <;> exact absurd (show false = true from hs) Bool.false_ne_true
theorem op_ne : OpR X (compareOp .NotEq) rNe := by
  intro pins s σ H x y v u Q I rx ry h
  obtain ⟨hs, q⟩ := h
  cases x with
  | non =>
    cases rx
    cases y with
    | non => cases ry; exact PySem.EqNone.ne_none_none (fin_bl I q (by simp))
    | bl j => cases ry; exact PySem.EqNone.ne_none_bool (fin_bl I q (by simp))
    | int j => obtain ⟨t', rfl⟩ := ry; exact PySem.EqNone.ne_none_int (fin_bl I q (by simp))
    | str j => obtain ⟨t', rfl⟩ := ry; exact PySem.EqNone.ne_none_str (fin_bl I q (by simp))
    | _ => exact absurd (show false = true from hs) Bool.false_ne_true
  | bl i =>
    cases rx
    cases y with
    | non => cases ry; exact PySem.EqNone.ne_bool_none (fin_bl I q (by simp))
    | bl j => cases ry; exact ne_bool (fin_bl I q (congrArg not dec_bl))
    | str j => obtain ⟨t', rfl⟩ := ry; exact PySem.EqMixed.ne_bool_str (fin_bl I q (by simp))
    | _ => exact absurd (show false = true from hs) Bool.false_ne_true
  | int i =>
    obtain ⟨t, rfl⟩ := rx
    cases y with
    | non => cases ry; exact PySem.EqNone.ne_int_none (fin_bl I q (by simp))
    | int j => obtain ⟨t', rfl⟩ := ry; exact ne_int (fin_bl I q (congrArg not dec_int))
    | str j => obtain ⟨t', rfl⟩ := ry; exact PySem.EqMixed.ne_int_str (fin_bl I q (by simp))
    | _ => exact absurd (show false = true from hs) Bool.false_ne_true
  | str i =>
    obtain ⟨t, rfl⟩ := rx
    cases y with
    | non => cases ry; exact PySem.EqNone.ne_str_none (fin_bl I q (by simp))
    | bl j => cases ry; exact PySem.EqMixed.ne_str_bool (fin_bl I q (by simp))
    | int j => obtain ⟨t', rfl⟩ := ry; exact PySem.EqMixed.ne_str_int (fin_bl I q (by simp))
    | str j => obtain ⟨t', rfl⟩ := ry; exact ne_str (fin_bl I q (congrArg not dec_str))
    | _ => exact absurd (show false = true from hs) Bool.false_ne_true
  | byt i =>
    obtain ⟨t, rfl⟩ := rx
    cases y with
    | byt j => obtain ⟨t', rfl⟩ := ry; exact PySem.W.ne_bytes (fin_bl I q (congrArg not dec_byt))
    | _ => exact absurd (show false = true from hs) Bool.false_ne_true
  | _ => cases y <;> exact absurd (show false = true from hs) Bool.false_ne_true

theorem op_lt : OpR X (compareOp .Lt) (rI0 fun i j => .bl (decide (i < j))) := opB0 fun _ _ _ _ _ _ _ q => lt_int q
theorem op_le : OpR X (compareOp .LtE) (rI0 fun i j => .bl (decide (i ≤ j))) := opB0 fun _ _ _ _ _ _ _ q => le_int q
theorem op_gt : OpR X (compareOp .Gt) (rI0 fun i j => .bl (decide (j < i))) := opB0 fun _ _ _ _ _ _ _ q => gt_int q
theorem op_ge : OpR X (compareOp .GtE) (rI0 fun i j => .bl (decide (j ≤ i))) := opB0 fun _ _ _ _ _ _ _ q => ge_int q
theorem op_lt_str : OpR X (compareOp .Lt) (fun x y H Q => ∃ i j, x = .str i ∧ y = .str j ∧ Q (.bl (decide (i.cps.toList < j.cps.toList))) H) := by
  intro pins s σ H x y v u Q I rx ry h
  obtain ⟨i, j, rfl, rfl, q⟩ := h
  obtain ⟨t, rfl⟩ := rx
  obtain ⟨t', rfl⟩ := ry
  exact lt_str (fin_bl I q rfl)
/-- the one string within the other -/
theorem op_in_str : OpR X (compareOp .In) (fun x y H Q => ∃ i j, x = .str i ∧ y = .str j ∧ Q (.bl (!(Builtin.Str.occurrences j i 0 j.length 1).isEmpty)) H) := by
  intro pins s σ H x y v u Q I rx ry h
  obtain ⟨i, j, rfl, rfl, q⟩ := h
  obtain ⟨t, rfl⟩ := rx
  obtain ⟨t', rfl⟩ := ry
  exact in_str (fin_bl I q rfl)

/-- is None, is not None: the right side a value none -/
theorem op_isN : OpR X (compareOp .Is) (fun x y H Q => y = .non ∧ Q (.bl (decide (x = .non))) H) := by
  intro pins s σ H x y v u Q I rx ry h
  obtain ⟨rfl, q⟩ := h
  cases ry
  refine is_none_gen (fin_bl I q ?_)
  cases x <;> first
    | (cases rx; rfl)
    | (obtain ⟨t, rfl⟩ := rx; rfl)
theorem op_notN : OpR X (compareOp .IsNot) (fun x y H Q => y = .non ∧ Q (.bl (!decide (x = .non))) H) := by
  intro pins s σ H x y v u Q I rx ry h
  obtain ⟨rfl, q⟩ := h
  cases ry
  refine isnot_none_gen (fin_bl I q ?_)
  cases x <;> first
    | (cases rx; rfl)
    | (obtain ⟨t, rfl⟩ := rx; rfl)

theorem op_notin_str : OpR X (compareOp .NotIn) (fun x y H Q => ∃ i j, x = .str i ∧ y = .str j ∧ Q (.bl (!(!(Builtin.Str.occurrences j i 0 j.length 1).isEmpty))) H) := by
  intro pins s σ H x y v u Q I rx ry h
  obtain ⟨i, j, rfl, rfl, q⟩ := h
  obtain ⟨t, rfl⟩ := rx
  obtain ⟨t', rfl⟩ := ry
  exact notIn_str (fin_bl I q rfl)
/-- is, is not of two objects that are tracked lists or instances -/
def isObj : HO → Bool
  | .lst _ => true
  | .ins _ _ _ => true
  | _ => false
theorem obj_there {pins : List (Addr × Obj)} {s : Shared} {σ : St} {H : Hp} {a : Addr} {o : HO} (I : Inv X pins σ H s) (h : H a = some o) (p : isObj o = true) : ∃ ob, s.heap.get? a = some ob ∧ ob.cls ≠ .type "tuple" := by
  cases o with
  | lst xs =>
    obtain ⟨_, its, n, _, e⟩ : xs.length ≤ sizeLine ∧ ∃ (its : List Value) (n : Nat), Vals xs its ∧ s.heap.get? a = some { cls := .type "list", data := .seq its.toArray n } := I.hok a _ h
    exact ⟨_, e, (by show Value.type "list" ≠ .type "tuple"; decide +kernel)⟩
  | ins C dx fs =>
    have x := I.hok a _ h
    obtain ⟨_, _, _, e, _⟩ := x
    exact ⟨_, e, (by show Value.ref C ≠ .type "tuple"; exact fun z => by cases z)⟩
  | _ => exact absurd (show false = true from p) Bool.false_ne_true
theorem op_is_ref : OpR X (compareOp .Is) (fun x y H Q => ∃ a b oa ob, x = .ref a ∧ y = .ref b ∧ H a = some oa ∧ isObj oa = true ∧ H b = some ob ∧ isObj ob = true ∧ Q (.bl (decide (a = b))) H) := by
  intro pins s σ H x y v u Q I rx ry h
  obtain ⟨a, b, oa, ob, rfl, rfl, ha, pa, hb, pb, q⟩ := h
  cases rx
  cases ry
  obtain ⟨o1, e1, n1⟩ := obj_there I ha pa
  obtain ⟨o2, e2, _⟩ := obj_there I hb pb
  by_cases z : a = b
  · subst z
    exact wpAny_is_ref_self (fin_bl I q (by simp))
  · exact wpAny_is_ref_other z e1 e2 n1 (fin_bl I q (by simp [z]))
theorem op_isnot_ref : OpR X (compareOp .IsNot) (fun x y H Q => ∃ a b oa ob, x = .ref a ∧ y = .ref b ∧ H a = some oa ∧ isObj oa = true ∧ H b = some ob ∧ isObj ob = true ∧ Q (.bl (!decide (a = b))) H) := by
  intro pins s σ H x y v u Q I rx ry h
  obtain ⟨a, b, oa, ob, rfl, rfl, ha, pa, hb, pb, q⟩ := h
  cases rx
  cases ry
  obtain ⟨o1, e1, n1⟩ := obj_there I ha pa
  obtain ⟨o2, e2, _⟩ := obj_there I hb pb
  by_cases z : a = b
  · subst z
    exact wpAny_isNot_ref_self (fin_bl I q (by simp))
  · exact wpAny_isNot_ref_other z e1 e2 n1 (fin_bl I q (by simp [z]))

/-- two rules for one operation: by cases -/
theorem OpR.or {f : Value → Value → Sem Value} {r r' : R2} (h : OpR X f r) (h' : OpR X f r') : OpR X f (fun x y H Q => r x y H Q ∨ r' x y H Q) := by
  intro pins s σ H x y v u Q I rx ry q
  rcases q with q | q
  · exact h pins s σ H x y v u Q I rx ry q
  · exact h' pins s σ H x y v u Q I rx ry q

theorem nomark (b : Expr) {op : CmpOp} (h : op ≠ .In := by decide) (h2 : op ≠ .NotIn := by decide) : behindInMarks op b = false := by
  have e1 : (op == CmpOp.In) = false := by cases op <;> first | rfl | exact absurd rfl h
  have e2 : (op == CmpOp.NotIn) = false := by cases op <;> first | rfl | exact absurd rfl h2
  cases b <;> simp [behindInMarks, e1, e2]
/-- a comparison as a value; hm: nomark b, or (for in, not in) by with_unfolding_all rfl -/
theorem pe_cmpR {op : CmpOp} {r : R2} (ho : OpR X (compareOp op) r) (ha : PE X a ta) (hb : PE X b tb) (hm : behindInMarks op b = false) : PE X (.Compare a [op] [b] pos) (tOp r ta tb) := by
  intro pins s σ H Q I h
  exact wpAny_Compare1 (binT ha hb I h fun v u s2 x y H2 I2 rx ry q => ho pins s2 σ H2 x y v u Q I2 rx ry q) hm
/-- a reading of a value as a test -/
def tTest (t : TE) : TT := fun σ H Q => t σ H fun x H' => ∃ k, x = .bl k ∧ Q k H'
theorem pt_cmpR {op : CmpOp} {r : R2} (ho : OpR X (compareOp op) r) (ha : PE X a ta) (hb : PE X b tb) (hm : behindInMarks op b = false) : PT X (.Compare a [op] [b] pos) (tTest (tOp r ta tb)) := by
  intro pins s σ H Q I h
  refine wpAny_isTrue_Compare1 (thn (ha pins s σ H _ I h) fun v s1 ⟨x, H1, I1, r1, q1⟩ => thn (hb pins s1 σ H1 _ I1 q1) fun u s2 ⟨y, H2, I2, r2, q2⟩ =>
    thn (ho pins s2 σ H2 x y v u _ I2 r1 r2 q2) fun c s3 ⟨z, H3, I3, r3, k, e, q3⟩ => ?_) hm
  subst e
  cases r3
  exact wpAny_truthy_bool ⟨H3, I3, q3⟩
/-- a op1 b op2 c -/
def tChain (r r' : R2) (ta tb tc : TE) : TE := fun σ H Q => ta σ H fun x H1 => tb σ H1 fun y H2 => r x y H2 fun z H3 => ∃ k, z = .bl k ∧
  (if k = true then tc σ H3 fun w' H4 => r' y w' H4 Q else Q (.bl false) H3)
theorem pe_chain {op op' : CmpOp} {r r' : R2} (ho : OpR X (compareOp op) r) (ho' : OpR X (compareOp op') r') (ha : PE X a ta) (hb : PE X b tb) (hc : PE X c tc)
    (hm : lastMarks [op, op'] [b, c] = false := by with_unfolding_all rfl) : PE X (.Compare a [op, op'] [b, c] pos) (tChain r r' ta tb tc) := by
  intro pins s σ H Q I h
  refine Compare_chain (thn (ha pins s σ H _ I h) fun v s1 ⟨x, H1, I1, r1, q1⟩ => chain_link (thn (hb pins s1 σ H1 _ I1 q1) fun u s2 ⟨y, H2, I2, r2, q2⟩ =>
    thn (ho pins s2 σ H2 x y v u _ I2 r1 r2 q2) fun d s3 ⟨z, H3, I3, r3, k, e, q3⟩ => ?_)) hm
  subst e
  cases r3
  refine wpAny_truthy_bool ?_
  cases k with
  | false => exact ite_ff ⟨.bl false, H3, I3, rfl, q3⟩
  | true => exact ite_tt (chain_last (thn (hc pins s3 σ H3 _ I3 q3) fun w' s4 ⟨z', H4, I4, r4, q4⟩ => ho' pins s4 σ H4 y z' u w' Q I4 r2 r4 q4))
theorem pt_chain {op op' : CmpOp} {r r' : R2} (ho : OpR X (compareOp op) r) (ho' : OpR X (compareOp op') r') (ha : PE X a ta) (hb : PE X b tb) (hc : PE X c tc)
    (hm : lastMarks [op, op'] [b, c] = false := by with_unfolding_all rfl) : PT X (.Compare a [op, op'] [b, c] pos) (tTest (tChain r r' ta tb tc)) := by
  intro pins s σ H Q I h
  refine isTrue_chain (thn (ha pins s σ H _ I h) fun v s1 ⟨x, H1, I1, r1, q1⟩ => test_link (thn (hb pins s1 σ H1 _ I1 q1) fun u s2 ⟨y, H2, I2, r2, q2⟩ =>
    thn (ho pins s2 σ H2 x y v u _ I2 r1 r2 q2) fun d s3 ⟨z, H3, I3, r3, k, e, q3⟩ => ?_)) hm
  subst e
  cases r3
  refine wpAny_truthy_bool ?_
  cases k with
  | false =>
    obtain ⟨k', e', q'⟩ := q3
    cases e'
    exact ite_ff ⟨H3, I3, q'⟩
  | true =>
    refine ite_tt (test_last (thn (hc pins s3 σ H3 _ I3 q3) fun w' s4 ⟨z', H4, I4, r4, q4⟩ => thn (ho' pins s4 σ H4 y z' u w' _ I4 r2 r4 q4) fun d' s5 ⟨z2, H5, I5, r5, k2, e2, q5⟩ => ?_))
    subst e2
    cases r5
    exact wpAny_truthy_bool ⟨H5, I5, q5⟩

/-! ### truth -/
/-- a value's truth by the abstract heap -/
def TruV (K : PySem.W.Frag) (x : V) (H : Hp) (k : Bool) : Prop :=
  match x with
  | .non => k = false
  | .bl b => k = b
  | .int i => k = (i != 0)
  | .str y => y.length ≤ sizeLine ∧ k = ((y.length : Int) != 0)
  | .byt y => y.size ≤ sizeLine ∧ k = ((y.size : Int) != 0)
  | .ref p => (∃ xs, SqL K H p xs ∧ k = !xs.isEmpty) ∨ (∃ xs, SqT K H p xs ∧ k = !xs.isEmpty) ∨ ∃ kvs, H p = some (.dK kvs) ∧ k = !kvs.isEmpty
  | _ => False
theorem isEmpty_kv {κ : Type} {kvs : List (κ × V)} {vs : List (κ × Value)} (r : KV kvs vs) : (!vs.isEmpty) = !kvs.isEmpty := by
  cases r <;> rfl
theorem isEmpty_of {xs : List V} {its : List Value} (r : Vals xs its) : (!its.toArray.isEmpty) = !xs.isEmpty := by
  cases r <;> simp
theorem line63 : (sizeLine : Nat) < 2 ^ 63 := by rw [sizeLine_eq]; decide
theorem tru_ok : TruR X (fun x H Q => ∃ k, TruV X.K x H k ∧ Q k H) := by
  intro pins s σ H x v Q I rx h
  obtain ⟨k, e, q⟩ := h
  have hl := line63
  have hs : sizeLine = 16777216 := sizeLine_eq
  cases x with
  | non =>
    cases rx
    have e' : k = false := e
    subst e'
    exact truthy_none ⟨H, I, q⟩
  | bl b =>
    cases rx
    have e' : k = b := e
    subst e'
    exact wpAny_truthy_bool ⟨H, I, q⟩
  | int i =>
    obtain ⟨t, rfl⟩ := rx
    have e' : k = (i != 0) := e
    subst e'
    exact PySem.P.truthy_int ⟨H, I, q⟩
  | str y =>
    obtain ⟨t, rfl⟩ := rx
    obtain ⟨hy, e'⟩ : y.length ≤ sizeLine ∧ k = ((y.length : Int) != 0) := e
    subst e'
    exact PySem.P.truthy_str (by omega) ⟨H, I.tok _, q⟩
  | byt y =>
    obtain ⟨t, rfl⟩ := rx
    obtain ⟨hy, e'⟩ : y.size ≤ sizeLine ∧ k = ((y.size : Int) != 0) := e
    subst e'
    exact PySem.W.truthy_bytes (by omega) ⟨H, I.tok _, q⟩
  | ref p =>
    cases rx
    have e' : (∃ xs, SqL X.K H p xs ∧ k = !xs.isEmpty) ∨ (∃ xs, SqT X.K H p xs ∧ k = !xs.isEmpty) ∨ ∃ kvs, H p = some (.dK kvs) ∧ k = !kvs.isEmpty := e
    rcases e' with ⟨xs, hx, e'⟩ | ⟨xs, hx, e'⟩ | ⟨kvs, hx, e'⟩
    · subst e'
      obtain ⟨its, r, pl, hz⟩ := I.list hx
      have hlen := r.length
      exact wpAny_truthy_list pl.isList (by simp only [List.size_toArray]; omega) ⟨H, I.tok _, by rw [isEmpty_of r]; exact q⟩
    · subst e'
      obtain ⟨its, r, pl, hz⟩ := I.tuple hx
      have hlen := r.length
      exact truthy_tuple pl (by simp only [List.size_toArray]; omega) ⟨H, I.tok _, by rw [isEmpty_of r]; exact q⟩
    · subst e'
      obtain ⟨hz, hS, vs, r, m⟩ : kvs.length ≤ sizeLine ∧ (p == sysModules) = false ∧ ∃ vs, KV kvs vs ∧ s.heap.DictOf (mixKind X.prog X.w) p vs := I.hok p _ hx
      have hlen : kvs.length = vs.length := Paired.length r
      exact wpAny_truthy_dict hS m (by omega) ⟨H, I.tok _, by rw [isEmpty_kv r]; exact q⟩
  | _ => exact (show False from e).elim
/-- any expression whose test is its value's truth (a name, a call, a subscript, a field ..: he by fun _ => rfl) -/
theorem pt_truth (ha : PE X a ta) (he : ∀ whole, isTrue a X.env whole = (do let v ← whole; standAt a.pos; holding [v] (truthy v))) :
    PT X a (fun σ H Q => ta σ H fun x H' => ∃ k, TruV X.K x H' k ∧ Q k H') := by
  intro pins s σ H Q I h
  exact isTrue_plain (thn (ha pins s σ H _ I h) fun v s1 ⟨x, H1, I1, r1, q1⟩ => tru_ok pins s1 σ H1 x v Q I1 r1 q1) (he _)

/-! ### strs and bytes -/
theorem pe_byt {x : List UInt8} {k : Nat} : PE X (.Constant (.bytes x) k pos) (fun _ H Q => Q (.byt x.toArray) H) := fun _ _ _ H _ I h => PySem.W.Constant_bytes ⟨.byt x.toArray, H, I.tok _, ⟨_, rfl⟩, h⟩
theorem op_add_str : OpR X (binaryOp .Add) (fun x y H Q => ∃ i j, x = .str i ∧ y = .str j ∧ i.length + j.length ≤ sizeLine ∧ Q (.str (i ++ j)) H) := by
  intro pins s σ H x y v u Q I rx ry h
  obtain ⟨i, j, rfl, rfl, hz, q⟩ := h
  obtain ⟨t, rfl⟩ := rx
  obtain ⟨t', rfl⟩ := ry
  exact add_str (fun t' tk => ⟨.str (i ++ j), H, I.tok _, ⟨_, rfl⟩, q⟩) hz
theorem iop_add_str : OpR X (inplaceOp .Add) (fun x y H Q => ∃ i j, x = .str i ∧ y = .str j ∧ i.length + j.length ≤ sizeLine ∧ Q (.str (i ++ j)) H) := by
  intro pins s σ H x y v u Q I rx ry h
  obtain ⟨i, j, rfl, rfl, hz, q⟩ := h
  obtain ⟨t, rfl⟩ := rx
  obtain ⟨t', rfl⟩ := ry
  exact iadd_str (fun t' tk => ⟨.str (i ++ j), H, I.tok _, ⟨_, rfl⟩, q⟩) hz
theorem op_add_byt : OpR X (binaryOp .Add) (fun x y H Q => ∃ i j, x = .byt i ∧ y = .byt j ∧ i.size + j.size ≤ 16777216 ∧ Q (.byt (i ++ j)) H) := by
  intro pins s σ H x y v u Q I rx ry h
  obtain ⟨i, j, rfl, rfl, hz, q⟩ := h
  obtain ⟨t, rfl⟩ := rx
  obtain ⟨t', rfl⟩ := ry
  exact PySem.W.KBy.add_bytes hz (fun t' tk => ⟨.byt (i ++ j), H, I.tok _, ⟨_, rfl⟩, q⟩)

def PlainIxT (b : Expr) : Prop := ∀ o i, subscripted b false o i = operate [o, i] (getItem o i)
/-- s[i], 0 ≤ i < len -/
theorem pe_item_str (ha : PE X a ta) (hb : PE X b tb) (hs : PlainIxT b) :
    PE X (.Subscript a b pos) (tOp (fun x y H Q => ∃ z i c, x = .str z ∧ y = .int i ∧ 0 ≤ i ∧ i < 2 ^ 63 ∧ i < z.length ∧ z.cps[i.toNat]? = some c ∧ Q (.str ⟨#[c]⟩) H) ta tb) := by
  intro pins s σ H Q I h
  refine Subscript_ (binT ha hb I h fun v u s2 x y H2 I2 rx ry q => ?_)
  obtain ⟨z, i, c, rfl, rfl, h0, h63, h1, hc, q⟩ := q
  obtain ⟨t, rfl⟩ := rx
  obtain ⟨t', rfl⟩ := ry
  have e : seqIndex? i z.length = some i.toNat := PySem.StrLaws.seqIndex_nonneg h0 h1
  exact tail_any (typeIs_str s2 z t) slot_str_getitem.lookup (getItem_str (c := c) (by
    have e1 : decide (i < -(2 ^ 63 : Int)) = false := decide_eq_false (by omega)
    have e2 : decide (i ≥ 2 ^ 63) = false := decide_eq_false (by omega)
    rw [e1, e2] <;> rfl) (by rw [e]; exact hc) ⟨.str ⟨#[c]⟩, H2, I2.tok _, ⟨_, rfl⟩, q⟩) (hs _ _)
/-- b[i], 0 ≤ i < len -/
theorem pe_item_byt (ha : PE X a ta) (hb : PE X b tb) (hs : PlainIxT b) :
    PE X (.Subscript a b pos) (tOp (fun x y H Q => ∃ (z : List UInt8) (i : Int), x = .byt z.toArray ∧ y = .int i ∧ z.length ≤ sizeLine ∧ 0 ≤ i ∧ i < z.length ∧ Q (.int ((z.getD i.toNat 0).toNat : Nat)) H) ta tb) := by
  intro pins s σ H Q I h
  refine Subscript_ (binT ha hb I h fun v u s2 x y H2 I2 rx ry q => ?_)
  obtain ⟨z, i, rfl, rfl, hz, h0, h1, q⟩ := q
  obtain ⟨t, rfl⟩ := rx
  obtain ⟨t', rfl⟩ := ry
  have hl : sizeLine = 16777216 := sizeLine_eq
  exact tail_any (PySem.W.typeIs_bytes s2 z.toArray t) PySem.W.FB.slot_bytes_getitem.lookup (PySem.W.getItem_bytes (by omega) h0 h1 ⟨.int ((z.getD i.toNat 0).toNat : Nat), H2, I2.tok _, ⟨_, rfl⟩, q⟩) (hs _ _)

/-! ### scalar builtins, by CallR -/
theorem vals1 {x : V} {us : List Value} (r : Vals [x] us) : ∃ u, us = [u] ∧ RelV x u := by
  cases r with
  | cons r1 r2 => cases r2; exact ⟨_, rfl, r1⟩
theorem vals2 {x y : V} {us : List Value} (r : Vals [x, y] us) : ∃ u w', us = [u, w'] ∧ RelV x u ∧ RelV y w' := by
  cases r with
  | cons r1 r2 =>
    cases r2 with
    | cons r3 r4 => cases r4; exact ⟨_, _, rfl, r1, r3⟩
theorem call_abs : CallR X (.builtin "abs") (fun xs H Q => ∃ i, xs = [.int i] ∧ Q (.int (if i < 0 then -i else i)) H) := by
  intro pins s σ H xs us Q I r h
  obtain ⟨i, rfl, q⟩ := h
  obtain ⟨u, rfl, t, rfl⟩ := vals1 r
  exact call_abs_int fun u tk => ⟨.int (if i < 0 then -i else i), H, I.tok _, ⟨_, rfl⟩, q⟩
theorem call_max2 (hc : X.calm = true) : CallR X (.builtin "max") (fun xs H Q => ∃ i j, xs = [.int i, .int j] ∧ Q (.int (if j > i then j else i)) H) := by
  intro pins s σ H xs us Q I r h
  obtain ⟨i, j, rfl, q⟩ := h
  obtain ⟨u, w', rfl, ⟨t, rfl⟩, ⟨t', rfl⟩⟩ := vals2 r
  refine max_two_ints (I.ok.hd hc) fun h' tk k => ⟨_, H, I.kept k, ?_, q⟩
  by_cases hj : j > i
  · rw [if_pos hj, if_pos hj]; exact ⟨_, rfl⟩
  · rw [if_neg hj, if_neg hj]; exact ⟨_, rfl⟩
theorem call_min2 (hc : X.calm = true) : CallR X (.builtin "min") (fun xs H Q => ∃ i j, xs = [.int i, .int j] ∧ Q (.int (if j < i then j else i)) H) := by
  intro pins s σ H xs us Q I r h
  obtain ⟨i, j, rfl, q⟩ := h
  obtain ⟨u, w', rfl, ⟨t, rfl⟩, ⟨t', rfl⟩⟩ := vals2 r
  refine min_two_ints (I.ok.hd hc) fun h' tk k => ⟨_, H, I.kept k, ?_, q⟩
  by_cases hj : j < i
  · rw [if_pos hj, if_pos hj]; exact ⟨_, rfl⟩
  · rw [if_neg hj, if_neg hj]; exact ⟨_, rfl⟩
theorem call_int1 : CallR X (.type "int") (fun xs H Q => (∃ i, xs = [.int i] ∧ Q (.int i) H) ∨ ∃ k, xs = [.bl k] ∧ Q (.int (if k then 1 else 0)) H) := by
  intro pins s σ H xs us Q I r h
  rcases h with ⟨i, rfl, q⟩ | ⟨k, rfl, q⟩
  · obtain ⟨u, rfl, t, rfl⟩ := vals1 r
    exact call_int_int ⟨.int i, H, I, ⟨_, rfl⟩, q⟩
  · obtain ⟨u, rfl, r1⟩ := vals1 r
    cases r1
    exact call_int_bool ⟨.int (if k then 1 else 0), H, I.tok _, ⟨_, rfl⟩, q⟩
theorem call_bool1 : CallR X (.type "bool") (fun xs H Q => (∃ i, xs = [.int i] ∧ Q (.bl (i != 0)) H) ∨ ∃ k, xs = [.bl k] ∧ Q (.bl k) H) := by
  intro pins s σ H xs us Q I r h
  rcases h with ⟨i, rfl, q⟩ | ⟨k, rfl, q⟩
  · obtain ⟨u, rfl, t, rfl⟩ := vals1 r
    exact call_bool_int ⟨.bl (i != 0), H, I, rfl, q⟩
  · obtain ⟨u, rfl, r1⟩ := vals1 r
    cases r1
    exact call_bool_bool ⟨.bl k, H, I, rfl, q⟩
theorem call_str_int : CallR X (.type "str") (fun xs H Q => ∃ i, xs = [.int i] ∧ i.natAbs.log2 < 1920 ∧ Q (.str (toString i)) H) := by
  intro pins s σ H xs us Q I r h
  obtain ⟨i, rfl, hz, q⟩ := h
  obtain ⟨u, rfl, t, rfl⟩ := vals1 r
  exact PySem.P.str_of_int hz ⟨.str _, H, I.tok _, ⟨_, rfl⟩, q⟩
theorem call_ord : CallR X (.builtin "ord") (fun xs H Q => ∃ x, xs = [.str x] ∧ x.length = 1 ∧ Q (.int (x.cps.getD 0 0 : Nat)) H) := by
  intro pins s σ H xs us Q I r h
  obtain ⟨x, rfl, hz, q⟩ := h
  obtain ⟨u, rfl, t, rfl⟩ := vals1 r
  exact ord_of_one hz ⟨.int _, H, I.tok _, ⟨_, rfl⟩, q⟩
theorem call_chr : CallR X (.builtin "chr") (fun xs H Q => ∃ i, xs = [.int i] ∧ 0 ≤ i ∧ i ≤ 1114111 ∧ Q (.str ⟨#[i.toNat]⟩) H) := by
  intro pins s σ H xs us Q I r h
  obtain ⟨i, rfl, h0, h1, q⟩ := h
  obtain ⟨u, rfl, t, rfl⟩ := vals1 r
  exact chr_of_range h0 h1 ⟨.str _, H, I.tok _, ⟨_, rfl⟩, q⟩
/-- len of a str, a bytes, a list, a tuple -/
def LenV (K : PySem.W.Frag) (x : V) (H : Hp) (n : Nat) : Prop :=
  match x with
  | .str y => y.length ≤ sizeLine ∧ n = y.length
  | .byt y => y.size ≤ sizeLine ∧ n = y.size
  | .ref p => (∃ xs, SqL K H p xs ∧ n = xs.length) ∨ ∃ xs, SqT K H p xs ∧ n = xs.length
  | _ => False
theorem call_len : CallR X (.builtin "len") (fun xs H Q => ∃ x n, xs = [x] ∧ LenV X.K x H n ∧ Q (.int n) H) := by
  intro pins s σ H xs us Q I r h
  obtain ⟨x, n, rfl, e, q⟩ := h
  obtain ⟨u, rfl, rx⟩ := vals1 r
  have hl := line63
  have hs : sizeLine = 16777216 := sizeLine_eq
  cases x with
  | str y =>
    obtain ⟨t, rfl⟩ := rx
    obtain ⟨hy, e'⟩ : y.length ≤ sizeLine ∧ n = y.length := e
    subst e'
    exact len_str (by omega) ⟨.int _, H, I.tok _, ⟨_, rfl⟩, q⟩
  | byt y =>
    obtain ⟨t, rfl⟩ := rx
    obtain ⟨hy, e'⟩ : y.size ≤ sizeLine ∧ n = y.size := e
    subst e'
    exact PySem.W.len_bytes (by omega) ⟨.int _, H, I.tok _, ⟨_, rfl⟩, q⟩
  | ref p =>
    cases rx
    have e' : (∃ xs, SqL X.K H p xs ∧ n = xs.length) ∨ ∃ xs, SqT X.K H p xs ∧ n = xs.length := e
    rcases e' with ⟨xs, hx, e'⟩ | ⟨xs, hx, e'⟩
    · subst e'
      obtain ⟨its, r', pl, hz⟩ := I.list hx
      have hlen := r'.length
      exact Calls.call_len_list pl.isList (by simp only [List.size_toArray]; omega) ⟨.int xs.length, H, I.tok _, ⟨_, by simp only [List.size_toArray]; rw [hlen]⟩, q⟩
    · subst e'
      obtain ⟨its, r', pl, hz⟩ := I.tuple hx
      have hlen := r'.length
      exact len_tuple pl (by simp only [List.size_toArray]; omega) ⟨.int xs.length, H, I.tok _, ⟨_, by simp only [List.size_toArray]; rw [hlen]⟩, q⟩
  | _ => exact (show False from e).elim
/-- divmod: a new tuple -/
theorem call_divmod : CallR X (.builtin "divmod") (fun xs H Q => ∃ i j, xs = [.int i, .int j] ∧ CDiv i j ∧ ∀ p, H p = none → Q (.ref p) (upd H p (.tup [.int (i / j), .int (i % j)]))) := by
  intro pins s σ H xs us Q I r h
  obtain ⟨i, j, rfl, ⟨h1, h2⟩, q⟩ := h
  obtain ⟨u, w', rfl, ⟨t, rfl⟩, ⟨t', rfl⟩⟩ := vals2 r
  refine divmod_int (by omega) ?_ (.inl (PyProof.noPylong_small (by omega)))
  rw [Int.fdiv_eq_ediv_of_nonneg i (by omega), Int.fmod_eq_emod_of_nonneg i (by omega)]
  have hn : H s.heap.objs.size = none := I.hok.fresh (Nat.le_refl _)
  refine ⟨.ref s.heap.objs.size, _, ?_, rfl, q _ hn⟩
  refine I.laid (fun b o e => Heap.get?_push_of_some _ e) (Nat.le_refl _) ⟨by simp only [List.length_cons, List.length_nil]; rw [sizeLine_eq]; decide, [.int (i / j) s.toks, .int (i % j) (s.toks + 1)], .cons ⟨_, rfl⟩ (.cons ⟨_, rfl⟩ .nil), ?_⟩
  exact ⟨_, Heap.get?_push_size s.heap rfl, rfl, 0, rfl⟩
end
end L2

namespace L2
open PySem PySem.Spec PyProof.Rows

/-! ### an instance, its attributes a map -/
structure ObjM (h : Heap) (x dx C : Addr) (mA : Str → Option Value) : Prop where
  obj : h.get? x = some (PySem.W.instObj C dx)
  ns : h.Ns1 dx mA
  ne : dx ≠ x

theorem lookIn_ns {h : Heap} {dx : Addr} {mA : Str → Option Value} (n : h.Ns1 dx mA) : ∃ od, h.get? dx = some od ∧ ∀ name, PySem.W.lookIn name od = some (mA name) := by
  obtain ⟨o, es, ep, ho, hd, hk, _, hm⟩ := n
  refine ⟨o, ho, fun name => ?_⟩
  have e := hm name
  unfold nsFind findBy at e
  rw [← Array.find?_toList] at e
  unfold PySem.W.lookIn
  rw [hd]
  dsimp only
  split
  · rename_i y q
    rw [q] at e
    exact congrArg some e
  · rename_i q
    rw [q] at e
    have a : es.toList.any (·.refKey) = false := by
      rw [List.any_eq_false]
      intro y hy
      obtain ⟨z, t, hkey⟩ := hk y (Array.mem_toList_iff.mp hy)
      simp [DictEntry.refKey, hkey]
    have a' : ¬ es.toList.any (·.refKey) = true := by rw [a]; exact Bool.false_ne_true
    rw [if_neg a']
    exact congrArg some e

theorem ObjM.look {h : Heap} {x dx C : Addr} {mA : Str → Option Value} (I : ObjM h x dx C mA) : ∃ od, PySem.W.InstAt h x (PySem.W.instObj C dx) C (some od) ∧ ∀ name, PySem.W.lookIn name od = some (mA name) :=
  let ⟨od, ho, hl⟩ := lookIn_ns I.ns
  ⟨od, ⟨I.obj, rfl, rfl, ho⟩, hl⟩

section
variable {prog : Program} {w : World} {A : Around} {E : Value → Shared → Prop} {s : Shared} {K : PySem.W.Frag} {x dx C f : Addr} {mA : Str → Option Value} {name : Str} {v : Value}

theorem get_map {expr : Bool} {Q : Value → Shared → Prop} (X : K.In s.heap) (I : ObjM s.heap x dx C mA) (hg : PySem.W.plainGet K C name = true) (hh : PySem.W.hasDictIn K C = true)
    (ha : PySem.W.findIn K (.ref C) name = some none) (hv : mA name = some v) (hv' : PySem.W.handedIn v = true) (h : Q v { s with toks := s.toks + 1 }) :
    wpAny (model prog w) A (getAttr (.ref x) name expr) Q E s := by
  obtain ⟨od, J, hl⟩ := I.look
  exact PySem.W.get_value X J (PySem.W.plainGet_of hg).1 (PySem.W.findObj_own hh ha rfl (by rw [hl, hv])) hv' h

theorem get_const {expr : Bool} {a : Value} {Q : Value → Shared → Prop} (X : K.In s.heap) (I : ObjM s.heap x dx C mA) (hg : PySem.W.plainGet K C name = true) (hh : PySem.W.hasDictIn K C = true)
    (ha : PySem.W.findIn K (.ref C) name = some (some a)) (hn : PySem.W.specialIn K a "__get__" = some none) (hc : PySem.W.copiedNames.contains name = false) (hv : mA name = none) (hv' : PySem.W.handedIn a = true)
    (h : Q a { s with toks := s.toks + 1 }) : wpAny (model prog w) A (getAttr (.ref x) name expr) Q E s := by
  obtain ⟨od, J, hl⟩ := I.look
  exact PySem.W.get_value X J (PySem.W.plainGet_of hg).1 (PySem.W.findObj_cls hh ha hn hv' hc (by rw [hl, hv])) hv' h

theorem get_meth {pl : Sem Bool} {Q : Value × List Value → Shared → Prop} (X : K.In s.heap) (I : ObjM s.heap x dx C mA) (hg : PySem.W.plainGet K C name = true)
    (hf : PySem.W.findIn K (.ref C) name = some (some (.ref f))) (ht : PySem.W.isFn K (.ref f) = true) (hv : mA name = none) (h : Q (.ref f, [.ref x]) s) :
    wpAny (model prog w) A (getMethod (.ref x) name pl) Q E s := by
  obtain ⟨od, J, hl⟩ := I.look
  exact PySem.W.method_fn X J (PySem.W.plainGet_of hg).1 (PySem.W.plainGet_of hg).2 hf (beq_iff_eq.mp ht) (by show (PySem.W.lookIn name od).map (·.isSome) = some false; rw [hl, hv]; rfl) h

theorem set_map {ns : List Str} {Q : Unit → Shared → Prop} (X : K.In s.heap) (I : ObjM s.heap x dx C mA)
    (hs : PySem.W.findIn K (.ref C) "__setattr__" = some (some (.builtin "object.__setattr__"))) (hp : PySem.W.plainOver K C = true) (ht : PySem.W.takerIn K C name = some none) (hh : PySem.W.hasDictIn K C = true)
    (hw : PySem.Within mA ns) (hsz : ns.length ≤ sizeLine)
    (h : ∀ h', ObjM h' x dx C (fun y => if y = name then some v else mA y) → Heap.SameBut dx s.heap h' → Q () { s with heap := h', toks := s.toks + 2 }) :
    wpAny (model prog w) A (setAttr (.ref x) name v) Q E s := by
  obtain ⟨od, J, hl⟩ := I.look
  refine PySem.W.set_plain X J hs (PySem.W.osa_open (s := { s with toks := s.toks + 1 }) (r := none) X J hp ht fun b => ?_)
  obtain ⟨cd, hc, hd'⟩ := PySem.W.any_some hh
  have hx : s.heap.get? x = some ⟨.ref C, some dx, .plain, #[]⟩ := I.obj
  refine wpAny_bind (wpAny_pure (wpAny_bind (wpAny_bind (wpAny_loadPart hx (wpAny_bind (PySem.W.Looks.here (s := { s with toks := s.toks + 1 }) (PySem.W.looks_clsIn X hc) ?_))))))
  rw [hd']
  refine wpAny_pure (a := some dx) (wpAny_bind (wpAny_pure (wpAny_bind ?_)))
  refine wpAny_nsSet1 (s := { s with toks := s.toks + 1 }) I.ns fun h' hn2 hs2 => ?_
  obtain ⟨oD, esD, epD, hoD, hdD, hcD⟩ := hn2.count (PySem.Within.cons name v hw)
  refine wpAny_bind (wpAny_lookBehind hoD (by rw [hdD]; exact pastItsLine_dict (Nat.le_trans hcD (by rw [List.length_cons]; omega))) ?_)
  exact wpAny_pure (h _ ⟨(hs2.2 _ (Ne.symm I.ne)).trans I.obj, hn2, I.ne⟩ hs2)

/-- C(..): the dict at the heap's end, the instance behind it; then its __init__ -/
theorem make_map {R : Result → Shared → Prop} {vs : List Value} {kw : List (Str × Value)} (X : K.In s.heap) (hm : PySem.W.makesIn K C = true)
    (hi : PySem.W.findIn K (.ref C) "__init__" = some (some (.ref f))) (hf : PySem.W.typeIn K (.ref f) = some (.type "function"))
    (h : codeAny (model prog w) (A.under (.builtin "type.__call__" ⟨.ref C :: vs, kw⟩)) (.call (.ref f) ⟨.ref (s.heap.objs.size + 1) :: vs, kw⟩) (PySem.W.InitBack (s.heap.objs.size + 1) R)
      { s with heap := (s.heap.push PySem.W.emptyDict).push (PySem.W.instObj C s.heap.objs.size) }) :
    codeAny (model prog w) A (.call (.ref C) ⟨vs, kw⟩) R s := by
  obtain ⟨hh, g, d, t, os⟩ := s
  exact PySem.W.make_core (PySem.W.makes_of X hm) (PySem.W.looks_findIn X hi) (fun self => PySem.W.bind_fn X self hf) (.inl rfl) h
/-- C() where there is no __init__ but object's -/
theorem make_map0 {R : Result → Shared → Prop} (X : K.In s.heap) (hm : PySem.W.makesIn K C = true)
    (hi : PySem.W.findIn K (.ref C) "__init__" = some (some (.builtin "object.__init__")))
    (hb : ∀ self, PySem.W.Looks (model prog w) s.heap (bindSpecial (.builtin "object.__init__") self) (.builtin "object.__init__", [self]))
    (h : codeAny (model prog w) (A.under (.builtin "type.__call__" ⟨[.ref C], []⟩)) (.call (.builtin "object.__init__") ⟨[.ref (s.heap.objs.size + 1)], []⟩) (PySem.W.InitBack (s.heap.objs.size + 1) R)
      { s with heap := (s.heap.push PySem.W.emptyDict).push (PySem.W.instObj C s.heap.objs.size) }) :
    codeAny (model prog w) A (.call (.ref C) ⟨[], []⟩) R s := by
  obtain ⟨hh, g, d, t, os⟩ := s
  exact PySem.W.make_core (PySem.W.makes_of X hm) (PySem.W.looks_findIn X hi) hb (.inr ⟨rfl, rfl⟩) h
end

/-! ### the attributes as a list of pairs -/
def putF (f : Str) (v : V) : List (Str × V) → List (Str × V)
  | [] => [(f, v)]
  | (g, x) :: r => if g = f then (g, v) :: r else (g, x) :: putF f v r
theorem lookup_putF (f g : Str) (v : V) : ∀ fs : List (Str × V), (putF f v fs).lookup g = if g = f then some v else fs.lookup g
  | [] => by
    show List.lookup g [(f, v)] = _
    by_cases h : g = f
    · have hb : (g == f) = true := beq_iff_eq.mpr h
      simp only [List.lookup, hb, if_pos h]
    · have hb : (g == f) = false := beq_eq_false_iff_ne.mpr h
      simp only [List.lookup, hb, if_neg h]
  | (k, x) :: r => by
    have ih := lookup_putF f g v r
    rw [show putF f v ((k, x) :: r) = (if k = f then (k, v) :: r else (k, x) :: putF f v r) from rfl]
    by_cases hk : k = f
    · rw [if_pos hk]
      by_cases h : g = k
      · have hb : (g == k) = true := beq_iff_eq.mpr h
        simp only [List.lookup, hb, if_pos (h.trans hk)]
      · have hb : (g == k) = false := beq_eq_false_iff_ne.mpr h
        simp only [List.lookup, hb, if_neg (fun e : g = f => h (e.trans hk.symm))]
    · rw [if_neg hk]
      by_cases h : g = k
      · have hb : (g == k) = true := beq_iff_eq.mpr h
        simp only [List.lookup, hb, if_neg (fun e : g = f => hk (h.symm.trans e))]
      · have hb : (g == k) = false := beq_eq_false_iff_ne.mpr h
        simp only [List.lookup, hb]
        exact ih
theorem keys_putF (f : Str) (v : V) : ∀ fs : List (Str × V), f ∈ (putF f v fs).map (·.1) ∧ ∀ g, g ∈ fs.map (·.1) → g ∈ (putF f v fs).map (·.1)
  | [] => ⟨by simp [putF], fun g h => by simp at h⟩
  | (k, x) :: r => by
    obtain ⟨i1, i2⟩ := keys_putF f v r
    rw [show putF f v ((k, x) :: r) = (if k = f then (k, v) :: r else (k, x) :: putF f v r) from rfl]
    by_cases hk : k = f
    · rw [if_pos hk]
      subst hk
      exact ⟨by simp, fun g h => by simpa using h⟩
    · rw [if_neg hk]
      refine ⟨?_, fun g h => ?_⟩
      · rw [List.map_cons]
        exact List.mem_cons_of_mem _ i1
      · rw [List.map_cons] at h ⊢
        rcases List.mem_cons.mp h with e | e
        · exact List.mem_cons.mpr (.inl e)
        · exact List.mem_cons_of_mem _ (i2 g e)
theorem length_putF (f : Str) (v : V) : ∀ fs : List (Str × V), (putF f v fs).length ≤ fs.length + 1
  | [] => by simp [putF]
  | (k, x) :: r => by
    have ih := length_putF f v r
    rw [show putF f v ((k, x) :: r) = (if k = f then (k, v) :: r else (k, x) :: putF f v r) from rfl]
    by_cases hk : k = f
    · rw [if_pos hk, List.length_cons, List.length_cons]; omega
    · rw [if_neg hk, List.length_cons, List.length_cons]; omega

theorem RelO.some_of {v : V} {o : Option Value} (r : RelO (some v) o) : ∃ u, o = some u ∧ RelV v u := by
  cases o with
  | none => exact (show False from r).elim
  | some u => exact ⟨u, rfl, r⟩
theorem RelO.none_of {o : Option Value} (r : RelO none o) : o = none := by
  cases o with
  | none => rfl
  | some u => exact (show False from r).elim
theorem handed_of {v : V} {u : Value} (r : RelV v u) : PySem.W.handedIn u = true := by
  cases v with
  | non => cases (show u = Value.none from r); rfl
  | bl b => cases (show u = Value.bool b from r); rfl
  | int i => obtain ⟨t, e⟩ := (show ∃ t, u = Value.int i t from r); cases e; rfl
  | str x => obtain ⟨t, e⟩ := (show ∃ t, u = Value.str x t from r); cases e; rfl
  | byt b => obtain ⟨t, e⟩ := (show ∃ t, u = Value.bytes b t from r); cases e; rfl
  | flt b => obtain ⟨t, e⟩ := (show ∃ t, u = Value.float b t from r); cases e; rfl
  | ref a => cases (show u = Value.ref a from r); rfl
  | ty n => cases (show u = Value.type n from r); rfl

section
variable {P : Program} {w : World} {H H' : Hp} {h h' : Heap} {a C dx : Addr} {fs fs' : List (Str × V)}
theorem ins_get (hok : HOk P w H h) (e : H a = some (.ins C dx fs)) : ∃ mA, ObjM h a dx C mA ∧ (∀ f, RelO (fs.lookup f) (mA f)) ∧ PySem.Within mA (fs.map (·.1)) ∧ fs.length ≤ 1000 ∧ H dx = some (.own a) := by
  obtain ⟨d, z, ne, ob, mA, n, r, q⟩ := (show ObjOk P w H h a (.ins C dx fs) from hok a _ e)
  exact ⟨mA, ⟨ob, n, ne⟩, r, q, z, d⟩
end

/-! ### what of the text a class must have -/
structure Cls (K : PySem.W.Frag) (C : Addr) : Prop where
  pg : PySem.W.plainGet K C Str.empty = true
  hd : PySem.W.hasDictIn K C = true
  po : PySem.W.plainOver K C = true
  sa : PySem.W.findIn K (.ref C) "__setattr__" = some (some (.builtin "object.__setattr__"))
theorem Cls.get {K : PySem.W.Frag} {C : Addr} (c : Cls K C) (f : Str) : PySem.W.plainGet K C f = true := c.pg
/-- no class of it has the name -/
def NoAttr (K : PySem.W.Frag) (C : Addr) (f : Str) : Prop := PySem.W.findIn K (.ref C) f = some none
theorem NoAttr.taker {K : PySem.W.Frag} {C : Addr} {f : Str} (n : NoAttr K C f) : PySem.W.takerIn K C f = some none := by
  unfold PySem.W.takerIn
  rw [show PySem.W.findIn K (.ref C) f = some none from n]
  rfl
/-- a constant of the class -/
structure Con (K : PySem.W.Frag) (C : Addr) (f : Str) (v : V) (u : Value) : Prop where
  at_ : PySem.W.findIn K (.ref C) f = some (some u)
  rel : RelV v u
  get : PySem.W.specialIn K u "__get__" = some none
  cp : PySem.W.copiedNames.contains f = false
/-- a method: a plain def of the class or of one above it -/
structure Meth (K : PySem.W.Frag) (C : Addr) (m : Str) (f : Addr) : Prop where
  at_ : PySem.W.findIn K (.ref C) m = some (some (.ref f))
  fn : PySem.W.isFn K (.ref f) = true
  kp : PySem.W.keepIn K (.ref f) = true

section
variable {X : Cx} {pins : List (Addr × Obj)} {σ : St} {H : Hp} {s : Shared} {a C dx : Addr} {fs : List (Str × V)} {f : Str} {v : V} {A : Around} {E : Value → Shared → Prop}

theorem getattr_ok {b : Bool} {Q : Value → Shared → Prop} (I : Inv X pins σ H s) (e : H a = some (.ins C dx fs)) (c : Cls X.K C) (n : NoAttr X.K C f) (l : fs.lookup f = some v)
    (h : ∀ u s', Inv X pins σ H s' → RelV v u → Q u s') : wpAny (model X.prog X.w) A (getAttr (.ref a) f b) Q E s := by
  obtain ⟨mA, O, r, _, _, _⟩ := ins_get I.hok e
  obtain ⟨u, hu, ru⟩ := RelO.some_of (v := v) (o := mA f) (by rw [← l]; exact r f)
  exact get_map I.kIn O (c.get f) c.hd n hu (handed_of ru) (h u _ (I.tok _) ru)

theorem getcon_ok {b : Bool} {u : Value} {Q : Value → Shared → Prop} (I : Inv X pins σ H s) (e : H a = some (.ins C dx fs)) (c : Cls X.K C) (k : Con X.K C f v u) (l : fs.lookup f = none)
    (h : ∀ s', Inv X pins σ H s' → Q u s') : wpAny (model X.prog X.w) A (getAttr (.ref a) f b) Q E s := by
  obtain ⟨mA, O, r, _, _, _⟩ := ins_get I.hok e
  have hn : mA f = none := RelO.none_of (by rw [← l]; exact r f)
  exact get_const I.kIn O (c.get f) c.hd k.at_ k.get k.cp hn (handed_of k.rel) (h _ (I.tok _))

theorem getmeth_ok {m : Str} {g : Addr} {pl : Sem Bool} {Q : Value × List Value → Shared → Prop} (I : Inv X pins σ H s) (e : H a = some (.ins C dx fs)) (c : Cls X.K C) (k : Meth X.K C m g) (l : fs.lookup m = none)
    (h : Q (.ref g, [.ref a]) s) : wpAny (model X.prog X.w) A (getMethod (.ref a) m pl) Q E s := by
  obtain ⟨mA, O, r, _, _, _⟩ := ins_get I.hok e
  have hn : mA m = none := RelO.none_of (by rw [← l]; exact r m)
  exact get_meth I.kIn O (c.get m) k.at_ k.fn hn h

theorem setattr_ok {y : V} {u : Value} {Q : Unit → Shared → Prop} (I : Inv X pins σ H s) (e : H a = some (.ins C dx fs)) (c : Cls X.K C) (n : NoAttr X.K C f) (hl : fs.length < 1000) (ry : RelV y u)
    (h : ∀ s', Inv X pins σ (upd H a (.ins C dx (putF f y fs))) s' → Q () s') : wpAny (model X.prog X.w) A (setAttr (.ref a) f u) Q E s := by
  obtain ⟨mA, O, r, wi, _, ho⟩ := ins_get I.hok e
  have hz : (fs.map (·.1)).length ≤ sizeLine := by rw [List.length_map, sizeLine_eq]; omega
  refine set_map I.kIn O c.sa c.po n.taker c.hd wi hz fun h' O' sb => h _ ?_
  have hd : ∃ o, h'.get? dx = some o := let ⟨o, _, _, e', _⟩ := O'.ns; ⟨o, e'⟩
  refine I.write (x := a) (e := dx) (by rw [e]; exact True.intro) (.inr ho) (fun b q hb z => (sb.2 b hb).trans z) hd ?_
  refine ⟨by rw [upd_ne O.ne]; exact ho, ?_, O.ne, O'.obj, _, O'.ns, fun g => ?_, fun g hg => ?_⟩
  · have := length_putF f y fs; omega
  · show RelO ((putF f y fs).lookup g) (if g = f then some u else mA g)
    rw [lookup_putF]
    by_cases q : g = f
    · rw [if_pos q, if_pos q]; exact ry
    · rw [if_neg q, if_neg q]; exact r g
  · by_cases q : g = f
    · rw [q]; exact (keys_putF f y fs).1
    · refine (keys_putF f y fs).2 g (wi g fun z => hg ?_)
      show (if g = f then some u else mA g) = none
      rw [if_neg q]; exact z

/-- a new instance, tracked, without attributes -/
theorem Inv.made (I : Inv X pins σ H s) : Inv X pins σ (upd (upd H s.heap.objs.size (.own (s.heap.objs.size + 1))) (s.heap.objs.size + 1) (.ins C s.heap.objs.size []))
    { s with heap := (s.heap.push PySem.W.emptyDict).push (PySem.W.instObj C s.heap.objs.size) } := by
  have e1 : (s.heap.push PySem.W.emptyDict).get? s.heap.objs.size = some PySem.W.emptyDict := Heap.get?_push_size s.heap rfl
  have e2 : ((s.heap.push PySem.W.emptyDict).push (PySem.W.instObj C s.heap.objs.size)).get? (s.heap.objs.size + 1) = some (PySem.W.instObj C s.heap.objs.size) := by
    have := Heap.get?_push_size (s.heap.push PySem.W.emptyDict) (o := PySem.W.instObj C s.heap.objs.size) rfl
    rwa [Heap.size_push] at this
  have e3 : (s.heap.push PySem.W.emptyDict).Ns s.heap.objs.size (fun _ => none) := ⟨PySem.W.emptyDict, #[], _, e1, rfl, (fun e he => absurd he (by simp)), fun _ => rfl⟩
  have I1 := I.laid (a := s.heap.objs.size) (o := .own (s.heap.objs.size + 1)) (h' := s.heap.push PySem.W.emptyDict) (t' := s.toks) (fun b u q => Heap.get?_push_of_some _ q) (Nat.le_refl _) ⟨_, e1⟩
  refine I1.laid (a := s.heap.objs.size + 1) (o := .ins C s.heap.objs.size []) (t' := s.toks) (fun b u q => Heap.get?_push_of_some _ q) (Nat.le_of_eq (Heap.size_push _ _)) ?_
  have ne : s.heap.objs.size ≠ s.heap.objs.size + 1 := Nat.ne_of_lt (Nat.lt_succ_self _)
  refine ⟨by rw [upd_ne ne, upd_same], Nat.zero_le _, ne, e2, fun _ => none, (Heap.Ns1.of_empty e3).at fun o q => Heap.get?_push_of_some _ q, fun _ => True.intro, fun y hy => absurd rfl hy⟩

/-- e.f where nothing but the object is asked: through attributeBase (super) and the last hold -/
theorem attr_of {prog : Program} {w : World} {env : Env} {e : Expr} {f : Str} {pos : Pos} {s : Shared} {Q : Value → Shared → Prop} (hb : attributeBase e f env (eval e env) = eval e env)
    (h : wpAny (model prog w) A (eval e env) (fun o s₁ => wpAny (model prog w) A (getAttr o f true) Q E s₁) E s) : wpAny (model prog w) A (eval (.Attribute e f pos) env) Q E s :=
  Attribute_any_ h (by rw [arm_eval_Attribute, hb])
end

/-! ### readings and rules -/
/-- e.f, an attribute of the instance -/
def tFld (K : PySem.W.Frag) (ta : TE) (f : Str) : TE := fun σ H Q => ta σ H fun x H1 => ∃ a C dx fs v, x = .ref a ∧ H1 a = some (.ins C dx fs) ∧ Cls K C ∧ NoAttr K C f ∧ fs.lookup f = some v ∧ Q v H1
/-- e.f, a constant of the class -/
def tCon (K : PySem.W.Frag) (ta : TE) (f : Str) : TE := fun σ H Q => ta σ H fun x H1 => ∃ a C dx fs v u, x = .ref a ∧ H1 a = some (.ins C dx fs) ∧ Cls K C ∧ Con K C f v u ∧ fs.lookup f = none ∧ Q v H1
/-- e.f = value -/
def sFld (K : PySem.W.Frag) (ta tv : TE) (f : Str) : TS := fun D σ H => tv σ H fun y H1 => ta σ H1 fun x H2 => ∃ a C dx fs, x = .ref a ∧ H2 a = some (.ins C dx fs) ∧ Cls K C ∧ NoAttr K C f ∧ fs.length < 1000 ∧
  D.nx σ (upd H2 a (.ins C dx (putF f y fs)))
/-- an augmented operator on two values -/
def InOp (X : Cx) (op : Operator) (rd : V → V → Hp → VK → Prop) : Prop :=
  ∀ (pins : List (Addr × Obj)) (s : Shared) (σ : St) (H : Hp) (x y : V) (u v : Value) (Q : VK), Inv X pins σ H s → RelV x u → RelV y v → rd x y H Q → wpAny (model X.prog X.w) X.A (inplaceOp op u v) (EP X pins σ Q) X.xe s
/-- e.f op= value -/
def sFldAug (K : PySem.W.Frag) (ta tv : TE) (rd : V → V → Hp → VK → Prop) (f : Str) : TS := fun D σ H => ta σ H fun x H1 => ∃ a C dx fs v, x = .ref a ∧ H1 a = some (.ins C dx fs) ∧ Cls K C ∧ NoAttr K C f ∧ fs.lookup f = some v ∧
  tv σ H1 fun y H2 => rd v y H2 fun z H3 => ∃ dx' fs', H3 a = some (.ins C dx' fs') ∧ fs'.length < 1000 ∧ D.nx σ (upd H3 a (.ins C dx' (putF f z fs')))

section
variable {X : Cx} {o e value : Expr} {f : Str} {pos pos' tpos : Pos} {ta tv : TE}
theorem pe_fld (he : PE X e ta) (hb : attributeBase e f X.env (eval e X.env) = eval e X.env) : PE X (.Attribute e f pos) (tFld X.K ta f) := by
  intro pins s σ H Q I h
  refine attr_of hb (thn (he pins s σ H _ I h) fun u s1 ⟨x, H1, I1, rx, a, C, dx, fs, v, ex, ea, c, n, l, q⟩ => ?_)
  subst ex
  obtain rfl : u = Value.ref a := rx
  exact getattr_ok I1 ea c n l fun u' s2 I2 ru => ⟨v, H1, I2, ru, q⟩
theorem pe_con (he : PE X e ta) (hb : attributeBase e f X.env (eval e X.env) = eval e X.env) : PE X (.Attribute e f pos) (tCon X.K ta f) := by
  intro pins s σ H Q I h
  refine attr_of hb (thn (he pins s σ H _ I h) fun u s1 ⟨x, H1, I1, rx, a, C, dx, fs, v, u0, ex, ea, c, k, l, q⟩ => ?_)
  subst ex
  obtain rfl : u = Value.ref a := rx
  exact getcon_ok I1 ea c k l fun s2 I2 => ⟨v, H1, I2, k.rel, q⟩
theorem ps_fld (ha : PE X o ta) (hv : PE X value tv) (hs : swapsWith value (some (.Attribute o f pos')) pos.line X.env = pure false) : PS X (.Assign [.Attribute o f pos'] value pos) (sFld X.K ta tv f) := by
  intro pins s σ H D I h
  refine plainObj_wpAny_Assign_Attribute (thn (hv pins s σ H _ I h) fun u s1 ⟨y, H1, I1, ry, q⟩ => thn (ha pins s1 σ H1 _ I1 q) fun ov s2 ⟨x, H2, I2, rx, a, C, dx, fs, ex, ea, c, n, l, q2⟩ => ?_) hs
  subst ex
  obtain rfl : ov = Value.ref a := rx
  exact setattr_ok I2 ea c n l ry fun s3 I3 => ⟨σ, _, I3, q2⟩
theorem ps_fldaug {op : Operator} {rd : V → V → Hp → VK → Prop} (ha : PE X o ta) (hv : PE X value tv) (hop : InOp X op rd) : PS X (.AugAssign (.Attribute o f tpos) op value pos) (sFldAug X.K ta tv rd f) := by
  intro pins s σ H D I h
  refine wpAny_AugAssign_AttributeAny (thn (ha pins s σ H _ I h) fun ov s1 ⟨x, H1, I1, rx, a, C, dx, fs, v, ex, ea, c, n, l, q⟩ => ?_)
  subst ex
  obtain rfl : ov = Value.ref a := rx
  refine getattr_ok I1 ea c n l fun u s2 I2 ru => thn (hv pins s2 σ H1 _ I2 q) fun w3 s3 ⟨y, H2, I3, ry, q3⟩ => thn (hop pins s3 σ H2 v y u w3 _ I3 ru ry q3) fun w4 s4 ⟨z, H3, I4, rz, dx', fs', ea', l', q4⟩ => ?_
  exact setattr_ok I4 ea' c n l' rz fun s5 I5 => ⟨σ, _, I5, q4⟩
def rAdd : V → V → Hp → VK → Prop := fun x y H Q => ∃ i j, x = .int i ∧ y = .int j ∧ Q (.int (i + j)) H
def rSub : V → V → Hp → VK → Prop := fun x y H Q => ∃ i j, x = .int i ∧ y = .int j ∧ Q (.int (i - j)) H
theorem in_add : InOp X .Add rAdd := by
  rintro pins s σ H x y u v Q I rx ry ⟨i, j, rfl, rfl, q⟩
  obtain ⟨t, rfl⟩ := (show ∃ t, u = Value.int i t from rx)
  obtain ⟨t', rfl⟩ := (show ∃ t', v = Value.int j t' from ry)
  exact PyProof.Rows.iadd_int ⟨.int (i + j), H, I.tok _, ⟨_, rfl⟩, q⟩
theorem in_sub : InOp X .Sub rSub := by
  rintro pins s σ H x y u v Q I rx ry ⟨i, j, rfl, rfl, q⟩
  obtain ⟨t, rfl⟩ := (show ∃ t, u = Value.int i t from rx)
  obtain ⟨t', rfl⟩ := (show ∃ t', v = Value.int j t' from ry)
  exact PyProof.Rows.isub_int ⟨.int (i - j), H, I.tok _, ⟨_, rfl⟩, q⟩

/-- what is between an instance and its method: the tree of a method call -/
theorem methcall_of {pl : Sem Bool} {m : Str} {apos : Pos} {args : List Expr} {pins : List (Addr × Obj)} {s : Shared} {σ : St} {H : Hp} {Q : Value → Shared → Prop} {te : TE} (he : PE X e te) (I : Inv X pins σ H s)
    (h : te σ H fun x H1 => ∃ a C dx fs g, x = .ref a ∧ H1 a = some (.ins C dx fs) ∧ Cls X.K C ∧ Meth X.K C m g ∧ fs.lookup m = none ∧
      ∀ s1, Inv X pins σ H1 s1 → wpAny (model X.prog X.w) X.A (callWith pos (.ref g) [.ref a] (backTo pos (starEach args X.env)) (backToKw pos (keywordEach [] X.env))) Q X.xe s1)
    (ht : eval (.Call (.Attribute e m apos) args [] pos) X.env = (do
      let ov ← eval e X.env
      standAt apos.atName
      let (f, first) ← holding [ov] (getMethod ov m pl)
      callWith pos f first (backTo pos (starEach args X.env)) (backToKw pos (keywordEach [] X.env)))) :
    wpAny (model X.prog X.w) X.A (eval (.Call (.Attribute e m apos) args [] pos) X.env) Q X.xe s := by
  refine PySem.W.methodCall_KW (pl := pl) (thn (he pins s σ H _ I h) fun u s1 ⟨x, H1, I1, rx, a, C, dx, fs, g, ex, ea, c, k, l, q⟩ => ?_) ht
  subst ex
  obtain rfl : u = Value.ref a := rx
  exact getmeth_ok I1 ea c k l (q s1 I1)
end

/-! ### isinstance -/
section
variable {X : Cx} {pins : List (Addr × Obj)} {σ : St} {H : Hp} {s : Shared} {A : Around} {E : Value → Shared → Prop} {Q : Value → Shared → Prop} {c : Value} {b : Bool}
/-- the type of a value, as the fragment's deciders take it; for an instance its class -/
inductive TyOf (K : PySem.W.Frag) (H : Hp) : V → Value → Prop where
  | non : TyOf K H .non (.type "NoneType")
  | bl (x : Bool) : TyOf K H (.bl x) (.type "bool")
  | int (i : Int) : TyOf K H (.int i) (.type "int")
  | str (x : Str) : TyOf K H (.str x) (.type "str")
  | flt (x : UInt64) : TyOf K H (.flt x) (.type "float")
  | lst {a : Addr} {xs : List V} (e : H a = some (.lst xs)) : TyOf K H (.ref a) (.type "list")
  | frz {a : Addr} {o : Obj} {xs : List V} (e : H a = some (.frz o (.lst xs))) : TyOf K H (.ref a) (.type "list")
  | tup {a : Addr} {xs : List V} (e : H a = some (.tup xs)) : TyOf K H (.ref a) (.type "tuple")
  | dK {a : Addr} {kvs : List (Key × V)} (e : H a = some (.dK kvs)) : TyOf K H (.ref a) (.type "dict")
  | dT {a : Addr} {kvs : List (List Key × V)} (e : H a = some (.dT kvs)) : TyOf K H (.ref a) (.type "dict")
  | ins {a C dx : Addr} {fs : List (Str × V)} (e : H a = some (.ins C dx fs)) (cl : Cls K C) (ha : PySem.W.findIn K (.ref C) "__class__" = some (some (.builtin "object.__class__")))
      (hn : PySem.W.specialIn K (.builtin "object.__class__") "__get__" = some (some (.builtin "getset_descriptor.__get__"))) (htk : PySem.W.takesIn K (.builtin "object.__class__") = some true)
      (hm : PySem.W.mroIn K C (.type "object") = some true) : TyOf K H (.ref a) (.ref C)
/-- isinstance(x, c) for one class c, a built-in or an own one: kitOne's answer -/
theorem isinst_ok {x : V} {u t : Value} (I : Inv X pins σ H s) (rx : RelV x u) (ty : TyOf X.K H x t) (e : PySem.W.kitOne X.K t c = some b) (h : ∀ tk, Q (.bool b) { s with toks := tk }) :
    wpAny (model X.prog X.w) A (call (.builtin "isinstance") [u, c]) Q E s := by
  cases ty with
  | non => cases (show u = Value.none from rx); exact PySem.W.kia_one PySem.W.kitx_none I.kIn True.intro e (fun z => nomatch z) h
  | bl y => cases (show u = Value.bool y from rx); exact PySem.W.kia_one PySem.W.kitx_bool I.kIn True.intro e (fun z => nomatch z) h
  | int i => obtain ⟨t, q⟩ := (show ∃ t, u = Value.int i t from rx); cases q; exact PySem.W.kia_one PySem.W.kitx_int I.kIn True.intro e (fun z => nomatch z) h
  | str y => obtain ⟨t, q⟩ := (show ∃ t, u = Value.str y t from rx); cases q; exact PySem.W.kia_one PySem.W.kitx_str I.kIn True.intro e (fun z => nomatch z) h
  | flt y => obtain ⟨t, q⟩ := (show ∃ t, u = Value.float y t from rx); cases q; exact PySem.W.kia_one PySem.W.kitx_float I.kIn True.intro e (fun z => nomatch z) h
  | @lst a xs ea =>
    cases (show u = Value.ref a from rx)
    obtain ⟨_, _, n, _, h1⟩ := (show ObjOk X.prog X.w H s.heap a (.lst xs) from I.hok a _ ea)
    exact PySem.W.kia_one PySem.W.kitx_list I.kIn ⟨_, h1, rfl⟩ e (fun z => nomatch z) h
  | @frz a ob xs ea =>
    cases (show u = Value.ref a from rx)
    obtain ⟨_, _, _, n, _, h1⟩ := (show ObjOk X.prog X.w H s.heap a (.frz ob (.lst xs)) from I.hok a _ ea)
    exact PySem.W.kia_one PySem.W.kitx_list I.kIn ⟨_, h1, rfl⟩ e (fun z => nomatch z) h
  | @tup a xs ea =>
    cases (show u = Value.ref a from rx)
    obtain ⟨_, _, _, p⟩ := (show ObjOk X.prog X.w H s.heap a (.tup xs) from I.hok a _ ea)
    obtain ⟨o, h1, h2, _⟩ := p
    exact PySem.W.kia_one PySem.W.kitx_tuple I.kIn ⟨o, h1, h2⟩ e (fun z => nomatch z) h
  | @dK a kvs ea =>
    cases (show u = Value.ref a from rx)
    obtain ⟨_, _, vs, _, p⟩ := (show ObjOk X.prog X.w H s.heap a (.dK kvs) from I.hok a _ ea)
    obtain ⟨o, es, ep, h1, h2, _⟩ := p
    exact PySem.W.kia_one PySem.W.kitx_dict I.kIn ⟨o, h1, h2.1⟩ e (fun z => nomatch z) h
  | @dT a kvs ea =>
    cases (show u = Value.ref a from rx)
    obtain ⟨_, _, xs, _, o, es, ep, h1, h2, _⟩ := (show ObjOk X.prog X.w H s.heap a (.dT kvs) from I.hok a _ ea)
    exact PySem.W.kia_one PySem.W.kitx_dict I.kIn ⟨o, h1, h2.1⟩ e (fun z => nomatch z) h
  | @ins a C dx fs ea cl ha hn htk hm =>
    cases (show u = Value.ref a from rx)
    obtain ⟨mA, O, _⟩ := ins_get I.hok ea
    obtain ⟨od, J, _⟩ := O.look
    exact PySem.W.kia_one (PySem.W.kitx_own (cl.get _) cl.hd ha hn htk hm) I.kIn J e (fun z => nomatch z) h
end
end L2

namespace L2
open PySem PySem.Spec PyProof.Rows

/-! ### room -/
structure Room (k : Nat) (A : Around) : Prop where
  hd : A.handled = none
  dp : A.depth + 3 * k + 5 < recursionLimit
  un : A.units + 16 * k + 200 < cLine
theorem Room.mono {j k : Nat} {A : Around} (r : Room k A) (h : j ≤ k) : Room j A := ⟨r.hd, by have := r.dp; omega, by have := r.un; omega⟩
theorem Room.deeper {k : Nat} {A : Around} (r : Room (k + 1) A) (env : Env) : Room k (A.deeper env) :=
  ⟨r.hd, by have := r.dp; show A.depth + 1 + 3 * k + 5 < _; omega, by have := r.un; show A.units + 3 + 16 * k + 200 < _; omega⟩
theorem Room.in1 {k : Nat} {A : Around} (r : Room (k + 1) A) : Room k A.in1 :=
  ⟨r.hd, by have := r.dp; show A.depth + 3 * k + 5 < _; omega, by have := r.un; show A.units + 1 + 16 * k + 200 < _; omega⟩
theorem make_depth {A : Around} {C : Addr} {us : List Value} {kw : List (Str × Value)} : (A.under (.builtin "type.__call__" ⟨.ref C :: us, kw⟩)).depth = A.depth + 1 := by
  first | rfl | simp [Around.under, Code.weight, Code.isCreation, Code.isGuard, Code.isCaller, Code.frames, Code.isFrame, guardIds]
theorem make_units {A : Around} {C : Addr} {us : List Value} {kw : List (Str × Value)} : (A.under (.builtin "type.__call__" ⟨.ref C :: us, kw⟩)).units = A.units + 1 := by
  first | rfl | simp [Around.under, Code.cUnits, Code.frames, Code.isFrame]
theorem Room.make {k : Nat} {A : Around} (r : Room (k + 1) A) (C : Addr) (us : List Value) (kw : List (Str × Value)) : Room k (A.under (.builtin "type.__call__" ⟨.ref C :: us, kw⟩)) :=
  ⟨r.hd, by have := r.dp; rw [make_depth]; omega, by have := r.un; rw [make_units]; omega⟩
theorem Room.depth {k : Nat} {A : Around} (r : Room k A) : A.depth < recursionLimit := by have := r.dp; omega
theorem Room.units {k : Nat} {A : Around} (r : Room k A) : A.units + 64 < cLine := by have := r.un; omega
theorem Room.units0 {k : Nat} {A : Around} (r : Room k A) : A.units < cLine := by have := r.un; omega

/-! ### argument lists and displays -/
def tNil : TA := fun _ H Q => Q [] H
def tCons (ta : TE) (tr : TA) : TA := fun σ H Q => ta σ H fun x H1 => tr σ H1 fun xs H2 => Q (x :: xs) H2
section
variable {X : Cx} {e : Expr} {es : List Expr} {te : TE} {t : TA} {pos : Pos}
theorem pa_nil : PA X [] tNil := fun _ _ _ _ H Q I h => Calls.spliced_nil ⟨[], H, I, .nil, h⟩
theorem pa_cons (ha : PE X e te) (hr : PA X es t) (hs : starEach (e :: es) X.env = (false, eval e X.env) :: starEach es X.env := by rfl) : PA X (e :: es) (tCons te t) := by
  intro pos pins s σ H Q I h
  rw [hs]
  show wpAny _ _ (spliced ((false, eval e X.env) :: backTo pos (starEach es X.env))) _ _ s
  refine Calls.spliced_cons (thn (ha pins s σ H _ I h) fun u s1 ⟨x, H1, I1, r1, q1⟩ => ?_)
  exact thn (hr pos pins s1 σ H1 _ I1 q1) fun us s2 ⟨xs, H2, I2, r2, q2⟩ => ⟨x :: xs, H2, I2, .cons r1 r2, q2⟩

/-- a tuple, a list of written items -/
def tTup (t : TA) : TE := fun σ H Q => t σ H fun xs H1 => xs.length ≤ sizeLine ∧ ∀ p, H1 p = none → Q (.ref p) (upd H1 p (.tup xs))
def tLst (t : TA) : TE := fun σ H Q => t σ H fun xs H1 => xs.length ≤ sizeLine ∧ ∀ p, H1 p = none → Q (.ref p) (upd H1 p (.lst xs))
theorem pe_tup {x1} (h : PA X es t) : PE X (.Tuple es x1 pos) (tTup t) := by
  intro pins s σ H Q I hq
  refine wpAny_Tuple_spliced (thn (h pos pins s σ H _ I hq) fun us s1 ⟨xs, H1, I1, r, z, q⟩ => ⟨by rw [← r.length]; exact z, ?_⟩)
  have hf : H1 s1.heap.objs.size = none := I1.hok.fresh (Nat.le_refl _)
  refine ⟨.ref s1.heap.objs.size, upd H1 s1.heap.objs.size (.tup xs), I1.laid (t' := s1.toks) (fun b u e => Heap.get?_push_of_some _ e) (Nat.le_refl _) ?_, rfl, q _ hf⟩
  exact ⟨z, us, r, ⟨_, Heap.get?_push_size _ rfl, rfl, _, rfl⟩⟩
theorem pe_lst (h : PA X es t) : PE X (.List es pos) (tLst t) := by
  intro pins s σ H Q I hq
  refine wpAny_List_spliced (thn (h pos pins s σ H _ I hq) fun us s1 ⟨xs, H1, I1, r, z, q⟩ => ⟨by rw [← r.length]; exact z, ?_⟩)
  have hf : H1 s1.heap.objs.size = none := I1.hok.fresh (Nat.le_refl _)
  refine ⟨.ref s1.heap.objs.size, upd H1 s1.heap.objs.size (.lst xs), I1.laid (t' := s1.toks) (fun b u e => Heap.get?_push_of_some _ e) (Nat.le_refl _) ?_, rfl, q _ hf⟩
  exact ⟨z, us, 0, r, Heap.get?_push_size _ rfl⟩
end

/-! ### what a def promises -/
/-- a def's promise: the bound arguments in the parameters' order, the heap, the wanted end, the wanted exception -/
abbrev Sp := List V → Hp → VK → XK → Prop
/-- how an exception lies behind a call (file 08 gives it): the callers' frames, abstract heap and state ahead of the call, the wish, the exception, the state -/
abbrev CXT := List Env → Hp → Shared → XK → Value → Shared → Prop

/-- the state at a call -/
structure Env0 (P : Program) (w : World) (K : PySem.W.Frag) (mg : Str → Option Value) (base : Heap) (A : Around) (outer : List Env) (s : Shared) (H : Hp) : Prop where
  frames : A.frames = some outer
  mod : Mod K mg base
  bs : ∀ b o, base.get? b = some o → s.heap.get? b = some o ∧ H b = none
  bsz : base.objs.size ≤ s.heap.objs.size
  funs : s.heap.FunFrames base outer
  frf : ∀ b ∈ frs outer, H b = none
  hok : HOk P w H s.heap
  bare : AllBare s.gens
/-- a call's end -/
def CE (outer : List Env) (P : Program) (w : World) (H : Hp) (s : Shared) (Q : VK) (u : Value) (s' : Shared) : Prop :=
  ∃ v H', s'.os = s.os ∧ AllBare s'.gens ∧ Un (frs outer) [] H H' s.heap s'.heap ∧ HOk P w H' s'.heap ∧ RelV v u ∧ Q v H'
def CR (CX : CXT) (outer : List Env) (P : Program) (w : World) (H : Hp) (s : Shared) (Q : VK) (E : XK) (r : Result) (s' : Shared) : Prop :=
  match r with
  | .ok (.ret u) => CE outer P w H s Q u s'
  | .ok _ => False
  | .error e => CX outer H s E e s'
structure FnOk (P : Program) (w : World) (K : PySem.W.Frag) (mg : Str → Option Value) (base : Heap) (CX : CXT) (k : Nat) (f : Addr) (fd : FuncData) (ps : List Str) (sp : Sp) : Prop where
  len : ∀ vs H Q E, sp vs H Q E → vs.length = ps.length
  run : ∀ (A : Around) (outer : List Env) (s : Shared) (H : Hp) (args : Args) (us : List Value) (vs : List V) (Q : VK) (E : XK), Room k A → Env0 P w K mg base A outer s H → BindsTo s fd args (ps.zip us) → Vals vs us → sp vs H Q E →
    codeAny (model P w) A (.call (.ref f) args) (CR CX outer P w H s Q E) s
theorem FnOk.mono {P : Program} {w : World} {K : PySem.W.Frag} {mg : Str → Option Value} {base : Heap} {CX : CXT} {j k : Nat} {f : Addr} {fd : FuncData} {ps : List Str} {sp : Sp} (F : FnOk P w K mg base CX j f fd ps sp) (h : j ≤ k) :
    FnOk P w K mg base CX k f fd ps sp := ⟨F.len, fun A outer s H args us vs Q E hr => F.run A outer s H args us vs Q E (hr.mono h)⟩
/-- a weaker promise -/
theorem FnOk.imp {P : Program} {w : World} {K : PySem.W.Frag} {mg : Str → Option Value} {base : Heap} {CX : CXT} {k : Nat} {f : Addr} {fd : FuncData} {ps : List Str} {sp sp' : Sp} (F : FnOk P w K mg base CX k f fd ps sp)
    (h : ∀ vs H Q E, sp' vs H Q E → sp vs H Q E) : FnOk P w K mg base CX k f fd ps sp' :=
  ⟨fun vs H Q E q => F.len vs H Q E (h _ _ _ _ q), fun A outer s H args us vs Q E hr he hb hv hs => F.run A outer s H args us vs Q E hr he hb hv (h _ _ _ _ hs)⟩

theorem Env0.make {P : Program} {w : World} {K : PySem.W.Frag} {mg : Str → Option Value} {base : Heap} {A : Around} {outer : List Env} {s : Shared} {H : Hp} (e : Env0 P w K mg base A outer s H) (C : Addr) (us : List Value) (kw : List (Str × Value)) :
    Env0 P w K mg base (A.under (.builtin "type.__call__" ⟨.ref C :: us, kw⟩)) outer s H := ⟨by first | exact e.frames | (simpa [Around.under, Code.envs, Code.isFrame, pushEnvs] using e.frames), e.mod, e.bs, e.bsz, e.funs, e.frf, e.hok, e.bare⟩
theorem Env0.in1 {P : Program} {w : World} {K : PySem.W.Frag} {mg : Str → Option Value} {base : Heap} {A : Around} {outer : List Env} {s : Shared} {H : Hp} (e : Env0 P w K mg base A outer s H) :
    Env0 P w K mg base A.in1 outer s H := ⟨e.frames, e.mod, e.bs, e.bsz, e.funs, e.frf, e.hok, e.bare⟩

section
variable {X : Cx} {pins : List (Addr × Obj)} {σ : St} {H : Hp} {s s' : Shared}
/-- from a body: what a callee wants -/
theorem Inv.env0 (I : Inv X pins σ H s) : Env0 X.prog X.w X.K X.mg X.base X.A X.stack s H :=
  ⟨I.ok.frames, I.ok.mod, I.bs, Nat.le_trans I.ok.bsz I.sz, I.stack, I.stkFree, I.hok, I.bare⟩
/-- behind a call -/
theorem Inv.after {Q : VK} {u : Value} (I : Inv X pins σ H s) (h : CE X.stack X.prog X.w H s Q u s') : EP X pins σ Q u s' := by
  obtain ⟨v, H', os, bare, un, hok, r, q⟩ := h
  obtain ⟨hh, g, d, t, os'⟩ := s'
  obtain rfl : os' = s.os := os
  exact ⟨v, H', I.call (h' := hh) (g' := g) (d' := d) (t' := t) (ch := []) un hok bare (fun b z => absurd z (by simp)), r, q⟩
end

/-! ### calls -/
/-- f(..): the written arguments, then the defaults dvs; E: what is wanted of an exception -/
def tCall (sp : Sp) (dvs : List V) (E : XK) (t : TA) : TE := fun σ H Q => t σ H fun vs H1 => sp (vs ++ dvs) H1 Q E
/-- o.m(..) of an instance of the class at C -/
def tMeth (C : Addr) (m : Str) (sp : Sp) (dvs : List V) (E : XK) (ta : TE) (t : TA) : TE := fun σ H Q => ta σ H fun x H1 => ∃ a dx fs, x = .ref a ∧ H1 a = some (.ins C dx fs) ∧ fs.lookup m = none ∧
  t σ H1 fun vs H2 => sp (x :: (vs ++ dvs)) H2 Q E
/-- C(..): a new instance and its dict, then __init__ -/
def tMake (C : Addr) (sp : Sp) (dvs : List V) (E : XK) (t : TA) : TE := fun σ H Q => t σ H fun vs H1 => ∀ x dx, H1 x = none → H1 dx = none → dx ≠ x →
  sp (.ref x :: (vs ++ dvs)) (upd (upd H1 dx (.own x)) x (.ins C dx [])) (fun v H2 => v = .non ∧ Q (.ref x) H2) E

/-- how the parameters are bound: us the positional arguments, kw the keywords' values by name, ds the defaults that fill up -/
def Binds (K : PySem.W.Frag) (fd : FuncData) (ps : List Str) (ds : List Value) : Prop :=
  ∀ (s : Shared) (us : List Value), K.In s.heap → (us ++ ds).length = ps.length → BindsTo s fd ⟨us, []⟩ (ps.zip (us ++ ds))
/-- every parameter is given -/
theorem Binds.all {K : PySem.W.Frag} {fd : FuncData} {ps : List Str} (h : ∀ us : List Value, us.length = ps.length → bindArgs fd ⟨us, []⟩ = pure (ps.zip us)) : Binds K fd ps [] := fun s us _ hl => by
  rw [List.append_nil] at hl ⊢
  exact .of_eq (h us hl)

/-- an exception of a callee reaches what this body wants of exceptions -/
def Passes (CX : CXT) (X : Cx) (E : XK) : Prop := ∀ (pins : List (Addr × Obj)) (σ : St) (H : Hp) (s : Shared) (e : Value) (s' : Shared), Inv X pins σ H s → CX X.stack H s E e s' → X.xe e s'

section
variable {X : Cx} {CX : CXT} {k : Nat} {f C : Addr} {fd : FuncData} {ps : List Str} {sp : Sp} {dvs : List V} {ds : List Value} {E : XK} {x m : Str} {p pos apos : Pos} {e o : Expr} {es : List Expr} {ta : TE} {t : TA}

/-- the callee runs -/
theorem run_fn {pins : List (Addr × Obj)} {σ : St} {H : Hp} {s : Shared} {Q : VK} {us : List Value} {vs : List V} (F : FnOk X.prog X.w X.K X.mg X.base CX k f fd ps sp) (hr : Room k X.A) (hb : Binds X.K fd ps ds) (hd : Vals dvs ds) (hx : Passes CX X E)
    (I : Inv X pins σ H s) (r : Vals vs us) (h : sp (vs ++ dvs) H Q E) : wpAny (model X.prog X.w) X.A (call (.ref f) us) (EP X pins σ Q) X.xe s := by
  have r2 : Vals (vs ++ dvs) (us ++ ds) := r.append hd
  have hl : (us ++ ds).length = ps.length := by rw [← r2.length]; exact F.len _ _ _ _ h
  refine wpAny_call (codeAny_mono (F.run X.A X.stack s H ⟨us, []⟩ (us ++ ds) (vs ++ dvs) Q E hr I.env0 (hb s us I.kIn hl) r2 h) fun r s' hq => ?_)
  cases r with
  | error e => exact hx pins σ H s e s' I hq
  | ok fl =>
    cases fl with
    | ret u => exact I.after hq
    | next => exact False.elim hq
    | brk => exact False.elim hq
    | cont => exact False.elim hq

theorem pe_call (F : FnOk X.prog X.w X.K X.mg X.base CX k f fd ps sp) (hr : Room k X.A) (hg : Gl X x) (hm : X.mg x = some (.ref f)) (hk : PySem.W.keepIn X.K (.ref f) = true) (hb : Binds X.K fd ps ds) (hd : Vals dvs ds) (hx : Passes CX X E)
    (ha : PA X (e :: es) t) (hdb : (x == ("__debug__" : Str)) = false := by decide) (he : starEach (e :: es) X.env = (false, eval e X.env) :: starEach es X.env := by rfl) (hpl : (backTo pos (starEach es X.env)).any (·.1) = false := by rfl) :
    PE X (.Call (.Name x p) (e :: es) [] pos) (tCall sp dvs E t) := by
  intro pins s σ H Q I h
  refine wpAny_Call_Name_kw (ld_glob I hg hm ?_ hdb)
  refine PySem.W.callWith_K (h₀ := X.base) I.ok.mod.kin hk (thn (ha pos pins s σ H _ I h) fun us s1 ⟨vs, H1, I1, r, q⟩ => ⟨I1.kIn, ?_⟩) he hpl
  exact run_fn F hr hb hd hx I1 r q
theorem pe_call0 (F : FnOk X.prog X.w X.K X.mg X.base CX k f fd ps sp) (hr : Room k X.A) (hg : Gl X x) (hm : X.mg x = some (.ref f)) (hk : PySem.W.keepIn X.K (.ref f) = true) (hb : Binds X.K fd ps ds) (hd : Vals dvs ds) (hx : Passes CX X E)
    (hdb : (x == ("__debug__" : Str)) = false := by decide) : PE X (.Call (.Name x p) [] [] pos) (tCall sp dvs E tNil) := by
  intro pins s σ H Q I h
  refine wpAny_Call_Name_kw (ld_glob I hg hm ?_ hdb)
  exact PySem.W.callWith_K0 I.kIn hk (run_fn (us := []) F hr hb hd hx I .nil h)

/-- o.m(e, ..) -/
theorem pe_meth {pl : Sem Bool} (he : PE X o ta) (c : Cls X.K C) (hm : Meth X.K C m f) (F : FnOk X.prog X.w X.K X.mg X.base CX k f fd ps sp) (hr : Room k X.A) (hb : Binds X.K fd ps ds) (hd : Vals dvs ds) (hx : Passes CX X E) (ha : PA X (e :: es) t)
    (hst : starEach (e :: es) X.env = (false, eval e X.env) :: starEach es X.env := by rfl) (hpl : (backTo pos (starEach es X.env)).any (·.1) = false := by rfl)
    (ht : eval (.Call (.Attribute o m apos) (e :: es) [] pos) X.env = (do
      let ov ← eval o X.env
      standAt apos.atName
      let (f, first) ← holding [ov] (getMethod ov m pl)
      callWith pos f first (backTo pos (starEach (e :: es) X.env)) (backToKw pos (keywordEach [] X.env))) := by rfl) :
    PE X (.Call (.Attribute o m apos) (e :: es) [] pos) (tMeth C m sp dvs E ta t) := by
  intro pins s σ H Q I h
  refine PySem.W.methodCall_KW (pl := pl) (thn (he pins s σ H _ I h) fun u s1 ⟨x, H1, I1, rx, a, dx, fs, ex, ea, l, q⟩ => ?_) ht
  subst ex
  obtain rfl : u = Value.ref a := rx
  refine getmeth_ok I1 ea c hm l ?_
  refine PySem.W.callWith_K (first := [.ref a]) (h₀ := X.base) I.ok.mod.kin hm.kp (thn (ha pos pins s1 σ H1 _ I1 q) fun us s2 ⟨vs, H2, I2, r, q2⟩ => ⟨I2.kIn, ?_⟩) hst hpl
  exact run_fn (us := .ref a :: us) (vs := .ref a :: vs) F hr hb hd hx I2 (.cons rfl r) q2
/-- o.m() -/
theorem pe_meth0 {pl : Sem Bool} (he : PE X o ta) (c : Cls X.K C) (hm : Meth X.K C m f) (F : FnOk X.prog X.w X.K X.mg X.base CX k f fd ps sp) (hr : Room k X.A) (hb : Binds X.K fd ps ds) (hd : Vals dvs ds) (hx : Passes CX X E)
    (ht : eval (.Call (.Attribute o m apos) [] [] pos) X.env = (do
      let ov ← eval o X.env
      standAt apos.atName
      let (f, first) ← holding [ov] (getMethod ov m pl)
      callWith pos f first (backTo pos (starEach [] X.env)) (backToKw pos (keywordEach [] X.env))) := by rfl) :
    PE X (.Call (.Attribute o m apos) [] [] pos) (tMeth C m sp dvs E ta tNil) := by
  intro pins s σ H Q I h
  refine PySem.W.methodCall_KW (pl := pl) (thn (he pins s σ H _ I h) fun u s1 ⟨x, H1, I1, rx, a, dx, fs, ex, ea, l, q⟩ => ?_) ht
  subst ex
  obtain rfl : u = Value.ref a := rx
  refine getmeth_ok I1 ea c hm l ?_
  exact PySem.W.callWith_K0 (first := [.ref a]) I1.kIn hm.kp (run_fn (us := [.ref a]) (vs := [.ref a]) F hr hb hd hx I1 (.cons rfl .nil) q)

/-- what a class must have to be made -/
structure Mk (K : PySem.W.Frag) (C f : Addr) : Prop where
  makes : PySem.W.makesIn K C = true
  init : PySem.W.findIn K (.ref C) "__init__" = some (some (.ref f))
  fn : PySem.W.isFn K (.ref f) = true
  kp : PySem.W.keepIn K (.ref C) = true

theorem run_make {pins : List (Addr × Obj)} {σ : St} {H : Hp} {s : Shared} {Q : VK} {us : List Value} {vs : List V} (M : Mk X.K C f) (F : FnOk X.prog X.w X.K X.mg X.base CX k f fd ps sp) (hr : Room (k + 1) X.A) (hb : Binds X.K fd ps ds) (hd : Vals dvs ds)
    (hx : Passes CX X E) (I : Inv X pins σ H s) (r : Vals vs us)
    (h : ∀ x dx, H x = none → H dx = none → dx ≠ x → sp (.ref x :: (vs ++ dvs)) (upd (upd H dx (.own x)) x (.ins C dx [])) (fun v H2 => v = .non ∧ Q (.ref x) H2) E) :
    wpAny (model X.prog X.w) X.A (call (.ref C) us) (EP X pins σ Q) X.xe s := by
  have hq := h (s.heap.objs.size + 1) s.heap.objs.size (I.hok.fresh (Nat.le_succ _)) (I.hok.fresh (Nat.le_refl _)) (Nat.ne_of_lt (Nat.lt_succ_self _))
  have I2 := Inv.made (C := C) I
  have r2 : Vals (V.ref (s.heap.objs.size + 1) :: (vs ++ dvs)) (Value.ref (s.heap.objs.size + 1) :: (us ++ ds)) := .cons rfl (r.append hd)
  have hl : (Value.ref (s.heap.objs.size + 1) :: us ++ ds).length = ps.length := by
    have e := r2.length
    rw [F.len _ _ _ _ hq] at e
    exact e.symm
  refine wpAny_call (make_map (f := f) I.kIn M.makes M.init (beq_iff_eq.mp M.fn) (codeAny_mono (F.run _ X.stack _ _ ⟨Value.ref (s.heap.objs.size + 1) :: us, []⟩ (Value.ref (s.heap.objs.size + 1) :: (us ++ ds)) _ _ E (hr.make C us [])
    (I2.env0.make C us []) (hb _ (Value.ref (s.heap.objs.size + 1) :: us) I2.kIn hl) r2 hq) fun r s' hq' => ?_))
  cases r with
  | error e => exact hx pins σ _ _ e s' I2 hq'
  | ok fl =>
    cases fl with
    | ret u =>
      obtain ⟨v, H', I3, rv, ev, q3⟩ := I2.after hq'
      subst ev
      exact ⟨rv, ⟨V.ref (s.heap.objs.size + 1), H', I3, rfl, q3⟩⟩
    | next => exact False.elim hq'
    | brk => exact False.elim hq'
    | cont => exact False.elim hq'
theorem pe_make (M : Mk X.K C f) (F : FnOk X.prog X.w X.K X.mg X.base CX k f fd ps sp) (hr : Room (k + 1) X.A) (hg : Gl X x) (hm : X.mg x = some (.ref C)) (hb : Binds X.K fd ps ds) (hd : Vals dvs ds) (hx : Passes CX X E)
    (ha : PA X (e :: es) t) (hdb : (x == ("__debug__" : Str)) = false := by decide) (he : starEach (e :: es) X.env = (false, eval e X.env) :: starEach es X.env := by rfl) (hpl : (backTo pos (starEach es X.env)).any (·.1) = false := by rfl) :
    PE X (.Call (.Name x p) (e :: es) [] pos) (tMake C sp dvs E t) := by
  intro pins s σ H Q I h
  refine wpAny_Call_Name_kw (ld_glob I hg hm ?_ hdb)
  refine PySem.W.callWith_K (h₀ := X.base) I.ok.mod.kin M.kp (thn (ha pos pins s σ H _ I h) fun us s1 ⟨vs, H1, I1, r, q⟩ => ⟨I1.kIn, ?_⟩) he hpl
  exact run_make M F hr hb hd hx I1 r q
theorem pe_make0 (M : Mk X.K C f) (F : FnOk X.prog X.w X.K X.mg X.base CX k f fd ps sp) (hr : Room (k + 1) X.A) (hg : Gl X x) (hm : X.mg x = some (.ref C)) (hb : Binds X.K fd ps ds) (hd : Vals dvs ds) (hx : Passes CX X E)
    (hdb : (x == ("__debug__" : Str)) = false := by decide) : PE X (.Call (.Name x p) [] [] pos) (tMake C sp dvs E tNil) := by
  intro pins s σ H Q I h
  refine wpAny_Call_Name_kw (ld_glob I hg hm ?_ hdb)
  exact PySem.W.callWith_K0 I.kIn M.kp (run_make (us := []) M F hr hb hd hx I .nil h)
end

/-! ### keywords -/
/-- the values of the keywords, from the left -/
def PK (X : Cx) (kws : List Keyword) (t : TA) : Prop :=
  ∀ (pos : Pos) (pins : List (Addr × Obj)) (s : Shared) (σ : St) (H : Hp) (Q : List V → Hp → Prop), Inv X pins σ H s → t σ H Q → wpAny (model X.prog X.w) X.A (evalAll ((backToKw pos (keywordEach kws X.env)).map (·.2))) (AP X pins σ Q) X.xe s
section
variable {X : Cx} {CX : CXT} {k : Nat} {f C : Addr} {fd : FuncData} {ps ks : List Str} {sp : Sp} {E : XK} {x m : Str} {p pos apos kpos : Pos} {e o : Expr} {es : List Expr} {kws : List Keyword} {te ta : TE} {t tk : TA} {nm : Option Str}
theorem pk_nil : PK X [] tNil := fun _ _ _ _ H Q I h => wpAny_evalAll_nil ⟨[], H, I, .nil, h⟩
theorem pk_cons (ha : PE X e te) (hr : PK X kws t) : PK X (⟨nm, e, kpos⟩ :: kws) (tCons te t) := by
  intro pos pins s σ H Q I h
  show wpAny _ _ (evalAll ((do let v ← eval e X.env; standAt pos; pure v) :: (backToKw pos (keywordEach kws X.env)).map (·.2))) _ _ s
  refine wpAny_evalAll_cons (wpAny_bind (thn (ha pins s σ H _ I h) fun u s1 ⟨x, H1, I1, r1, q1⟩ => wpAny_bind (wpAny_standAt (wpAny_pure ?_))))
  exact thn (hr pos pins s1 σ H1 _ I1 q1) fun us s2 ⟨xs, H2, I2, r2, q2⟩ => ⟨x :: xs, H2, I2, .cons r1 r2, q2⟩

/-- how a call with keywords binds: g puts the positional values us and the keywords' values ws (names ks) in the parameters' order, defaults among them -/
structure KBinds (K : PySem.W.Frag) (fd : FuncData) (ps ks : List Str) (g : List Value → List Value → List Value) (gV : List V → List V → List V) : Prop where
  to : ∀ (s : Shared) (us ws : List Value), K.In s.heap → (g us ws).length = ps.length → BindsTo s fd ⟨us, ks.zip ws⟩ (ps.zip (g us ws))
  rel : ∀ {vs : List V} {us : List Value} {zs : List V} {ws : List Value}, Vals vs us → Vals zs ws → Vals (gV vs zs) (g us ws)
def tCallK (sp : Sp) (gV : List V → List V → List V) (E : XK) (t tk : TA) : TE := fun σ H Q => t σ H fun vs H1 => tk σ H1 fun zs H2 => sp (gV vs zs) H2 Q E
variable {g : List Value → List Value → List Value} {gV : List V → List V → List V}
theorem run_fnk {pins : List (Addr × Obj)} {σ : St} {H : Hp} {s : Shared} {Q : VK} {us ws : List Value} {vs zs : List V} (F : FnOk X.prog X.w X.K X.mg X.base CX k f fd ps sp) (hr : Room k X.A) (hb : KBinds X.K fd ps ks g gV) (hx : Passes CX X E)
    (I : Inv X pins σ H s) (r : Vals vs us) (rz : Vals zs ws) (h : sp (gV vs zs) H Q E) : wpAny (model X.prog X.w) X.A (call (.ref f) us (ks.zip ws)) (EP X pins σ Q) X.xe s := by
  have r2 := hb.rel r rz
  have hl : (g us ws).length = ps.length := by rw [← r2.length]; exact F.len _ _ _ _ h
  refine wpAny_call (codeAny_mono (F.run X.A X.stack s H ⟨us, ks.zip ws⟩ (g us ws) (gV vs zs) Q E hr I.env0 (hb.to s us ws I.kIn hl) r2 h) fun r s' hq => ?_)
  cases r with
  | error e => exact hx pins σ H s e s' I hq
  | ok fl =>
    cases fl with
    | ret u => exact I.after hq
    | next => exact False.elim hq
    | brk => exact False.elim hq
    | cont => exact False.elim hq
/-- f(e, .., k = v, ..) -/
theorem pe_callK (F : FnOk X.prog X.w X.K X.mg X.base CX k f fd ps sp) (hr : Room k X.A) (hg : Gl X x) (hm : X.mg x = some (.ref f)) (hk : PySem.W.keepIn X.K (.ref f) = true) (hb : KBinds X.K fd ps ks g gV) (hx : Passes CX X E)
    (ha : PA X (e :: es) t) (hkw : PK X kws tk) (hall : (backToKw pos (keywordEach kws X.env)).all (·.1.isSome) = true := by rfl) (hks : (backToKw pos (keywordEach kws X.env)).filterMap (·.1) = ks := by rfl)
    (hdb : (x == ("__debug__" : Str)) = false := by decide) (he : starEach (e :: es) X.env = (false, eval e X.env) :: starEach es X.env := by rfl)
    (hpl : ((backTo pos (starEach (e :: es) X.env)).any (·.1) || (backToKw pos (keywordEach kws X.env)).any (·.1.isNone)) = false := by rfl) :
    PE X (.Call (.Name x p) (e :: es) kws pos) (tCallK sp gV E t tk) := by
  intro pins s σ H Q I h
  refine wpAny_Call_Name_kw (ld_glob I hg hm ?_ hdb)
  refine PySem.W.callWith_KW (h₀ := X.base) I.ok.mod.kin hk hall (thn (ha pos pins s σ H _ I h) fun us s1 ⟨vs, H1, I1, r, q⟩ => ?_) hpl he
  refine thn (hkw pos pins s1 σ H1 _ I1 q) fun ws s2 ⟨zs, H2, I2, rz, q2⟩ => ⟨I2.kIn, ?_⟩
  rw [hks]
  exact run_fnk F hr hb hx I2 r rz q2
end

/-! ### a def's body keeps its promise -/
/-- names: the parameters first -/
structure FnScope (N P : List Str) (sc : Scope) : Prop where
  kind : sc.kind = .function
  co : sc.isCoroutine = false
  gen : sc.isGenerator = false
  nd : N.Nodup
  pre : N.take P.length = P
  par : ∀ x ∈ P, sc.names.lookup x = some .local ∨ sc.names.lookup x = some .cell
  nofree : ∀ y ∈ sc.names, y.2 ≠ .free

theorem bindL_out {kindOf : Str → Option NameKind} {x : Str} : ∀ {binds : List (Str × Value)} {m : Str → Option Value}, (∀ v, (x, v) ∉ binds) → bindL kindOf binds m x = m x
  | [], _, _ => rfl
  | (n, v) :: r, m, h => by
    unfold bindL
    rw [bindL_out fun w hw => h w (List.mem_cons_of_mem _ hw)]
    split
    · have : x ≠ n := by rintro rfl; exact h v List.mem_cons_self
      simp [this]
    · rfl
theorem bindC_out {kindOf : Str → Option NameKind} {x : Str} : ∀ {binds : List (Str × Value)} {m : Str → Option Value}, (∀ v, (x, v) ∉ binds) → bindC kindOf binds m x = m x
  | [], _, _ => rfl
  | (n, v) :: r, m, h => by
    unfold bindC
    rw [bindC_out fun w hw => h w (List.mem_cons_of_mem _ hw)]
    split
    · rfl
    · have : x ≠ n := by rintro rfl; exact h v List.mem_cons_self
      simp [this]
theorem bindL_get {kindOf : Str → Option NameKind} {x : Str} {v : Value} : ∀ {P : List Str} {vs : List Value} {i : Nat} {m : Str → Option Value}, P.Nodup → P[i]? = some x → vs[i]? = some v → kindOf x = some .local →
    bindL kindOf (P.zip vs) m x = some v
  | [], _, _, _, _, h, _, _ => by simp at h
  | _ :: _, [], _, _, _, _, h, _ => by simp at h
  | p :: P, w :: vs, 0, m, nd, h1, h2, hk => by
    simp at h1 h2; subst h1; subst h2
    show bindL kindOf ((p, w) :: P.zip vs) m p = _
    unfold bindL
    rw [bindL_out fun v hv => (List.nodup_cons.mp nd).1 (List.of_mem_zip hv).1, if_pos hk]
    simp
  | p :: P, w :: vs, i + 1, m, nd, h1, h2, hk => by
    show bindL kindOf ((p, w) :: P.zip vs) m x = _
    unfold bindL
    exact bindL_get (i := i) (List.nodup_cons.mp nd).2 (by simpa using h1) (by simpa using h2) hk
theorem bindC_get {kindOf : Str → Option NameKind} {x : Str} {v : Value} : ∀ {P : List Str} {vs : List Value} {i : Nat} {m : Str → Option Value}, P.Nodup → P[i]? = some x → vs[i]? = some v → kindOf x ≠ some .local →
    bindC kindOf (P.zip vs) m x = some v
  | [], _, _, _, _, h, _, _ => by simp at h
  | _ :: _, [], _, _, _, _, h, _ => by simp at h
  | p :: P, w :: vs, 0, m, nd, h1, h2, hk => by
    simp at h1 h2; subst h1; subst h2
    show bindC kindOf ((p, w) :: P.zip vs) m p = _
    unfold bindC
    rw [bindC_out fun v hv => (List.nodup_cons.mp nd).1 (List.of_mem_zip hv).1, if_neg hk]
    simp
  | p :: P, w :: vs, i + 1, m, nd, h1, h2, hk => by
    show bindC kindOf ((p, w) :: P.zip vs) m x = _
    unfold bindC
    exact bindC_get (i := i) (List.nodup_cons.mp nd).2 (by simpa using h1) (by simpa using h2) hk

/-- the names' values at the entry -/
def start (N : List Str) (vs : List V) : St := vs.map some ++ List.replicate (N.length - vs.length) none

/-- the context of a def's body, at its entry; an exception leaves the frame, then lies as CX says -/
def cxOf (CX : CXT) (P : Program) (w : World) (K : PySem.W.Frag) (mg : Str → Option Value) (base : Heap) (N : List Str) (qual : Str) (scope : Scope) (f : Addr) (cd : Value) (A : Around) (outer : List Env) (s : Shared) (H : Hp) (E : XK) : Cx where
  prog := P
  w := w
  K := K
  mg := mg
  base := base
  A := A.deeper (envOfC qual scope s.heap.objs.size f cd)
  N := N
  s₀ := s
  H₀ := H
  env := envOfC qual scope s.heap.objs.size f cd
  outer := outer
  stack := envOfC qual scope s.heap.objs.size f cd :: outer
  ex := []
  calm := true
  fn := fun _ => true
  pn := []
  xe := fun e s' => wpAny (model P w) (A.deeper (envOfC qual scope s.heap.objs.size f cd)) (leaving (envOfC qual scope s.heap.objs.size f cd) e) (fun _ s'' => CX outer H s E e s'') (fun e' s'' => CX outer H s E e' s'') s'

theorem cell_has {sc : Scope} {n : Nat} {x : Str} (h : sc.names.lookup x = some .cell) : ∃ c, (cellsFrom n sc.names []).lookup x = some c := by
  have q := PySem.W.cellsFrom_some sc.names n [] (.inl h)
  exact Option.isSome_iff_exists.mp q

theorem inv_start {CX : CXT} {P : Program} {w : World} {K : PySem.W.Frag} {mg : Str → Option Value} {base : Heap} {N ps : List Str} {qual : Str} {scope : Scope} {f : Addr} {cd : Value} {A : Around} {outer : List Env} {s s1 : Shared} {H : Hp} {E : XK} {us : List Value} {vs : List V}
    (S : FnScope N ps scope) (hd : A.handled = none) (e0 : Env0 P w K mg base A outer s H) (hl : vs.length = ps.length) (r : Vals vs us)
    (x : InCallC s s.heap.objs.size (bindL (envOfC qual scope s.heap.objs.size f cd).kindOf (ps.zip us) fun _ => none) (cellsFrom (s.heap.objs.size + 1) scope.names []) (bindC (envOfC qual scope s.heap.objs.size f cd).kindOf (ps.zip us) fun _ => none) s1) :
    Inv (cxOf CX P w K mg base N qual scope f cd A outer s H E) [] (start N vs) H s1 := by
  have hpl : ps.length ≤ N.length := by have := congrArg List.length S.pre; rw [List.length_take] at this; omega
  obtain ⟨h1, tk, rfl, hk⟩ := x.done
  have noA : ∀ b : Addr, b ∉ (cxOf CX P w K mg base N qual scope f cd A outer s H E).ex := fun b z => absurd (show b ∈ ([] : List Addr) from z) (by simp)
  refine ⟨⟨e0.mod, S.kind, rfl, rfl, Nat.le_refl _, fun y z c h1 h2 => ?_, fun y hy => ?_, fun y c _ h => ?_, fun _ => hd, Around.frames_deeper e0.frames, .inr ⟨rfl, rfl⟩, fun b z => absurd z (noA b), e0.bs, e0.bsz, fun b _ _ => noA b, fun b z => absurd z (noA b), e0.funs, e0.frf⟩,
    rfl, e0.bare, Un.kept hk, ⟨_, x.toInCall.ns, fun i y v h1 h2 h3 => ?_⟩, fun y c h => ⟨_, x.cell y c h⟩, e0.hok.fresh (Nat.le_refl _), fun y c h => ?_, fun p hp => absurd (show p ∈ ([] : List (Addr × Obj)) from hp) (by simp), e0.hok.kept hk, ?_⟩
  · exact name_of_addr x.apart (PySem.mem_of_lookup h1) (PySem.mem_of_lookup h2)
  · have hy : scope.names.lookup y = some .cell ∨ scope.names.lookup y = some .free := hy
    rcases hy with hy | hy
    · exact cell_has hy
    · exact absurd rfl (S.nofree _ (PySem.mem_of_lookup hy))
  · exact Nat.le_of_lt (x.above y c (PySem.mem_of_lookup h))
  · have hi : i < vs.length := by
      unfold start at h2
      by_cases hi : i < vs.length
      · exact hi
      · rw [List.getElem?_append_right (by simpa using hi)] at h2
        rw [List.getElem?_replicate] at h2
        split at h2 <;> cases h2
    have ha : vs[i]? = some v := by
      unfold start at h2
      rw [List.getElem?_append_left (by simpa using hi), List.getElem?_map] at h2
      cases e : vs[i]? with
      | none => rw [e] at h2; cases h2
      | some a => rw [e] at h2; cases h2; rfl
    obtain ⟨u, hu, rv⟩ := r.get ha
    have hp : ps[i]? = some y := by
      rw [← S.pre, List.getElem?_take_of_lt (by omega)]; exact h1
    have ndP : ps.Nodup := by rw [← S.pre]; exact S.nd.sublist (List.take_sublist _ _)
    refine ⟨u, rv, ?_⟩
    rcases S.par y (List.mem_of_getElem? hp) with k | k
    · exact .inl ⟨k, bindL_get ndP hp hu k⟩
    · obtain ⟨c, e⟩ := cell_has (n := s.heap.objs.size + 1) k
      refine .inr ⟨.inl k, c, e, ?_⟩
      have q := x.cell y c e
      rw [bindC_get ndP hp hu (by show scope.names.lookup y ≠ _; rw [k]; decide)] at q
      exact q
  · exact e0.hok.fresh (Nat.le_of_lt (x.above y c (PySem.mem_of_lookup h)))
  · unfold start
    show _ = N.length
    rw [List.length_append, List.length_map, List.length_replicate]
    omega

/-- THE RULE: a def (or a method) of the text, by its body. The body's reading t is chosen for each entry; it is run at the parameters' values -/
theorem fn_of {CX : CXT} {P : Program} {w : World} {K : PySem.W.Frag} {mg : Str → Option Value} {base : Heap} {k : Nat} {f : Addr} {name qual : Str} {params : Arguments} {body : List Stmt} {scope : Scope} {dV kV doc pm cdv ct oc : Value} {an od : Option Addr}
    {osl : Array (Option Value)} {N ps : List Str} {sp : Sp} (lk : K.lookup f = some ⟨oc, od, .func (PySem.W.fnOf name qual params body scope dV kV doc pm an cdv ct), osl⟩) (hcd : PySem.W.codeIn K cdv qual = true) (S : FnScope N ps scope)
    (len : ∀ vs H Q E, sp vs H Q E → vs.length = ps.length)
    (hbody : ∀ (A : Around) (outer : List Env) (s : Shared) (H : Hp) (vs : List V) (Q : VK) (E : XK), Room k (A.deeper (envOfC qual scope s.heap.objs.size f cdv)) → sp vs H Q E →
      ∃ t, PSs (cxOf CX P w K mg base N qual scope f cdv A outer s H E) body t ∧ t { nx := fun _ H' => Q .non H', rt := Q } (start N vs) H) :
    FnOk P w K mg base CX (k + 1) f (PySem.W.fnOf name qual params body scope dV kV doc pm an cdv ct) ps sp := by
  refine ⟨len, fun A outer s H args us vs Q E hr e0 hb r hsp => ?_⟩
  have hl := len _ _ _ _ hsp
  have KX : K.In s.heap := e0.mod.kin.keeps fun b o e => (e0.bs b o e).1
  have lim : s.heap.NoLimit := e0.mod.nolimit.keeps fun b o e => (e0.bs b o e).1
  have hkind : ∀ y ∈ ps.zip us, scope.names.lookup y.1 = some .local ∨ (scope.names.lookup y.1 = some .cell ∧ ((cellsFrom (s.heap.objs.size + 1) scope.names []).lookup y.1).isSome = true) := fun ⟨n, v⟩ hy => by
    rcases S.par n (List.of_mem_zip hy).1 with q | q
    · exact .inl q
    · exact .inr ⟨q, PySem.W.cellsFrom_some _ _ _ (.inl q)⟩
  refine codeAny_call_function hr.depth (KX _ _ lk) rfl S.co S.gen rfl (PySem.W.codeRec_of KX hcd) (hb _ _ _ _ ?_)
  refine wpAny_newFunctionEnv_cells S.kind hkind fun env he s1 x => ?_
  subst he
  refine ⟨lim.keeps x.toInCall.keep, codeAny_func ?_⟩
  obtain ⟨t, ht, hq⟩ := hbody A outer s H vs Q E (hr.deeper _) hsp
  have I : Inv (cxOf CX P w K mg base N qual scope f cdv A outer s H E) [] (start N vs) H s1 := inv_start S hr.hd e0 hl r x
  refine wpAny_mono (ht [] s1 (start N vs) H _ I hq) (fun fl s' hs => ?_) fun e s' hs => hs
  have fin : ∀ {σ' : St} {H' : Hp} {v : V} {u : Value}, Inv (cxOf CX P w K mg base N qual scope f cdv A outer s H E) [] σ' H' s' → RelV v u → Q v H' → CE outer P w H s Q u s' :=
    fun {σ' H' v u} J rv q => ⟨v, H', J.os, J.bare, J.base, J.hok, rv, q⟩
  cases fl with
  | ret u =>
    obtain ⟨v, σ', H', J, rv, q⟩ := hs
    exact fin J rv q
  | next =>
    obtain ⟨σ', H', J, q⟩ := hs
    exact fin (v := V.non) (u := Value.none) J rfl q
  | brk =>
    obtain ⟨_, _, _, q⟩ := hs
    exact False.elim q
  | cont =>
    obtain ⟨_, _, _, q⟩ := hs
    exact False.elim q
end L2

namespace L2
open PySem PySem.Spec PyProof.Rows
section
variable {X : Cx} {x : Str} {p pos : Pos} {e : Expr} {es : List Expr} {t : TA} {id T : String} {r : List V → Hp → VK → Prop}

def tCB (r : List V → Hp → VK → Prop) (t : TA) : TE := fun σ H Q => t σ H fun vs H1 => r vs H1 Q
/-- f(e, ..), f a built-in function -/
theorem pe_callB (hc : CallR X (.builtin id) r) (hg : Gl X x) (hm : X.mg x = none) (hv : bootBuiltins x = some (.builtin id)) (ha : PA X (e :: es) t) (hn : x ≠ "__name__" := by decide) (hdb : (x == ("__debug__" : Str)) = false := by decide)
    (he : starEach (e :: es) X.env = (false, eval e X.env) :: starEach es X.env := by rfl) (hpl : (backTo pos (starEach es X.env)).any (·.1) = false := by rfl) : PE X (.Call (.Name x p) (e :: es) [] pos) (tCB r t) := by
  intro pins s σ H Q I h
  refine wpAny_Call_Name_kw (ld_blt I hg hm hv ?_ hn hdb)
  exact PyProof.Rows.callWith_builtin1 (thn (ha pos pins s σ H _ I h) fun us s1 ⟨vs, H1, I1, r1, q1⟩ => hc pins s1 σ H1 vs us Q I1 r1 q1) he hpl
/-- T(e, ..), T a built-in type -/
theorem pe_callTy (hc : CallR X (.type T) r) (hg : Gl X x) (hm : X.mg x = none) (hv : bootBuiltins x = some (.type T)) (ha : PA X (e :: es) t) (hn : x ≠ "__name__" := by decide) (hdb : (x == ("__debug__" : Str)) = false := by decide)
    (he : starEach (e :: es) X.env = (false, eval e X.env) :: starEach es X.env := by rfl) (hpl : (backTo pos (starEach es X.env)).any (·.1) = false := by rfl) : PE X (.Call (.Name x p) (e :: es) [] pos) (tCB r t) := by
  intro pins s σ H Q I h
  refine wpAny_Call_Name_kw (ld_blt I hg hm hv ?_ hn hdb)
  exact PyProof.Rows.callWith_type1 (thn (ha pos pins s σ H _ I h) fun us s1 ⟨vs, H1, I1, r1, q1⟩ => hc pins s1 σ H1 vs us Q I1 r1 q1) he hpl
/-- T() -/
theorem pe_callTy0 (hc : CallR X (.type T) r) (hg : Gl X x) (hm : X.mg x = none) (hv : bootBuiltins x = some (.type T)) (hn : x ≠ "__name__" := by decide) (hdb : (x == ("__debug__" : Str)) = false := by decide) :
    PE X (.Call (.Name x p) [] [] pos) (tCB r tNil) := by
  intro pins s σ H Q I h
  refine wpAny_Call_Name_kw (ld_blt I hg hm hv ?_ hn hdb)
  exact PyProof.Rows.callWith_type0 (hc pins s σ H [] [] Q I .nil h)
end
end L2

namespace HT
open PySem PyProof.Rows

/-- t < u of tuples of ints -/
def lexLt : List Int → List Int → Bool
  | [], [] => false
  | [], _ :: _ => true
  | _ :: _, [] => false
  | x :: xs, y :: ys => if x = y then lexLt xs ys else decide (x < y)
theorem lexLt_cons (x y : Int) (xs ys : List Int) : lexLt (x :: xs) (y :: ys) = if x = y then lexLt xs ys else decide (x < y) := rfl
theorem lexLt_nil_nil : lexLt [] [] = false := rfl
theorem lexLt_nil_cons (y : Int) (ys : List Int) : lexLt [] (y :: ys) = true := rfl
theorem lexLt_cons_nil (x : Int) (xs : List Int) : lexLt (x :: xs) [] = false := rfl

theorem eqAt_int (A : Around) (s : Shared) (a : Int) (t : Tok) (c : Int) (u : Tok) : ∃ e, SeqAt.EqAt A s (.int a t) (.int c u) e ∧ (e = true ↔ a = c) :=
  ⟨(a == c), SeqAt.EqAt.int_int a t c u, by simp⟩
theorem rcLt_int (A : Around) (s : Shared) (a : Int) (t : Tok) (c : Int) (u : Tok) (prog : Program) (w : World) (E : Value → Shared → Prop) (Q : Value → Shared → Prop) (h : Q (.bool (decide (a < c))) s) :
    wpAny (model prog w) A (richCompare .Lt (.int a t) (.int c u)) Q E s :=
  (PyProof.Rows.lt_int h : wpAny (model prog w) A (compareOp .Lt (.int a t) (.int c u)) Q E s)

section
open PySem.SeqAt
open PySem.AutoSeq1 (wpAny_loadPart')
open PySem.MeetsSeq PySem.MeetsSeq2 PySem.MeetsSeq3

theorem tuple_lt_ints (l b : Addr) (items items2 : Array Value) (n n2 : Nat) (dd dd2 : Option Addr) (sl sl2 : Array (Option Value)) (ns ms : List Int) (hi : IntsAre items.toList ns) (hj : IntsAre items2.toList ms) :
    Meets (Builtin.«tuple.__lt__» ⟨[.ref l, .ref b], []⟩)
      (fun _ R s => s.heap.get? l = some { cls := .type "tuple", dict := dd, data := .seq items n, slots := sl } ∧ s.heap.get? b = some { cls := .type "tuple", dict := dd2, data := .seq items2 n2, slots := sl2 } ∧
        R (.ok (.ret (.bool (lexLt ns ms)))) s) :=
  .of_wp fun prog w A R s h => by
    obtain ⟨hp, g, d, tk, os⟩ := s; obtain ⟨hl, hb, h⟩ := h
    have f2 := AutoSeq1.sub_tuple_tuple
    have z1 : items.size = ns.length := by rw [← hi.length]; simp
    have z2 : items2.size = ms.length := by rw [← hj.length]; simp
    wp_walk using wpAny_loadPart' hl, wpAny_loadPart' hb, wpAny_forIn_list _ (fun rest b s' => b.1 = none ∧ s' = ⟨hp, g, d, tk, os⟩ ∧ ∃ (vs ws : List Value) (ns' ms' : List Int), rest = vs.zip ws ∧
      IntsAre vs ns' ∧ IntsAre ws ms' ∧ ns'.length + items2.size = ms'.length + items.size ∧ R (.ok (.ret (.bool (lexLt ns' ms')))) ⟨hp, g, d, tk, os⟩) _
    case turn =>
      rintro ⟨y, x⟩ rest b s' ⟨hb', rfl, vs, ws, ns', ms', hz, hvi, hwi, hlen, hR⟩
      cases hvi with
      | nil => rw [List.zip_nil_left] at hz; cases hz
      | cons a t hvi' =>
        cases hwi with
        | nil => rw [List.zip_nil_right] at hz; cases hz
        | cons c u hwi' =>
          rw [List.zip_cons_cons] at hz
          injection hz with hyx hrest
          injection hyx with hy hx
          subst hy hx
          rw [lexLt_cons] at hR
          simp only [List.length_cons] at hlen
          obtain ⟨e, he, hiff⟩ := eqAt_int A.in1 ⟨hp, g, d, tk, os⟩ a t c u
          refine wpAny_bind (he prog w _ _ ?_)
          cases e with
          | true =>
            rw [if_pos (hiff.mp rfl)] at hR
            wp_walk
            exact ⟨rfl, rfl, _, _, _, _, hrest, hvi', hwi', by omega, hR⟩
          | false =>
            rw [if_neg (fun q => absurd (hiff.mpr q) Bool.false_ne_true)] at hR
            have hri := rcLt_int A.in1 ⟨hp, g, d, tk, os⟩ a t c u prog w
            wp_walk using hri
            exact ⟨_, rfl, by simpa using hR⟩
    case fin =>
      rintro ⟨b1, b2⟩ s' ⟨hb', rfl, vs, ws, ns', ms', hz, hvi, hwi, hlen, hR⟩
      simp only at hb'
      subst hb'
      have hv : lexLt ns' ms' = decide (items.size < items2.size) := by
        cases hvi with
        | nil =>
          cases hwi with
          | nil =>
            simp only [List.length_nil] at hlen
            rw [lexLt_nil_nil]
            exact (decide_eq_false (by omega)).symm
          | cons c u hw =>
            simp only [List.length_nil, List.length_cons] at hlen
            rw [lexLt_nil_cons]
            exact (decide_eq_true (by omega)).symm
        | cons a t hv =>
          cases hwi with
          | nil =>
            simp only [List.length_nil, List.length_cons] at hlen
            rw [lexLt_cons_nil]
            exact (decide_eq_false (by omega)).symm
          | cons c u hw =>
            rw [List.zip_cons_cons] at hz
            cases hz
      rw [hv] at hR
      wp_walk
      exact ⟨_, rfl, by simpa [Builtin.Tuple.tupleCompareSizes] using hR⟩
    case h =>
      exact ⟨rfl, rfl, items.toList, items2.toList, ns, ms, rfl, hi, hj, by omega, h⟩
end

section
variable {prog : Program} {w : World} {A : Around} {E : Value → Shared → Prop} {s : Shared}

theorem lt_tupInts {l b : Addr} {items items2 : Array Value} {ns ms : List Int} {Q : Value → Shared → Prop} (hl : IsTup s.heap l items) (hb : IsTup s.heap b items2) (hi : IntsAre items.toList ns) (hj : IntsAre items2.toList ms)
    (hu : A.units < cLine) (h : Q (.bool (lexLt ns ms)) s) : wpAny (model prog w) A (compareOp .Lt (.ref l) (.ref b)) Q E s := by
  obtain ⟨⟨cls, dd, data, sl⟩, ho, hc, n, hd⟩ := id hl
  obtain ⟨⟨cls2, dd2, data2, sl2⟩, ho2, hc2, n2, hd2⟩ := id hb
  simp only at hc hd hc2 hd2
  subst hc hd hc2 hd2
  exact richCompare_meets_room (op := .Lt) ⟨_, ho, rfl⟩ ⟨_, ho2, rfl⟩ PySem.F.slot_tuple_lt PySem.F.entry_tuple_lt (PySem.F.args_tuple_lt_2 _ _) (tuple_lt_ints l b items items2 n n2 dd dd2 sl sl2 ns ms hi hj)
    ⟨ho, ho2, show Value.bool (lexLt ns ms) ≠ Value.notImplemented ∧ Q (.bool (lexLt ns ms)) s from ⟨(fun x => nomatch x), h⟩⟩ hu

/-- t + u, t not empty -/
theorem cat_tup {t b : Addr} {vs ws : List Value} {Q : Value → Shared → Prop} (ht : IsTup s.heap t vs.toArray) (hb : IsTup s.heap b ws.toArray) (hv : vs ≠ [])
    (h1 : ws = [] → Q (.ref t) s) (h2 : ws ≠ [] → Q (.ref s.heap.objs.size) { s with heap := s.heap.push { cls := .type "tuple", data := .seq (vs ++ ws).toArray } })
    (hsz : vs.length + ws.length ≤ sizeLine) : wpAny (model prog w) A (binaryOp .Add (.ref t) (.ref b)) Q E s := by
  obtain ⟨⟨cls, dd, data, sl⟩, ho, hc, n, hd⟩ := id ht
  obtain ⟨⟨cls2, dd2, data2, sl2⟩, ho2, hc2, n2, hd2⟩ := id hb
  simp only at hc hd hc2 hd2
  subst hc hd hc2 hd2
  have e : vs.toArray ++ ws.toArray = (vs ++ ws).toArray := by simp
  by_cases hw : ws = []
  · exact concat_meets ⟨_, ho, rfl⟩ ⟨_, ho2, rfl⟩ noFill_tuple_add seq_tuple_add PySem.F.slot_tuple_add PySem.F.entry_tuple_add (PySem.F.args_tuple_add_2 _ _)
      (tuple_addW1 t b vs.toArray ws.toArray n n2 dd dd2 sl sl2 (by simpa using hv) (by simp [hw])) ⟨ho, ho2, h1 hw⟩
  · refine concat_meets ⟨_, ho, rfl⟩ ⟨_, ho2, rfl⟩ noFill_tuple_add seq_tuple_add PySem.F.slot_tuple_add PySem.F.entry_tuple_add (PySem.F.args_tuple_add_2 _ _)
      (tuple_addW2 t b vs.toArray ws.toArray n n2 dd dd2 sl sl2 (by simpa using hv) (by simpa using hw) (by rw [List.size_toArray, List.size_toArray]; exact hsz)) ⟨ho, ho2, ?_⟩
    rw [e]
    exact h2 hw

/-! ### t[a:b], not the whole -/
/-- a slice's bound as a place among n (d where it is left out) -/
def sIx (n d : Nat) : Option Int → Nat
  | none => d
  | some v => if v < 0 then (v + (n : Int)).toNat else min v.toNat n
theorem sIx_none (n d : Nat) : sIx n d none = d := rfl
theorem sIx_nat (n d k : Nat) : sIx n d (some (k : Int)) = min k n := by
  show (if (k : Int) < 0 then ((k : Int) + (n : Int)).toNat else min (k : Int).toNat n) = min k n
  rw [if_neg (by omega), Int.toNat_natCast]
theorem sIx_le (n d : Nat) (hd : d ≤ n) (o : Option Int) : sIx n d o ≤ n := by
  cases o with
  | none => exact hd
  | some v =>
    show (if v < 0 then (v + (n : Int)).toNat else min v.toNat n) ≤ n
    by_cases hv : v < 0
    · rw [if_pos hv]; omega
    · rw [if_neg hv]; exact Nat.min_le_right _ _
theorem clip_eq (v : Int) (n d : Nat) : (if v < 0 then max (v + (n : Int)) 0 else min v (n : Int)) = ((sIx n d (some v) : Nat) : Int) := by
  show (if v < 0 then max (v + (n : Int)) 0 else min v (n : Int)) = (((if v < 0 then (v + (n : Int)).toNat else min v.toNat n) : Nat) : Int)
  by_cases hv : v < 0
  · simp only [if_pos hv]; omega
  · simp only [if_neg hv]; omega
theorem adjust_gen (lo hi : Option Int) (n : Nat) : Builtin.Slice.sliceAdjust lo hi 1 (n : Int) = (((sIx n 0 lo : Nat) : Int), ((sIx n n hi : Nat) : Int)) := by
  have h1 : ¬ ((1 : Int) < 0) := by omega
  unfold Builtin.Slice.sliceAdjust
  simp only [h1, if_false]
  refine Prod.ext ?_ ?_
  · cases lo with
    | none => rfl
    | some v => exact clip_eq v n 0
  · cases hi with
    | none => rfl
    | some v => exact clip_eq v n n
theorem places_gen (i j : Nat) : Builtin.Slice.slicePlaces (i : Int) (j : Int) 1 = j - i := by
  unfold Builtin.Slice.slicePlaces
  have h1 : (1 : Int) > 0 := by omega
  simp only [h1, if_true, Int.ediv_one]
  split <;> omega
theorem slicePart_ {v : Value} {o : Option Int} {Q : Option Int → Shared → Prop} (p : IsPart v o) (h : Q o s) : wpAny (model prog w) A (Builtin.Slice.slicePartIndex v) Q E s := by
  cases p with
  | none => exact slicePart_none h
  | int i t => exact slicePart_int h
theorem sliceApplied_gen {sl : Addr} {vl vu : Value} {lo hi : Option Int} {n : Nat} {Q : Int × Int × Nat → Shared → Prop} (hs : s.heap.IsSliceOf sl vl vu .none) (pl : IsPart vl lo) (pu : IsPart vu hi)
    (h : Q (((sIx n 0 lo : Nat) : Int), 1, sIx n n hi - sIx n 0 lo) s) : wpAny (model prog w) A (Builtin.Slice.sliceApplied (.ref sl) (pure (n : Int))) Q E s := by
  obtain ⟨os, hos, hcs, hds⟩ := id hs
  unfold Builtin.Slice.sliceApplied Builtin.Slice.sliceFields
  refine wpAny_bind (wpAny_bind (wpAny_field hos hds (x := vl) rfl (wpAny_bind (wpAny_field hos hds (x := vu) rfl (wpAny_bind (wpAny_field hos hds (x := .none) rfl (wpAny_pure ?_)))))))
  refine wpAny_bind (slicePart_none ?_)
  show wpAny _ _ (if ((1 : Int) == 0) = true then _ else _) _ _ s
  rw [if_neg (by decide)]
  refine wpAny_bind (slicePart_ pl (wpAny_bind (slicePart_ pu (wpAny_bind (wpAny_pure ?_)))))
  show wpAny _ _ (match Builtin.Slice.sliceAdjust lo hi 1 (n : Int) with | (lo, hi) => pure (lo, (1 : Int), Builtin.Slice.slicePlaces lo hi 1)) _ _ s
  rw [adjust_gen lo hi n]
  show wpAny _ _ (pure (((sIx n 0 lo : Nat) : Int), (1 : Int), Builtin.Slice.slicePlaces ((sIx n 0 lo : Nat) : Int) ((sIx n n hi : Nat) : Int) 1)) _ _ s
  rw [places_gen]
  exact wpAny_pure h
theorem pick_gen (xs : Array Value) (i k : Nat) : ((List.range k).filterMap fun (m : Nat) => xs[((i : Int) + (m : Int) * 1).toNat]?).toArray = ((xs.toList.drop i).take k).toArray := by
  have e : (fun (m : Nat) => xs[((i : Int) + (m : Int) * 1).toNat]?) = fun m => xs[i + m]? := by
    funext m
    have : ((i : Int) + (m : Int) * 1).toNat = i + m := by omega
    rw [this]
  rw [e]
  have := pick_run xs i k
  rw [List.filterMap_map] at this
  have e2 : ((fun x => xs[x]?) ∘ fun x => i + x) = fun m => xs[i + m]? := rfl
  rw [e2] at this
  rw [this]

theorem getItem_tuple_cut {t sl : Addr} {items : Array Value} {vl vu : Value} {lo hi : Option Int} {Q : Value → Shared → Prop} (ht : IsTup s.heap t items) (hs : s.heap.IsSliceOf sl vl vu .none) (pl : IsPart vl lo) (pu : IsPart vu hi)
    (hw : ¬ (sIx items.size 0 lo = 0 ∧ sIx items.size items.size hi = items.size))
    (h : Q (.ref s.heap.objs.size) { s with heap := s.heap.push { cls := .type "tuple", data := .seq ((items.toList.drop (sIx items.size 0 lo)).take (sIx items.size items.size hi - sIx items.size 0 lo)).toArray } })
    (hsz : items.size ≤ sizeLine) : wpAny (model prog w) A (getItem (.ref t) (.ref sl)) Q E s := by
  have htake : sizeOk (.seq ((items.toList.drop (sIx items.size 0 lo)).take (sIx items.size items.size hi - sIx items.size 0 lo)).toArray) := by
    show ((items.toList.drop (sIx items.size 0 lo)).take (sIx items.size items.size hi - sIx items.size 0 lo)).toArray.size ≤ sizeLine
    rw [List.size_toArray, List.length_take, List.length_drop, Array.length_toList]
    omega
  have hj : sIx items.size items.size hi ≤ items.size := sIx_le _ _ (Nat.le_refl _) hi
  obtain ⟨os, hos, hcs, hds⟩ := id hs
  have hTs : s.TypeIs (.ref sl) "slice" := ⟨os, hos, hcs⟩
  unfold getItem
  try with_reducible refine wpAny_holding ?_
  first | refine wpAny_bind (wpAny_pure ?_) | skip
  refine wpAny_bind (wpAny_sequenceKey ht.typeIs (by decide) ?_)
  refine wpAny_bind (wpAny_callSpecial?_slot (name := Str.ofString "__getitem__") ht.typeIs PyProof.Rows.slot_tuple_getitem
    (wpAny_call_entry PyProof.Rows.slot_tuple_getitem ht.typeIs entry_tuple_getitem ?_ (args_tuple_getitem _ _)))
  show wpAny _ _ (Builtin.Tuple.tupleItemsOf (.ref t) >>= _) _ _ s
  refine wpAny_bind (tupleItemsOf_ ht ?_)
  refine wpAny_bind (wpAny_typeOf hTs ?_)
  rw [if_pos (by decide)]
  refine wpAny_bind (sliceApplied_gen hs pl pu ?_)
  have hno : ¬ ((((sIx items.size 0 lo : Nat) : Int) == 0 && (1 : Int) == 1 && (sIx items.size items.size hi - sIx items.size 0 lo) == items.size) = true) := by
    intro q
    rw [Bool.and_eq_true, Bool.and_eq_true] at q
    have q1 : ((sIx items.size 0 lo : Nat) : Int) = 0 := eq_of_beq q.1.1
    have q2 : sIx items.size items.size hi - sIx items.size 0 lo = items.size := eq_of_beq q.2
    exact hw ⟨by omega, by omega⟩
  show wpAny _ _ (if (((sIx items.size 0 lo : Nat) : Int) == 0 && (1 : Int) == 1 && (sIx items.size items.size hi - sIx items.size 0 lo) == items.size) = true then _ else _) _ _ s
  rw [if_neg hno, pick_gen]
  first
    | exact wpAny_bind (m := Builtin.Tuple.tupleExact _) (wpAny_newObj_type (wpAny_pure ⟨_, rfl, wpAny_pure h⟩) htake)
    | exact wpAny_bind (m := Builtin.Tuple.tupleExact _) (wpAny_newObj_type (wpAny_bind (wpAny_pure (wpAny_pure ⟨_, rfl, wpAny_pure h⟩))) htake)
    | exact wpAny_bind (wpAny_bind (m := Builtin.Tuple.tupleExact _) (wpAny_newObj_type (wpAny_pure (wpAny_pure ⟨_, rfl, wpAny_pure h⟩)) htake))
    | exact wpAny_bind (wpAny_bind (m := Builtin.Tuple.tupleExact _) (wpAny_newObj_type (wpAny_pure ⟨_, rfl, wpAny_pure h⟩) htake))
end
end HT

namespace L2
open PySem PySem.Spec PyProof.Rows

/-! ### the parts of a slice -/
abbrev TO := St → Hp → (Option Int → Hp → Prop) → Prop
/-- a slice's part (left out, or an int) -/
def PO (X : Cx) (e : Option Expr) (t : TO) : Prop :=
  ∀ (pins : List (Addr × Obj)) (s : Shared) (σ : St) (H : Hp) (Q : Option Int → Hp → Prop), Inv X pins σ H s → t σ H Q →
    wpAny (model X.prog X.w) X.A (evalPart e X.env) (fun u s' => ∃ o H', Inv X pins σ H' s' ∧ IsPart u o ∧ Q o H') X.xe s
def tNoPart : TO := fun _ H Q => Q none H
def tPart (t : TE) : TO := fun σ H Q => t σ H fun x H1 => ∃ i, x = .int i ∧ Q (some i) H1

theorem intsAre_of {ns : List Int} : ∀ {us : List Value}, Vals (ns.map V.int) us → IntsAre us ns := by
  induction ns with
  | nil => intro us r; rw [List.map_nil] at r; cases r; exact .nil
  | cons n ns ih =>
    intro us r
    rw [List.map_cons] at r
    cases r with
    | cons r1 r2 =>
      obtain ⟨t, e⟩ := r1
      subst e
      exact .cons n t (ih r2)

section
variable {X : Cx} {e : Expr} {te : TE} {lo hi : Option Expr} {tl th : TO} {pos p2 : Pos}

theorem po_none : PO X none tNoPart := by
  intro pins s σ H Q I h
  rw [evalPart_none]
  exact wpAny_pure ⟨none, H, I, .none, h⟩
theorem po_some (h : PE X e te) : PO X (some e) (tPart te) := by
  intro pins s σ H Q I hw
  rw [evalPart_some]
  refine thn (h pins s σ H _ I hw) fun u s1 ⟨x, H1, I1, r1, q1⟩ => ?_
  obtain ⟨i, rfl, q⟩ := q1
  obtain ⟨t, rfl⟩ := r1
  exact ⟨some i, H1, I1, .int i t, q⟩

/-- what a slice of a value is, by values: the slice object stands at sl -/
def SlR (X : Cx) (r : V → Option Int → Option Int → Hp → VK → Prop) : Prop :=
  ∀ (pins : List (Addr × Obj)) (s : Shared) (σ : St) (H : Hp) (x : V) (v vl vu : Value) (lo hi : Option Int) (sl : Addr) (Q : VK), Inv X pins σ H s → RelV x v → s.heap.IsSliceOf sl vl vu .none → IsPart vl lo → IsPart vu hi → r x lo hi H Q →
    ∃ T id, typeLookup (.type T) "__getitem__" = pure (some (.builtin id)) ∧ s.TypeIs v T ∧ wpAny (model X.prog X.w) X.A (getItem v (.ref sl)) (EP X pins σ Q) X.xe s
theorem SlR.or {r r' : V → Option Int → Option Int → Hp → VK → Prop} (h : SlR X r) (h' : SlR X r') : SlR X (fun x lo hi H Q => r x lo hi H Q ∨ r' x lo hi H Q) := by
  intro pins s σ H x v vl vu lo hi sl Q I rx hs pl pu q
  rcases q with q | q
  · exact h pins s σ H x v vl vu lo hi sl Q I rx hs pl pu q
  · exact h' pins s σ H x v vl vu lo hi sl Q I rx hs pl pu q
def tSl (r : V → Option Int → Option Int → Hp → VK → Prop) (te : TE) (tl th : TO) : TE := fun σ H Q => te σ H fun x H1 => tl σ H1 fun l H2 => th σ H2 fun u H3 => r x l u H3 Q
/-- a[lo:hi], any a -/
theorem pe_slice {r : V → Option Int → Option Int → Hp → VK → Prop} (hr : SlR X r) (he : PE X e te) (hl : PO X lo tl) (hu : PO X hi th) : PE X (.Subscript e (.Slice lo hi none p2) pos) (tSl r te tl th) := by
  intro pins s σ H Q I h
  refine Subscript_ (thn (he pins s σ H _ I h) fun v s1 ⟨x, H1, I1, r1, q1⟩ => ?_)
  refine wpAny_Slice (thn (hl pins s1 σ H1 _ I1 q1) fun vl s2 ⟨l, H2, I2, pl, q2⟩ => thn (hu pins s2 σ H2 _ I2 q2) fun vu s3 ⟨u, H3, I3, pu, q3⟩ => ?_)
  rw [evalPart_none]
  refine wpAny_pure ?_
  have I4 : Inv X pins σ H3 { s3 with heap := s3.heap.push { cls := .type "slice", data := .fields #[vl, vu, .none] } } := I3.kept (t' := s3.toks) fun b ob q => Heap.get?_push_of_some _ q
  obtain ⟨T, id, hT, ht, hg⟩ := hr pins { s3 with heap := s3.heap.push { cls := .type "slice", data := .fields #[vl, vu, .none] } } σ H3 x v vl vu l u s3.heap.objs.size Q I4 r1 (Heap.IsSliceOf.new ..) pl pu q3
  show wpAny (model X.prog X.w) X.A (subscriptTail e (.Slice lo hi none p2) v (.ref s3.heap.objs.size)) (EP X pins σ Q) X.xe { s3 with heap := s3.heap.push { cls := .type "slice", data := .fields #[vl, vu, .none] } }
  exact tail_any (ops := [.ref s3.heap.objs.size, v]) ht hT hg (by with_unfolding_all rfl)

/-- the items of xs[lo:hi] -/
def cutV (xs : List V) (lo hi : Option Int) : List V := (xs.drop (HT.sIx xs.length 0 lo)).take (HT.sIx xs.length xs.length hi - HT.sIx xs.length 0 lo)
theorem cutV_length (xs : List V) (lo hi : Option Int) : (cutV xs lo hi).length ≤ xs.length := by
  unfold cutV
  rw [List.length_take, List.length_drop]
  omega
/-- t[lo:hi], not the whole of it (the whole would be t itself) -/
def rSlT (K : PySem.W.Frag) : V → Option Int → Option Int → Hp → VK → Prop := fun x lo hi H Q => ∃ a xs, x = .ref a ∧ SqT K H a xs ∧
  ¬ (HT.sIx xs.length 0 lo = 0 ∧ HT.sIx xs.length xs.length hi = xs.length) ∧ ∀ p, H p = none → Q (.ref p) (upd H p (.tup (cutV xs lo hi)))
theorem sl_tup : SlR X (rSlT X.K) := by
  intro pins s σ H x v vl vu lo hi sl Q I rx hs pl pu h
  obtain ⟨a, xs, rfl, hx, hw, q⟩ := h
  cases rx
  obtain ⟨its, r, ht, hz⟩ := I.tuple hx
  have hlen : its.toArray.size = xs.length := by rw [List.size_toArray]; exact r.length.symm
  refine ⟨"tuple", _, PyProof.Rows.slot_tuple_getitem.lookup, ht.typeIs, ?_⟩
  refine HT.getItem_tuple_cut ht hs pl pu (by rw [hlen]; exact hw) ?_ (by rw [hlen]; exact hz)
  rw [hlen]
  refine ⟨.ref s.heap.objs.size, _, I.laid (t' := s.toks) (o := .tup (cutV xs lo hi)) (fun b ob q => Heap.get?_push_of_some _ q) (Nat.le_refl _) ?_, rfl, q _ (I.hok.fresh (Nat.le_refl _))⟩
  exact ⟨Nat.le_trans (cutV_length xs lo hi) hz, _, (r.drop (HT.sIx xs.length 0 lo)).take (HT.sIx xs.length xs.length hi - HT.sIx xs.length 0 lo), IsTup.new _ _⟩

/-! ### t < u, t + u -/
def rLtT (K : PySem.W.Frag) : R2 := fun x y H Q => ∃ a b ns ms, x = .ref a ∧ y = .ref b ∧ SqT K H a (ns.map V.int) ∧ SqT K H b (ms.map V.int) ∧ Q (.bl (HT.lexLt ns ms)) H
theorem op_ltT (hu : X.A.units < cLine) : OpR X (compareOp .Lt) (rLtT X.K) := by
  intro pins s σ H x y v u Q I rx ry h
  obtain ⟨a, b, ns, ms, rfl, rfl, ha, hb, q⟩ := h
  cases rx
  cases ry
  obtain ⟨its, r1, p1, _⟩ := I.tuple ha
  obtain ⟨its2, r2, p2, _⟩ := I.tuple hb
  have i1 : IntsAre its.toArray.toList ns := intsAre_of r1
  have i2 : IntsAre its2.toArray.toList ms := intsAre_of r2
  exact HT.lt_tupInts p1 p2 i1 i2 hu ⟨.bl (HT.lexLt ns ms), H, I, rfl, q⟩
/-- t + u, t not empty: u empty gives t itself -/
def rCatT (K : PySem.W.Frag) : R2 := fun x y H Q => ∃ a b xs ys, x = .ref a ∧ y = .ref b ∧ SqT K H a xs ∧ SqT K H b ys ∧ xs ≠ [] ∧ xs.length + ys.length ≤ sizeLine ∧
  (ys = [] → Q (.ref a) H) ∧ (ys ≠ [] → ∀ p, H p = none → Q (.ref p) (upd H p (.tup (xs ++ ys))))
theorem Vals.nil_iff {xs : List V} {us : List Value} (r : Vals xs us) : us = [] ↔ xs = [] := by
  cases r with
  | nil => simp
  | cons _ _ => simp
theorem op_catT : OpR X (binaryOp .Add) (rCatT X.K) := by
  intro pins s σ H x y v u Q I rx ry h
  obtain ⟨a, b, xs, ys, rfl, rfl, ha, hb, hx, hz, q1, q2⟩ := h
  cases rx
  cases ry
  obtain ⟨its, r1, p1, _⟩ := I.tuple ha
  obtain ⟨its2, r2, p2, _⟩ := I.tuple hb
  refine HT.cat_tup p1 p2 (fun z => hx (r1.nil_iff.mp z)) (fun z => ⟨.ref a, H, I, rfl, q1 (r2.nil_iff.mp z)⟩) (fun z => ?_) (by rw [← r1.length, ← r2.length]; exact hz)
  refine ⟨.ref s.heap.objs.size, _, I.laid (t' := s.toks) (o := .tup (xs ++ ys)) (fun b ob q => Heap.get?_push_of_some _ q) (Nat.le_refl _) ?_, rfl, q2 (fun w => z (r2.nil_iff.mpr w)) _ (I.hok.fresh (Nat.le_refl _))⟩
  exact ⟨by rw [List.length_append]; exact hz, _, r1.append r2, IsTup.new _ _⟩
/-- tuple(t) -/
theorem call_tupleT : CallR X (.type "tuple") (fun xs H Q => ∃ a ys, xs = [.ref a] ∧ SqT X.K H a ys ∧ Q (.ref a) H) := by
  intro pins s σ H xs us Q I r h
  obtain ⟨a, ys, rfl, ha, q⟩ := h
  obtain ⟨u, rfl, ru⟩ := vals1 r
  cases ru
  obtain ⟨its, _, p1, _⟩ := I.tuple ha
  exact call_tuple_same (items := its.toArray) p1 ⟨.ref a, H, I, rfl, q⟩
end
end L2

namespace L2
open PySem PySem.Spec PyProof.Rows

/-! ### places -/
/-- the place that an index of any sign means -/
def ixN (n : Nat) (i : Int) : Option Nat := if 0 ≤ i then (if i < n then some i.toNat else none) else if -(n : Int) ≤ i then some (i + n).toNat else none
def atI {α : Type} (xs : List α) (i : Int) : Option α := (ixN xs.length i).bind fun j => xs[j]?
theorem ixN_seq {n : Nat} {i : Int} {j : Nat} (h : ixN n i = some j) : seqIndex? i n = some j ∧ j < n ∧ -(n : Int) ≤ i ∧ i < n := by
  unfold ixN at h
  by_cases h0 : 0 ≤ i
  · rw [if_pos h0] at h
    by_cases h1 : i < n
    · rw [if_pos h1] at h
      have e : i.toNat = j := Option.some.inj h
      exact ⟨by rw [seqIndex_of h0 h1, e], by omega, by omega, h1⟩
    · rw [if_neg h1] at h; cases h
  · rw [if_neg h0] at h
    by_cases h1 : -(n : Int) ≤ i
    · rw [if_pos h1] at h
      have e : (i + n).toNat = j := Option.some.inj h
      exact ⟨by rw [seqIndex_neg (by omega) h1, e], by omega, h1, by omega⟩
    · rw [if_neg h1] at h; cases h
theorem atI_get {α : Type} {xs : List α} {i : Int} {v : α} (h : atI xs i = some v) : ∃ j, seqIndex? i xs.length = some j ∧ xs[j]? = some v ∧ j < xs.length ∧ -(xs.length : Int) ≤ i ∧ i < xs.length := by
  unfold atI at h
  cases e : ixN xs.length i with
  | none => rw [e] at h; cases h
  | some j =>
    rw [e] at h
    obtain ⟨h1, h2, h3, h4⟩ := ixN_seq e
    exact ⟨j, h1, h, h2, h3, h4⟩
theorem atI_nat {α : Type} {xs : List α} {j : Nat} {v : α} (h : xs[j]? = some v) : atI xs (j : Int) = some v := by
  have hj : j < xs.length := (List.getElem?_eq_some_iff.mp h).1
  have e : ixN xs.length (j : Int) = some j := by
    unfold ixN
    rw [if_pos (by omega), if_pos (by omega)]; simp
  unfold atI; rw [e]; exact h
theorem atI_last {α : Type} (xs : List α) (v : α) : atI (xs ++ [v]) (-1) = some v := by
  have hl : (xs ++ [v]).length = xs.length + 1 := by simp
  have e : ixN (xs ++ [v]).length (-1) = some xs.length := by
    unfold ixN
    rw [hl, if_neg (by decide), if_pos (by omega)]
    congr 1
    omega
  unfold atI
  rw [e]
  show (xs ++ [v])[xs.length]? = some v
  simp

/-! ### what may be subscripted -/
/-- what stands as an index of a plain subscript -/
def PlainIx (b : Expr) : Prop := ∀ o i, subscripted b false o i = operate [o, i] (getItem o i)
/-- a subscript by values -/
def IxR (X : Cx) (r : R2) : Prop :=
  ∀ (value slice : Expr) (pins : List (Addr × Obj)) (s : Shared) (σ : St) (H : Hp) (x y : V) (v u : Value) (Q : VK), Inv X pins σ H s → RelV x v → RelV y u → r x y H Q →
    subscripted slice false v u = operate [v, u] (getItem v u) → wpAny (model X.prog X.w) X.A (subscriptTail value slice v u) (EP X pins σ Q) X.xe s
/-- a call of a builtin's method by values: the receiver, the arguments -/
def MtR (X : Cx) (id : String) (r : V → List V → Hp → VK → Prop) : Prop :=
  ∀ (pins : List (Addr × Obj)) (s : Shared) (σ : St) (H : Hp) (x : V) (xs : List V) (v : Value) (us : List Value) (Q : VK), Inv X pins σ H s → RelV x v → Vals xs us → r x xs H Q →
    wpAny (model X.prog X.w) X.A (call (.builtin id) (v :: us)) (EP X pins σ Q) X.xe s
section
variable {X : Cx} {a b : Expr} {ta tb : TE} {pos : Pos}
theorem IxR.or {r r' : R2} (h : IxR X r) (h' : IxR X r') : IxR X (fun x y H Q => r x y H Q ∨ r' x y H Q) := by
  intro value slice pins s σ H x y v u Q I rx ry q hs
  rcases q with q | q
  · exact h value slice pins s σ H x y v u Q I rx ry q hs
  · exact h' value slice pins s σ H x y v u Q I rx ry q hs
theorem MtR.or {id : String} {r r' : V → List V → Hp → VK → Prop} (h : MtR X id r) (h' : MtR X id r') : MtR X id (fun x xs H Q => r x xs H Q ∨ r' x xs H Q) := by
  intro pins s σ H x xs v us Q I rx rs q
  rcases q with q | q
  · exact h pins s σ H x xs v us Q I rx rs q
  · exact h' pins s σ H x xs v us Q I rx rs q
/-- a[b] -/
theorem pe_ix {r : R2} (hr : IxR X r) (ha : PE X a ta) (hb : PE X b tb) (hs : PlainIx b) : PE X (.Subscript a b pos) (tOp r ta tb) := by
  intro pins s σ H Q I h
  exact Subscript_ (binT ha hb I h fun v u s2 x y H2 I2 rx ry q => hr a b pins s2 σ H2 x y v u Q I2 rx ry q (hs _ _))

def rIxL (K : PySem.W.Frag) : R2 := fun x y H Q => ∃ p xs i v, x = .ref p ∧ y = .int i ∧ SqL K H p xs ∧ atI xs i = some v ∧ Q v H
def rIxT (K : PySem.W.Frag) : R2 := fun x y H Q => ∃ p xs i v, x = .ref p ∧ y = .int i ∧ SqT K H p xs ∧ atI xs i = some v ∧ Q v H
def rIxS : R2 := fun x y H Q => ∃ z i c, x = .str z ∧ y = .int i ∧ z.length ≤ sizeLine ∧ atI z.cps.toList i = some c ∧ Q (.str ⟨#[c]⟩) H
theorem ix_list : IxR X (rIxL X.K) := by
  intro value slice pins s σ H x y v u Q I rx ry h hs
  obtain ⟨p, xs, i, z, rfl, rfl, hq, he, q⟩ := h
  cases rx
  obtain ⟨t, rfl⟩ := ry
  obtain ⟨its, r, pl, hz⟩ := I.list hq
  obtain ⟨j, h1, h2, h3, h4, h5⟩ := atI_get he
  obtain ⟨w, ew, rw'⟩ := r.get h2
  have hl := r.length
  have hn := line63
  have fin : EP X pins σ Q w s := ⟨z, H, I, rw', q⟩
  by_cases h0 : 0 ≤ i
  · have hj : i.toNat = j := by
      rw [seqIndex_of h0 h5] at h1
      exact Option.some.inj h1
    exact item_listR pl.isList h0 (by omega) (by rw [hj]; simpa using ew) fin hs
  · have hj : (i + (its.toArray.size : Int)).toNat = j := by
      rw [seqIndex_neg (by omega) h4] at h1
      rw [List.size_toArray, ← hl]
      exact Option.some.inj h1
    exact subscriptTail_builtinR (x := w) pl.isList.typeIs slot_list_getitem.lookup
      (wpAny_getItem_list_neg (Q := fun r s' => r = w ∧ EP X pins σ Q r s') pl.isList (by omega) (by rw [List.size_toArray] <;> omega) (by omega) (by rw [hj]; simpa using ew) ⟨rfl, fin⟩) hs
theorem ix_tup : IxR X (rIxT X.K) := by
  intro value slice pins s σ H x y v u Q I rx ry h hs
  obtain ⟨p, xs, i, z, rfl, rfl, hq, he, q⟩ := h
  cases rx
  obtain ⟨t, rfl⟩ := ry
  obtain ⟨its, r, pl, hz⟩ := I.tuple hq
  obtain ⟨j, h1, h2, h3, h4, h5⟩ := atI_get he
  obtain ⟨w, ew, rw'⟩ := r.get h2
  have hl := r.length
  have hn := line63
  have fin : EP X pins σ Q w s := ⟨z, H, I, rw', q⟩
  exact subscriptTail_builtinR (x := w) pl.typeIs slot_tuple_getitem.lookup
    (getItem_tuple (j := j) (Q := fun r s' => r = w ∧ EP X pins σ Q r s') pl (by omega) (by omega) (by rw [List.size_toArray, ← hl]; exact h1) (by simpa using ew) ⟨rfl, fin⟩) hs
theorem ix_str : IxR X rIxS := by
  intro value slice pins s σ H x y v u Q I rx ry h hs
  obtain ⟨z, i, c, rfl, rfl, hz, he, q⟩ := h
  obtain ⟨t, rfl⟩ := rx
  obtain ⟨t', rfl⟩ := ry
  obtain ⟨j, h1, h2, h3, h4, h5⟩ := atI_get he
  have hl : z.cps.toList.length = z.length := by simp [Str.length]
  rw [hl] at h1 h4 h5
  have hn := line63
  exact tail_any (typeIs_str s z t) slot_str_getitem.lookup (getItem_str (c := c) (by
    have e1 : decide (i < -(2 ^ 63 : Int)) = false := decide_eq_false (by omega)
    have e2 : decide (i ≥ 2 ^ 63) = false := decide_eq_false (by omega)
    rw [e1, e2, Bool.or_false]) (by rw [h1]; simpa using h2) ⟨.str ⟨#[c]⟩, H, I.tok _, ⟨_, rfl⟩, q⟩) hs
/-- list, tuple or str -/
def rIx (K : PySem.W.Frag) : R2 := fun x y H Q => rIxL K x y H Q ∨ rIxT K x y H Q ∨ rIxS x y H Q
theorem ix_seq : IxR X (rIx X.K) := ix_list.or (ix_tup.or ix_str)

/-! ### xs[i] = v, any sign -/
/-- the list's object behind a store -/
theorem mapSeq_set (its : List Value) (n j : Nat) (u : Value) : Obj.mapSeq (·.setIfInBounds j u) { cls := .type "list", data := .seq its.toArray n } = { cls := .type "list", data := .seq (its.set j u).toArray n } := by
  simp [Obj.mapSeq]
theorem Inv.lst {pins : List (Addr × Obj)} {σ : St} {H : Hp} {s : Shared} {p : Addr} {xs : List V} (I : Inv X pins σ H s) (h : H p = some (.lst xs)) :
    ∃ (its : List Value) (n : Nat), Vals xs its ∧ s.heap.get? p = some { cls := .type "list", data := .seq its.toArray n } ∧ xs.length ≤ sizeLine := by
  obtain ⟨z, its, n, r, e⟩ := I.hok p _ h
  exact ⟨its, n, r, e, z⟩
/-- the list at p is written by an update of its object -/
theorem Inv.lstUpd {pins : List (Addr × Obj)} {σ : St} {H : Hp} {s : Shared} {p : Addr} {xs ys : List V} {its its' : List Value} {n n' : Nat} {f : Obj → Obj} (I : Inv X pins σ H s) (h : H p = some (.lst xs))
    (ho : s.heap.get? p = some { cls := .type "list", data := .seq its.toArray n }) (hf : f { cls := .type "list", data := .seq its.toArray n } = { cls := .type "list", data := .seq its'.toArray n' }) (r : Vals ys its') (hz : ys.length ≤ sizeLine) (t : Nat) :
    Inv X pins σ (upd H p (.lst ys)) { s with heap := s.heap.update p f, toks := t } := by
  have e : (s.heap.update p f).get? p = some { cls := .type "list", data := .seq its'.toArray n' } := by
    rw [Heap.get?_update_self f ho (by rw [hf] <;> rfl), hf]
  refine I.write (x := p) (e := p) (by rw [h]; trivial) (.inl rfl) (fun b u hb q => (Heap.get?_update_other _ _ (Ne.symm hb)).trans q) ⟨_, e⟩ ?_
  exact ⟨hz, its', n', r, e⟩
def rSetL : V → V → V → Hp → (Hp → Prop) → Prop := fun o i v H Q => ∃ p xs k j, o = .ref p ∧ i = .int k ∧ H p = some (.lst xs) ∧ ixN xs.length k = some j ∧ Q (upd H p (.lst (xs.set j v)))
theorem set_list : PSet X rSetL := by
  intro pins s σ H o i v ov iv u Q I ro ri rv h
  obtain ⟨p, xs, k, j, rfl, rfl, hp, hj, q⟩ := h
  cases ro
  obtain ⟨t, rfl⟩ := ri
  obtain ⟨its, n, r, ho, hz⟩ := I.lst hp
  obtain ⟨h1, h2, h3, h4⟩ := ixN_seq hj
  have hl := r.length
  have hn := line63
  have I' : Inv X pins σ (upd H p (.lst (xs.set j v))) { s with heap := s.heap.update p (Obj.mapSeq (·.setIfInBounds j u)) } :=
    I.lstUpd hp ho (mapSeq_set its n j u) (r.set rv j) (by rw [List.length_set]; exact hz) s.toks
  by_cases h0 : 0 ≤ k
  · have hk : k.toNat = j := by
      rw [seqIndex_of h0 h4] at h1
      exact Option.some.inj h1
    exact PySem.W.ki_setAt ho h0 (by omega) (by rw [List.size_toArray, ← hl]; exact h4) (by rw [hk]; exact ⟨_, I', q⟩)
  · have hk : (k + (its.toArray.size : Int)).toNat = j := by
      rw [seqIndex_neg (by omega) h3] at h1
      rw [List.size_toArray, ← hl]
      exact Option.some.inj h1
    exact PySem.W.ki_setBack ho (by omega) (by rw [List.size_toArray, ← hl]; exact h3) (by omega) (by rw [hk]; exact ⟨_, I', q⟩)

/-! ### slices -/
theorem slice_bounds (lo hi : Option Int) (n : Nat) : (sliceBounds lo hi none n).1 = ((HT.sIx n 0 lo : Nat) : Int) ∧ (sliceBounds lo hi none n).2.1 = ((HT.sIx n n hi : Nat) : Int) ∧ (sliceBounds lo hi none n).2.2 = 1 := by
  refine ⟨?_, ?_, rfl⟩
  · cases lo with
    | none => simp [sliceBounds, HT.sIx]
    | some i =>
      simp only [sliceBounds, HT.sIx, Option.getD_none, show (1 : Int) > 0 by decide, if_true]
      by_cases h : i < 0
      · simp only [h, if_true] <;> omega
      · simp only [h, if_false] <;> omega
  · cases hi with
    | none => simp [sliceBounds, HT.sIx]
    | some i =>
      simp only [sliceBounds, HT.sIx, Option.getD_none, show (1 : Int) > 0 by decide, if_true]
      by_cases h : i < 0
      · simp only [h, if_true] <;> omega
      · simp only [h, if_false] <;> omega
theorem slicePick_cut (its : List Value) (lo hi : Option Int) : slicePick its.toArray lo hi none = ((its.drop (HT.sIx its.length 0 lo)).take (HT.sIx its.length its.length hi - HT.sIx its.length 0 lo)).toArray := by
  obtain ⟨h1, h2, h3⟩ := slice_bounds lo hi its.toArray.size
  unfold slicePick
  rw [h1, h2, h3]
  simp only [sliceRange_one, pick_run, List.size_toArray] <;> rfl
/-- xs[lo:hi] of a list: a new list -/
def rSlL (K : PySem.W.Frag) : V → Option Int → Option Int → Hp → VK → Prop := fun x lo hi H Q => ∃ a xs, x = .ref a ∧ SqL K H a xs ∧ ∀ p, H p = none → Q (.ref p) (upd H p (.lst (cutV xs lo hi)))
theorem sl_list : SlR X (rSlL X.K) := by
  intro pins s σ H x v vl vu lo hi sl Q I rx hs pl pu h
  obtain ⟨a, xs, rfl, hx, q⟩ := h
  cases rx
  obtain ⟨its, r, ht, hz⟩ := I.list hx
  have hlen := r.length
  refine ⟨"list", _, slot_list_getitem.lookup, ht.isList.typeIs, ?_⟩
  refine wpAny_getItem_list_slice ht.isList hs pl pu .none (by simp) ?_ (by rw [List.size_toArray] <;> omega)
  rw [slicePick_cut, ← hlen]
  refine ⟨.ref s.heap.objs.size, _, I.laid (t' := s.toks) (o := .lst (cutV xs lo hi)) (fun b ob q => Heap.get?_push_of_some _ q) (Nat.le_refl _) ?_, rfl, q _ (I.hok.fresh (Nat.le_refl _))⟩
  exact ⟨Nat.le_trans (cutV_length xs lo hi) hz, _, 0, (r.drop (HT.sIx xs.length 0 lo)).take (HT.sIx xs.length xs.length hi - HT.sIx xs.length 0 lo), Heap.get?_push_size _ rfl⟩

/-! ### in, not in: flat items -/
def flatV : V → Bool
  | .non => true
  | .bl _ => true
  | .int _ => true
  | .str _ => true
  | _ => false
/-- == of flat values -/
def eqV : V → V → Bool
  | .non, .non => true
  | .bl a, .bl b => a == b
  | .bl a, .int b => (if a then 1 else 0) == b
  | .int a, .bl b => a == (if b then 1 else 0)
  | .int a, .int b => a == b
  | .str a, .str b => a == b
  | _, _ => false
theorem eqAt_V {A : Around} {s : Shared} {y x : V} {u v : Value} (ry : RelV y u) (rx : RelV x v) (fy : flatV y = true) (fx : flatV x = true) : SeqAt.EqAt A s u v (eqV y x) := by
  cases y with
  | non =>
    cases ry
    cases x with
    | non => cases rx; exact SeqAt.EqAt.same _
    | bl b => cases rx; exact SeqAt.EqAt.none_bool b
    | int b => obtain ⟨t, rfl⟩ := rx; exact SeqAt.EqAt.none_int b t
    | str b => obtain ⟨t, rfl⟩ := rx; exact SeqAt.EqAt.none_str b t
    | _ => exact absurd (show false = true from fx) Bool.false_ne_true
  | bl a =>
    cases ry
    cases x with
    | non => cases rx; exact SeqAt.EqAt.bool_none a
    | bl b => cases rx; exact SeqAt.EqAt.bool_bool a b
    | int b => obtain ⟨t, rfl⟩ := rx; exact SeqAt.EqAt.bool_int a b t
    | str b => obtain ⟨t, rfl⟩ := rx; exact SeqAt.EqAt.bool_str a b t
    | _ => exact absurd (show false = true from fx) Bool.false_ne_true
  | int a =>
    obtain ⟨t', rfl⟩ := ry
    cases x with
    | non => cases rx; exact SeqAt.EqAt.int_none a t'
    | bl b => cases rx; exact SeqAt.EqAt.int_bool a t' b
    | int b => obtain ⟨t, rfl⟩ := rx; exact SeqAt.EqAt.int_int a t' b t
    | str b => obtain ⟨t, rfl⟩ := rx; exact SeqAt.EqAt.int_str a t' b t
    | _ => exact absurd (show false = true from fx) Bool.false_ne_true
  | str a =>
    obtain ⟨t', rfl⟩ := ry
    cases x with
    | non => cases rx; exact SeqAt.EqAt.str_none a t'
    | bl b => cases rx; exact SeqAt.EqAt.str_bool a t' b
    | int b => obtain ⟨t, rfl⟩ := rx; exact SeqAt.EqAt.str_int a t' b t
    | str b => obtain ⟨t, rfl⟩ := rx; exact SeqAt.EqAt.str_str a t' b t
    | _ => exact absurd (show false = true from fx) Bool.false_ne_true
  | _ => exact absurd (show false = true from fy) Bool.false_ne_true
/-- the items' answers, read off the values (a value's own answer does not lean on its token) -/
def eqU (x : V) (u : Value) : Bool := match u with
  | .none => eqV .non x
  | .bool b => eqV (.bl b) x
  | .int i _ => eqV (.int i) x
  | .str z _ => eqV (.str z) x
  | _ => false
theorem eqU_of {x y : V} {u : Value} (r : RelV y u) (f : flatV y = true) : eqU x u = eqV y x := by
  cases y with
  | non => cases r; rfl
  | bl b => cases r; rfl
  | int i => obtain ⟨t, rfl⟩ := r; rfl
  | str z => obtain ⟨t, rfl⟩ := r; rfl
  | _ => exact absurd (show false = true from f) Bool.false_ne_true
theorem any_eqU {x : V} : ∀ {xs : List V} {us : List Value}, Vals xs us → xs.all flatV = true → us.any (eqU x) = xs.any fun y => eqV y x
  | _, _, .nil, _ => rfl
  | y :: xs, u :: us, .cons r t, f => by
    rw [List.all_cons, Bool.and_eq_true] at f
    rw [List.any_cons, List.any_cons, eqU_of r f.1, any_eqU t f.2]
theorem mem_eqAt {A : Around} {s : Shared} {x : V} {v : Value} (rx : RelV x v) (fx : flatV x = true) : ∀ {xs : List V} {us : List Value}, Vals xs us → xs.all flatV = true → ∀ u ∈ us, SeqAt.EqAt A s u v (eqU x u)
  | _, _, .nil, _ => fun u hu => by cases hu
  | y :: xs, u :: us, .cons r t, f => fun u' hu => by
    rw [List.all_cons, Bool.and_eq_true] at f
    rcases List.mem_cons.mp hu with rfl | hu
    · rw [eqU_of r f.1]; exact eqAt_V r rx f.1 fx
    · exact mem_eqAt rx fx t f.2 u' hu
def inV (x : V) (xs : List V) : Bool := xs.any fun y => eqV y x
/-- x in a list or tuple of flat items -/
def rIn (K : PySem.W.Frag) (neg : Bool) : R2 := fun x y H Q => ∃ p xs, y = .ref p ∧ (SqL K H p xs ∨ SqT K H p xs) ∧ flatV x = true ∧ xs.all flatV = true ∧ Q (.bl (if neg then !inV x xs else inV x xs)) H
theorem op_in_seq : OpR X (compareOp .In) (rIn X.K false) := by
  intro pins s σ H x y v u Q I rx ry h
  obtain ⟨p, xs, rfl, hq, fx, fs, q⟩ := h
  cases ry
  rcases hq with hq | hq
  · obtain ⟨its, r, pl, hz⟩ := I.list hq
    refine SeqAt.in_listAt (eqU x) pl.isList (fun w hw => mem_eqAt rx fx r fs w (by simpa using hw)) ⟨.bl _, H, I, rfl, ?_⟩
    rw [show its.toArray.any (eqU x) = its.any (eqU x) by simp, any_eqU r fs]
    exact q
  · obtain ⟨its, r, pl, hz⟩ := I.tuple hq
    refine SeqAt.in_tupleAt (eqU x) pl (fun w hw => mem_eqAt rx fx r fs w (by simpa using hw)) ⟨.bl _, H, I, rfl, ?_⟩
    rw [show its.toArray.any (eqU x) = its.any (eqU x) by simp, any_eqU r fs]
    exact q
theorem op_notIn_seq : OpR X (compareOp .NotIn) (rIn X.K true) := by
  intro pins s σ H x y v u Q I rx ry h
  obtain ⟨p, xs, rfl, hq, fx, fs, q⟩ := h
  cases ry
  rcases hq with hq | hq
  · obtain ⟨its, r, pl, hz⟩ := I.list hq
    refine SeqAt.notIn_listAt (eqU x) pl.isList (fun w hw => mem_eqAt rx fx r fs w (by simpa using hw)) ⟨.bl _, H, I, rfl, ?_⟩
    rw [show its.toArray.any (eqU x) = its.any (eqU x) by simp, any_eqU r fs]
    exact q
  · obtain ⟨its, r, pl, hz⟩ := I.tuple hq
    refine SeqAt.notIn_tupleAt (eqU x) pl (fun w hw => mem_eqAt rx fx r fs w (by simpa using hw)) ⟨.bl _, H, I, rfl, ?_⟩
    rw [show its.toArray.any (eqU x) = its.any (eqU x) by simp, any_eqU r fs]
    exact q
theorem op_notIn_str : OpR X (compareOp .NotIn) (fun x y H Q => ∃ i j, x = .str i ∧ y = .str j ∧ Q (.bl (!(!(Builtin.Str.occurrences j i 0 j.length 1).isEmpty))) H) := by
  intro pins s σ H x y v u Q I rx ry h
  obtain ⟨i, j, rfl, rfl, q⟩ := h
  obtain ⟨t, rfl⟩ := rx
  obtain ⟨t', rfl⟩ := ry
  exact notIn_str ⟨.bl _, H, I, rfl, q⟩

/-! ### len, list(x), tuple(x) of any list or tuple that is read -/
theorem call_len_seq : CallR X (.builtin "len") (fun xs H Q => ∃ p ys, xs = [.ref p] ∧ (SqL X.K H p ys ∨ SqT X.K H p ys) ∧ Q (.int ys.length) H) := by
  intro pins s σ H xs us Q I r h
  obtain ⟨p, ys, rfl, hq, q⟩ := h
  obtain ⟨u, rfl, rx⟩ := vals1 r
  cases rx
  have hn := line63
  rcases hq with hq | hq
  · obtain ⟨its, r', pl, hz⟩ := I.list hq
    have hlen := r'.length
    exact Calls.call_len_list pl.isList (by simp only [List.size_toArray] <;> omega) ⟨.int ys.length, H, I.tok _, ⟨s.toks + 1, by rw [List.size_toArray, hlen]⟩, q⟩
  · obtain ⟨its, r', pl, hz⟩ := I.tuple hq
    have hlen := r'.length
    exact len_tuple pl (by simp only [List.size_toArray] <;> omega) ⟨.int ys.length, H, I.tok _, ⟨s.toks + 1, by rw [List.size_toArray, hlen]⟩, q⟩
theorem call_len_str : CallR X (.builtin "len") (fun xs H Q => ∃ z, xs = [.str z] ∧ z.length ≤ sizeLine ∧ Q (.int z.length) H) := by
  intro pins s σ H xs us Q I r h
  obtain ⟨z, rfl, hz, q⟩ := h
  obtain ⟨u, rfl, t, rfl⟩ := vals1 r
  have hn := line63
  exact len_str (by omega) ⟨.int z.length, H, I.tok _, ⟨_, rfl⟩, q⟩
theorem CallR.or {f : Value} {r r' : List V → Hp → VK → Prop} (h : CallR X f r) (h' : CallR X f r') : CallR X f (fun xs H Q => r xs H Q ∨ r' xs H Q) := by
  intro pins s σ H xs us Q I rs q
  rcases q with q | q
  · exact h pins s σ H xs us Q I rs q
  · exact h' pins s σ H xs us Q I rs q
theorem call_list_of : CallR X (.type "list") (fun xs H Q => ∃ p ys, xs = [.ref p] ∧ (SqL X.K H p ys ∨ SqT X.K H p ys) ∧ ∀ l, H l = none → Q (.ref l) (upd H l (.lst ys))) := by
  intro pins s σ H xs us Q I r h
  obtain ⟨p, ys, rfl, hq, q⟩ := h
  obtain ⟨u, rfl, rx⟩ := vals1 r
  cases rx
  have fin : ∀ (its : List Value), Vals ys its → ys.length ≤ sizeLine → ∀ (h' : Heap) (c' : Nat), (∀ b o', s.heap.get? b = some o' → h'.get? b = some o') →
      h'.get? s.heap.objs.size = some { cls := .type "list", dict := none, data := .seq its.toArray c', slots := #[] } → EP X pins σ Q (.ref s.heap.objs.size) { s with heap := h' } := fun its r' hz h' c' kp e =>
    ⟨.ref s.heap.objs.size, _, I.laid (t' := s.toks) kp (Nat.le_refl _) (show ObjOk X.prog X.w _ h' _ (.lst ys) from ⟨hz, its, c', r', e⟩), rfl, q _ (I.hok.fresh (Nat.le_refl _))⟩
  rcases hq with hq | hq
  · obtain ⟨its, r', pl, hz⟩ := I.list hq
    have hlen := r'.length
    obtain ⟨o, ho, hc, n, hd⟩ := pl.isList
    exact call_list_seq p (.inl rfl) ho hc hd (fun h' c' kp e => fin its r' hz h' c' kp e) (by simp only [List.size_toArray] <;> omega)
  · obtain ⟨its, r', pl, hz⟩ := I.tuple hq
    have hlen := r'.length
    obtain ⟨o, ho, hc, n, hd⟩ := pl
    exact call_list_seq p (.inr rfl) ho hc hd (fun h' c' kp e => fin its r' hz h' c' kp e) (by simp only [List.size_toArray] <;> omega)
theorem call_tuple_of : CallR X (.type "tuple") (fun xs H Q => ∃ p ys, xs = [.ref p] ∧ ((SqL X.K H p ys ∧ ∀ l, H l = none → Q (.ref l) (upd H l (.tup ys))) ∨ (SqT X.K H p ys ∧ Q (.ref p) H))) := by
  intro pins s σ H xs us Q I r h
  obtain ⟨p, ys, rfl, h⟩ := h
  obtain ⟨u, rfl, rx⟩ := vals1 r
  cases rx
  rcases h with ⟨hq, q⟩ | ⟨hq, q⟩
  · obtain ⟨its, r', pl, hz⟩ := I.list hq
    have hlen := r'.length
    refine call_tuple_list pl.isList (fun h' kp => ?_) (by simp only [List.size_toArray] <;> omega)
    have I1 : Inv X pins σ H { s with heap := h' } := I.kept (t' := s.toks) kp
    have I2 : Inv X pins σ (upd H h'.objs.size (.tup ys)) { s with heap := h'.push { cls := .type "tuple", data := .seq its.toArray } } :=
      I1.laid (t' := s.toks) (fun b o e => Heap.get?_push_of_some _ e) (Nat.le_refl _) (show ObjOk X.prog X.w _ _ _ (.tup ys) from ⟨hz, its, r', IsTup.new _ _⟩)
    exact ⟨.ref h'.objs.size, _, I2, rfl, q _ (I1.hok.fresh (Nat.le_refl _))⟩
  · obtain ⟨its, r', pl, hz⟩ := I.tuple hq
    exact call_tuple_same pl ⟨.ref p, H, I, rfl, q⟩

/-! ### the call of a builtin's method: o.m(..) -/
/-- the value is of that builtin type -/
def tyV (K : PySem.W.Frag) (T : String) (x : V) (H : Hp) : Prop := match x with
  | .str _ => T = "str"
  | .int _ => T = "int"
  | .ref p => (T = "list" ∧ ∃ xs, SqL K H p xs) ∨ (T = "tuple" ∧ ∃ o, K.lookup p = some o ∧ o.cls = .type "tuple" ∧ o.dict = none) ∨
      (T = "dict" ∧ ((∃ kvs, H p = some (.dK kvs)) ∨ ∃ kvs, H p = some (.dT kvs))) ∨ (T = "set" ∧ ∃ S n, H p = some (.set S n))
  | _ => False
theorem tyV_is {pins : List (Addr × Obj)} {σ : St} {H : Hp} {s : Shared} {T : String} {x : V} {v : Value} (I : Inv X pins σ H s) (r : RelV x v) (ty : tyV X.K T x H) :
    s.TypeIs v T ∧ ∀ a, v = .ref a → ∃ ob, s.heap.get? a = some ob ∧ ob.dict = none := by
  cases x with
  | str z =>
    obtain ⟨t, rfl⟩ := r
    cases (show T = "str" from ty)
    exact ⟨typeIs_str s z t, fun _ e => nomatch e⟩
  | int i =>
    obtain ⟨t, rfl⟩ := r
    cases (show T = "int" from ty)
    exact ⟨typeIs_int s i t, fun _ e => nomatch e⟩
  | ref p =>
    cases r
    rcases ty with ⟨rfl, xs, hq⟩ | ⟨rfl, o, hk, hc, hd⟩ | ⟨rfl, hk⟩ | ⟨rfl, S, n, hk⟩
    · obtain ⟨its, _, pl, _⟩ := I.list hq
      refine ⟨pl.isList.typeIs, fun a e => ?_⟩
      cases e
      obtain ⟨o, n, e, c, hd, _⟩ := pl
      exact ⟨o, e, hd⟩
    · refine ⟨⟨o, I.kIn p o hk, hc⟩, fun a e => ?_⟩
      cases e
      exact ⟨o, I.kIn _ o hk, hd⟩
    · have z : ∃ o, s.heap.get? p = some o ∧ o.ExactDict := by
        rcases hk with ⟨kvs, hk⟩ | ⟨kvs, hk⟩
        · obtain ⟨_, _, _, _, o, _, _, e, ex, _⟩ := I.hok p _ hk
          exact ⟨o, e, ex⟩
        · obtain ⟨_, _, _, _, o, _, _, e, ex, _⟩ := I.hok p _ hk
          exact ⟨o, e, ex⟩
      obtain ⟨o, e, ex⟩ := z
      refine ⟨⟨o, e, ex.1⟩, fun a e2 => ?_⟩
      cases e2
      exact ⟨o, e, ex.2.1⟩
    · obtain ⟨o, _, _, _, e, ex, _⟩ := I.hok p _ hk
      refine ⟨⟨o, e, ex.1⟩, fun a e2 => ?_⟩
      cases e2
      exact ⟨o, e, ex.2.1⟩
  | _ => exact False.elim ty
def tBM0 (K : PySem.W.Frag) (T : String) (r : V → List V → Hp → VK → Prop) (to : TE) : TE := fun σ H Q => to σ H fun x H1 => tyV K T x H1 ∧ r x [] H1 Q
def tBM (K : PySem.W.Frag) (T : String) (r : V → List V → Hp → VK → Prop) (to : TE) (t : TA) : TE := fun σ H Q => to σ H fun x H1 => tyV K T x H1 ∧ t σ H1 fun xs H2 => r x xs H2 Q
variable {o e : Expr} {es : List Expr} {to : TE} {t : TA} {name : Str} {apos cpos : Pos} {T id : String} {r : V → List V → Hp → VK → Prop}
theorem pe_bm0 (pa : PlainAttrs T) (slot : Slot T name id) (hty : typeOf (.builtin id) = pure (.type "method_descriptor")) (hm : MtR X id r) (ho : PE X o to)
    (hbase : attributeBase o name X.env (eval o X.env) = eval o X.env := by rfl) (hline : (apos.endLine == cpos.line) = true := by rfl) : PE X (.Call (.Attribute o name apos) [] [] cpos) (tBM0 X.K T r to) := by
  intro pins s σ H Q I h
  refine wpAny_Call_method0_late hbase hline (thn (ho pins s σ H _ I h) fun v s1 ⟨x, H1, I1, r1, ty, q1⟩ => ?_)
  obtain ⟨h1, h2⟩ := tyV_is I1 r1 ty
  exact ⟨T, id, pa, slot, hty, h1, h2, Calls.callWith_builtin rfl (PySem.evalArgs_none (hm pins s1 σ H1 x [] v [] Q I1 r1 .nil q1))⟩
theorem pe_bm (pa : PlainAttrs T) (slot : Slot T name id) (hty : typeOf (.builtin id) = pure (.type "method_descriptor")) (hm : MtR X id r) (ho : PE X o to) (ha : PA X (e :: es) t)
    (hbase : attributeBase o name X.env (eval o X.env) = eval o X.env := by rfl)
    (hfew : ((backTo cpos (starEach (e :: es) X.env)).all (fun x => !x.1) && (backToKw cpos (keywordEach [] X.env)).all (fun x => x.1.isSome)
      && decide ((e :: es).length + ([] : List Keyword).length + (if ([] : List Keyword).isEmpty then 0 else 1) < 30)) = true := by rfl)
    (hline : (apos.endLine == cpos.line) = true := by rfl) (hs : starEach (e :: es) X.env = (false, eval e X.env) :: starEach es X.env := by rfl) (hplain : (backTo cpos (starEach es X.env)).any (·.1) = false := by rfl) :
    PE X (.Call (.Attribute o name apos) (e :: es) [] cpos) (tBM X.K T r to t) := by
  intro pins s σ H Q I h
  refine wpAny_Call_method_late hbase hfew hline rfl (thn (ho pins s σ H _ I h) fun v s1 ⟨x, H1, I1, r1, ty, q1⟩ => ?_)
  obtain ⟨h1, h2⟩ := tyV_is I1 r1 ty
  refine ⟨T, id, pa, slot, hty, h1, h2, ?_⟩
  have hA := ha cpos pins s1 σ H1 _ I1 q1
  rw [hs] at hA ⊢
  refine Calls.callWith_builtin (by show (false || (backTo cpos (starEach es X.env)).any (·.1)) = false; rw [hplain] <;> rfl) (Calls.evalArgs_plain ?_)
  exact thn hA fun us s2 ⟨vs, H2, I2, r2, q2⟩ => hm pins s2 σ H2 x vs v us Q I2 r1 r2 q2
/- xs.append(e), list.index on a module's tuple .. are MtR facts of 06m -/
end
end L2

namespace L2
open PySem PySem.Spec PyProof.Rows

def MtM (X : Cx) (id : String) (r : V → List V → Hp → VK → Prop) : Prop :=
  ∀ (pins : List (Addr × Obj)) (s : Shared) (σ : St) (H : Hp) (x : V) (xs : List V) (v : Value) (us : List Value) (Q : VK), Inv X pins σ H s → RelV x v → Vals xs us → r x xs H Q →
    wpAny (model X.prog X.w) X.A (call (.builtin id) (v :: us)) (EP X pins σ Q) X.xe s

/-! ### lists of values -/
theorem Vals.one : ∀ {x : V} {us : List Value}, Vals [x] us → ∃ u, us = [u] ∧ RelV x u
  | _, _, .cons r .nil => ⟨_, rfl, r⟩
theorem Vals.two : ∀ {x y : V} {us : List Value}, Vals [x, y] us → ∃ u v, us = [u, v] ∧ RelV x u ∧ RelV y v
  | _, _, _, .cons r (.cons q .nil) => ⟨_, _, rfl, r, q⟩
theorem Vals.zero : ∀ {us : List Value}, Vals [] us → us = []
  | _, .nil => rfl
theorem Vals.dropLast {xs : List V} {us : List Value} (h : Vals xs us) : Vals xs.dropLast us.dropLast := by
  induction h with
  | nil => exact .nil
  | cons r t ih =>
    cases t with
    | nil => exact .nil
    | cons q t' => exact .cons r ih
theorem Vals.eraseIdx : ∀ {xs : List V} {us : List Value} (i : Nat), Vals xs us → Vals (xs.eraseIdx i) (us.eraseIdx i)
  | _, _, _, .nil => .nil
  | _, _, 0, .cons _ t => t
  | _, _, i + 1, .cons r t => .cons r (Vals.eraseIdx i t)
theorem Vals.reverse {xs : List V} {us : List Value} (h : Vals xs us) : Vals xs.reverse us.reverse := by
  induction h with
  | nil => exact .nil
  | cons r t ih => rw [List.reverse_cons, List.reverse_cons]; exact Vals.append ih (.cons r .nil)
theorem Vals.rep {xs : List V} {us : List Value} (h : Vals xs us) : ∀ k : Nat, Vals (List.replicate k xs).flatten (List.replicate k us).flatten
  | 0 => .nil
  | k + 1 => by
    rw [List.replicate_succ, List.replicate_succ, List.flatten_cons, List.flatten_cons]
    exact Vals.append h (Vals.rep h k)
theorem erase_last {α : Type} (l : List α) : l.eraseIdx (l.length - 1) = l.dropLast := by
  induction l with
  | nil => rfl
  | cons a r ih =>
    cases r with
    | nil => rfl
    | cons b r =>
      have e : (a :: b :: r).length - 1 = ((b :: r).length - 1) + 1 := by
        have h1 : (a :: b :: r).length = r.length + 2 := rfl
        have h2 : (b :: r).length = r.length + 1 := rfl
        omega
      rw [e, List.eraseIdx_cons_succ, ih]
      all_goals rfl
theorem len_erase {α : Type} : ∀ (l : List α) (i : Nat), (l.eraseIdx i).length ≤ l.length
  | [], _ => Nat.le_refl _
  | _ :: _, 0 => Nat.le_succ _
  | _ :: r, i + 1 => Nat.succ_le_succ (len_erase r i)
theorem foldl_rep (its : List Value) : ∀ (k : Nat) (acc : List Value),
    List.foldl (fun x1 x2 => x1 ++ x2) acc.toArray (List.replicate k its.toArray) = (acc ++ (List.replicate k its).flatten).toArray
  | 0, acc => by simp
  | k + 1, acc => by
    have e : acc.toArray ++ its.toArray = (acc ++ its).toArray := by simp
    have e2 : (acc ++ its) ++ (List.replicate k its).flatten = acc ++ (List.replicate (k + 1) its).flatten := by
      rw [List.replicate_succ, List.flatten_cons, List.append_assoc]
    rw [← e2, ← foldl_rep its k (acc ++ its), ← e, List.replicate_succ, List.foldl_cons]

section
variable {X : Cx} {pins : List (Addr × Obj)} {σ : St} {H : Hp} {s : Shared} {l b : Addr} {xs ys zs : List V}

/-! ### the two steps: a tracked list is rewritten, a new list is laid -/
theorem Inv.lset {its its' : List Value} {n : Nat} {f : Array Value → Array Value} {t' : Nat} (I : Inv X pins σ H s) (hH : H l = some (.lst xs))
    (e : s.heap.get? l = some { cls := .type "list", data := .seq its.toArray n }) (hf : f its.toArray = its'.toArray) (hv : Vals ys its') (hz : ys.length ≤ sizeLine) :
    Inv X pins σ (upd H l (.lst ys)) { s with heap := s.heap.update l (Obj.mapSeq f), toks := t' } := by
  have q := PySem.IsL.update e f
  rw [hf] at q
  refine I.write (x := l) (e := l) (by rw [hH]; exact trivial) (.inl rfl) (fun b' u hb hu => (Heap.get?_update_other s.heap (Obj.mapSeq f) (Ne.symm hb)).trans hu) ⟨_, q⟩ ?_
  exact ⟨hz, its', _, hv, q⟩
theorem Inv.lnew {its : List Value} {t' : Nat} (I : Inv X pins σ H s) (hv : Vals ys its) (hz : ys.length ≤ sizeLine) :
    Inv X pins σ (upd H s.heap.objs.size (.lst ys)) { s with heap := s.heap.push { cls := .type "list", data := .seq its.toArray }, toks := t' } :=
  I.laid (fun _ _ q => Heap.get?_push_of_some _ q) (Nat.le_refl _) ⟨hz, its, 0, hv, Heap.get?_push_size _ rfl⟩
theorem Inv.fresh (I : Inv X pins σ H s) : H s.heap.objs.size = none := I.hok.fresh (Nat.le_refl _)
theorem Inv.lstM (I : Inv X pins σ H s) (hH : H l = some (.lst xs)) : xs.length ≤ sizeLine ∧ ∃ (its : List Value) (n : Nat), Vals xs its ∧ xs.length = its.length ∧ s.heap.get? l = some { cls := .type "list", data := .seq its.toArray n } := by
  obtain ⟨z, its, n, r, e⟩ := I.hok l _ hH
  exact ⟨z, its, n, r, r.length, e⟩

theorem notLongL {n : Nat} (h : n ≤ sizeLine) : Builtin.List.listTooLong n = false := by
  unfold Builtin.List.listTooLong
  exact decide_eq_false (by omega)
end

section
variable {X : Cx}

/-! ### methods -/
def rAppend : V → List V → Hp → VK → Prop := fun x vs H Q => ∃ l xs y, x = .ref l ∧ vs = [y] ∧ H l = some (.lst xs) ∧ xs.length < sizeLine ∧ Q .non (upd H l (.lst (xs ++ [y])))
theorem mt_append : MtM X "list.append" rAppend := by
  intro pins s σ H x vs v us Q I rx rv h
  obtain ⟨l, xs, y, rfl, rfl, hH, hz, q⟩ := h
  cases rx
  obtain ⟨u, rfl, ru⟩ := rv.one
  obtain ⟨z, its, n, r, hl, e⟩ := I.lstM hH
  refine call_meets F.slot_list_append ⟨_, e, rfl⟩ F.entry_list_append (F.args_list_append_2 _ _) (PySem.list_append l its.toArray n u (by rw [List.size_toArray]; omega)) ⟨e, ?_⟩
  refine ⟨.non, _, I.lset (its' := its ++ [u]) hH e (by simp) (r.append (.cons ru .nil)) ?_, rfl, q⟩
  rw [List.length_append, List.length_singleton]
  omega

def rExtend : V → List V → Hp → VK → Prop := fun x vs H Q => ∃ l b xs zs, x = .ref l ∧ vs = [.ref b] ∧ H l = some (.lst xs) ∧ H b = some (.lst zs) ∧ xs.length + zs.length ≤ sizeLine ∧ Q .non (upd H l (.lst (xs ++ zs)))
theorem mt_extend : MtM X "list.extend" rExtend := by
  intro pins s σ H x vs v us Q I rx rv h
  obtain ⟨l, b, xs, zs, rfl, rfl, hH, hB, hz, q⟩ := h
  cases rx
  obtain ⟨u, rfl, ru⟩ := rv.one
  cases ru
  obtain ⟨z, its, n, r, hl, e⟩ := I.lstM hH
  obtain ⟨z2, its2, n2, r2, hl2, e2⟩ := I.lstM hB
  have hsz : its.toArray.size + its2.toArray.size ≤ sizeLine := by rw [List.size_toArray, List.size_toArray]; omega
  have hlong : ¬ (!its.toArray.isEmpty && Builtin.List.listTooLong (its.toArray.size + its2.toArray.size)) = true := by
    rw [notLongL hsz, Bool.and_false]
    exact Bool.false_ne_true
  refine call_meets F.slot_list_extend ⟨_, e, rfl⟩ F.entry_list_extend (F.args_list_extend_2 _ _)
    (AutoSeq1.list_extend_list_list_0 l its.toArray n b its2.toArray n2 hlong (by rw [List.size_toArray]; omega) (by omega)) ⟨e, e2, ?_⟩
  refine ⟨.non, _, I.lset (its' := its ++ its2) hH e (by simp) (r.append r2) ?_, rfl, q⟩
  rw [List.length_append]
  omega

def rPop : V → List V → Hp → VK → Prop := fun x vs H Q => ∃ l xs y, x = .ref l ∧ vs = [] ∧ H l = some (.lst xs) ∧ xs[xs.length - 1]? = some y ∧ Q y (upd H l (.lst xs.dropLast))
theorem mt_pop : MtM X "list.pop" rPop := by
  intro pins s σ H x vs v us Q I rx rv h
  obtain ⟨l, xs, y, rfl, rfl, hH, hy, q⟩ := h
  cases rx
  have hus := rv.zero
  subst hus
  obtain ⟨z, its, n, r, hl, e⟩ := I.lstM hH
  obtain ⟨u, hu, ru⟩ := r.get hy
  have hy' : its.toArray[its.toArray.size - 1]? = some u := by
    show its.toArray[its.length - 1]? = some u
    rw [← Array.getElem?_toList, ← hl]
    exact hu
  refine call_meets F.slot_list_pop ⟨_, e, rfl⟩ F.entry_list_pop (F.args_list_pop_1 _) (MeetsSeq.list_pop_last l its.toArray n u hy' (by rw [List.size_toArray]; omega)) ⟨e, ?_⟩
  refine ⟨y, _, I.lset (its' := its.dropLast) hH e ?_ r.dropLast ?_, ru, q⟩
  · show its.toArray.eraseIdxIfInBounds (its.toArray.size - 1) = its.dropLast.toArray
    rw [List.size_toArray, List.eraseIdxIfInBounds_toArray, erase_last]
  · rw [List.length_dropLast]
    omega

def rPopAt : V → List V → Hp → VK → Prop := fun x vs H Q => ∃ l xs i k y, x = .ref l ∧ vs = [.int i] ∧ H l = some (.lst xs) ∧ -(2 ^ 63) ≤ i ∧ i < 2 ^ 63 ∧ seqIndex? i xs.length = some k ∧ xs[k]? = some y ∧ Q y (upd H l (.lst (xs.eraseIdx k)))
theorem mt_popAt : MtM X "list.pop" rPopAt := by
  intro pins s σ H x vs v us Q I rx rv h
  obtain ⟨l, xs, i, k, y, rfl, rfl, hH, h1, h2, hk, hy, q⟩ := h
  cases rx
  obtain ⟨u, rfl, ru⟩ := rv.one
  obtain ⟨t, rfl⟩ := ru
  obtain ⟨z, its, n, r, hl, e⟩ := I.lstM hH
  obtain ⟨w, hw, rw'⟩ := r.get hy
  refine call_meets F.slot_list_pop ⟨_, e, rfl⟩ F.entry_list_pop (F.args_list_pop_2 _ _)
    (MeetsSeq.list_pop_at l its.toArray n i t k w (fitsIndex_both h1 h2) (by rw [List.size_toArray, ← hl]; exact hk) (by rw [← Array.getElem?_toList]; exact hw) (by rw [List.size_toArray]; omega)) ⟨e, ?_⟩
  refine ⟨y, _, I.lset (its' := its.eraseIdx k) hH e ?_ (r.eraseIdx k) ?_, rw', q⟩
  · show its.toArray.eraseIdxIfInBounds k = (its.eraseIdx k).toArray
    rw [List.eraseIdxIfInBounds_toArray]
  · have := len_erase xs k
    omega

def rReverse : V → List V → Hp → VK → Prop := fun x vs H Q => ∃ l xs, x = .ref l ∧ vs = [] ∧ H l = some (.lst xs) ∧ Q .non (upd H l (.lst xs.reverse))
theorem mt_reverse : MtM X "list.reverse" rReverse := by
  intro pins s σ H x vs v us Q I rx rv h
  obtain ⟨l, xs, rfl, rfl, hH, q⟩ := h
  cases rx
  have hus := rv.zero
  subst hus
  obtain ⟨z, its, n, r, hl, e⟩ := I.lstM hH
  refine call_meets F.slot_list_reverse ⟨_, e, rfl⟩ F.entry_list_reverse (F.args_list_reverse_1 _) (AutoSeq1.list_reverse_list_0 l its.toArray n (by rw [List.size_toArray]; omega)) ⟨e, ?_⟩
  refine ⟨.non, _, I.lset (its' := its.reverse) hH e (by simp) r.reverse ?_, rfl, q⟩
  rw [List.length_reverse]
  omega

def rClear : V → List V → Hp → VK → Prop := fun x vs H Q => ∃ l xs, x = .ref l ∧ vs = [] ∧ H l = some (.lst xs) ∧ Q .non (upd H l (.lst []))
theorem mt_clear : MtM X "list.clear" rClear := by
  intro pins s σ H x vs v us Q I rx rv h
  obtain ⟨l, xs, rfl, rfl, hH, q⟩ := h
  cases rx
  have hus := rv.zero
  subst hus
  obtain ⟨z, its, n, r, hl, e⟩ := I.lstM hH
  refine call_meets F.slot_list_clear ⟨_, e, rfl⟩ F.entry_list_clear (F.args_list_clear_1 _) (AutoSeq1.list_clear_list_0 l its.toArray n (by rw [List.size_toArray]; omega)) ⟨e, ?_⟩
  exact ⟨.non, _, I.lset (its' := []) (ys := []) hH e rfl .nil (Nat.zero_le _), rfl, q⟩

/-! ### list + list, list += list, list * int -/
def rCat : R2 := fun x y H Q => ∃ l b xs zs, x = .ref l ∧ y = .ref b ∧ H l = some (.lst xs) ∧ H b = some (.lst zs) ∧ xs.length + zs.length ≤ sizeLine ∧ ∀ p, H p = none → Q (.ref p) (upd H p (.lst (xs ++ zs)))
theorem op_cat : OpR X (binaryOp .Add) rCat := by
  intro pins s σ H x y v u Q I rx ry h
  obtain ⟨l, b, xs, zs, rfl, rfl, hH, hB, hz, q⟩ := h
  cases rx
  cases ry
  obtain ⟨z, its, n, r, hl, e⟩ := I.lstM hH
  obtain ⟨z2, its2, n2, r2, hl2, e2⟩ := I.lstM hB
  refine PySem.P.add_list e e2 ?_ (by rw [List.size_toArray, List.size_toArray]; omega)
  have ea : its.toArray ++ its2.toArray = (its ++ its2).toArray := by simp
  rw [ea]
  exact ⟨.ref _, _, I.lnew (t' := s.toks) (r.append r2) (by rw [List.length_append]; omega), rfl, q _ I.fresh⟩
/-- a list times an int (a negative one is nothing) -/
def rRep : R2 := fun x y H Q => ∃ l k xs, x = .ref l ∧ y = .int k ∧ H l = some (.lst xs) ∧ -(2 ^ 63) ≤ k ∧ k < 2 ^ 63 ∧ xs.length * k.toNat ≤ sizeLine ∧
  ∀ p, H p = none → Q (.ref p) (upd H p (.lst (List.replicate k.toNat xs).flatten))
theorem len_rep {α : Type} (xs : List α) (k : Nat) : (List.replicate k xs).flatten.length = k * xs.length := by
  induction k with
  | zero => simp
  | succ k ih => rw [List.replicate_succ, List.flatten_cons, List.length_append, ih, Nat.succ_mul, Nat.add_comm]
theorem op_rep : OpR X (binaryOp .Mult) rRep := by
  intro pins s σ H x y v u Q I rx ry h
  obtain ⟨l, k, xs, rfl, rfl, hH, h1, h2, hz, q⟩ := h
  cases rx
  obtain ⟨t, rfl⟩ := ry
  obtain ⟨z, its, n, r, hl, e⟩ := I.lstM hH
  have hlen : its.toArray.size * k.toNat ≤ sizeLine := by rw [List.size_toArray, ← hl]; exact hz
  have hcap : ¬ its.toArray.size * k.toNat > (2 ^ 63 - 1) / 8 := by
    have : (sizeLine : Nat) ≤ (2 ^ 63 - 1) / 8 := by decide
    omega
  have hfit : ¬ (!Builtin.List.listFitsIndex k) = true := by
    rw [fitsIndex_both h1 h2]
    exact Bool.false_ne_true
  have hlong : ¬ Builtin.List.listTooLong (its.toArray.size * k.toNat) = true := by
    rw [notLongL hlen]
    exact Bool.false_ne_true
  have hnew : List.foldl (fun x1 x2 => x1 ++ x2) #[] (List.replicate (if its.toArray.isEmpty = true then 0 else k.toNat) its.toArray) = (List.replicate k.toNat its).flatten.toArray := by
    have f0 : ∀ m : Nat, List.foldl (fun x1 x2 => x1 ++ x2) #[] (List.replicate m its.toArray) = (List.replicate m its).flatten.toArray := fun m => by
      have := foldl_rep its m []
      rw [List.nil_append] at this
      exact this
    rw [f0]
    cases its with
    | nil => simp
    | cons a r' => rw [if_neg (by simp)]
  refine wpAny_binaryOp_repeat_ref (T := "list") (U := "int") (by decide) ⟨_, e, rfl⟩ (fun s' => typeIs_int s' k t) noFill_list_mul F.fills_int_mul F.slot_int_rmul repeat_list F.slot_int_index.lookup
    (call_meets F.slot_int_rmul (typeIs_int s k t) F.entry_int_rmul (F.args_int_rmul_2 _ _) (int___rmul___int_list k t l its.toArray n)
      ⟨e, rfl, ⟨_, e, rfl⟩, call_meets F.slot_list_mul ⟨_, e, rfl⟩ F.entry_list_mul (F.args_list_mul_2 _ _) (AutoListH.list___mul___list_int_3 l its.toArray n k t hfit hcap hlong) ⟨e, ?_⟩⟩)
  rw [hnew]
  exact ⟨.ref _, _, I.lnew (t' := s.toks) (r.rep k.toNat) (by rw [len_rep, Nat.mul_comm]; exact hz), rfl, q _ I.fresh⟩

/-! ### del xs[i] -/
theorem del_list {pins : List (Addr × Obj)} {s : Shared} {σ : St} {H : Hp} {l : Addr} {xs : List V} {i : Int} {t : Tok} {k : Nat} {Q : Unit → Shared → Prop} (I : Inv X pins σ H s) (hH : H l = some (.lst xs))
    (h1 : -(2 ^ 63) ≤ i) (h2 : i < 2 ^ 63) (hk : seqIndex? i xs.length = some k) (h : ∀ s', Inv X pins σ (upd H l (.lst (xs.eraseIdx k))) s' → Q () s') :
    wpAny (model X.prog X.w) X.A (delItem (.ref l) (.int i t)) Q X.xe s := by
  obtain ⟨z, its, n, r, hl, e⟩ := I.lstM hH
  refine PySem.P.delItem_list (k := k) e (fitsIndex_both h1 h2) (by rw [List.size_toArray, ← hl]; exact hk) (h _ ?_) (by rw [List.size_toArray]; omega)
  refine I.lset (its' := its.eraseIdx k) (t' := s.toks) hH e ?_ (r.eraseIdx k) ?_
  · show its.toArray.eraseIdxIfInBounds k = (its.eraseIdx k).toArray
    rw [List.eraseIdxIfInBounds_toArray]
  · have := len_erase xs k
    omega
end

/-! ### xs[a:b] = ys -/
section
variable {prog : Program} {w : World} {A : Around} {E : Value → Shared → Prop} {s : Shared}
theorem splice_eq (its its2 : List Value) (a c : Nat) : its.toArray.extract 0 a ++ its2.toArray ++ its.toArray.extract c its.toArray.size = (its.take a ++ its2 ++ its.drop c).toArray := by
  apply Array.toList_inj.mp
  first
    | (simp
       exact List.take_of_length_le (by simp))
    | simp [List.take_of_length_le]
    | simp
theorem bounds_run {a c n : Nat} (hac : a ≤ c) (hc : c ≤ n) : sliceBounds (some (a : Int)) (some (c : Int)) none n = ((a : Int), (c : Int), 1) := by
  simp only [sliceBounds, Option.getD_none]
  have h1 : ¬ ((a : Int) < 0) := by omega
  have h2 : ¬ ((c : Int) < 0) := by omega
  simp only [h1, h2, if_false, show (1 : Int) > 0 by decide, if_true]
  congr 1
  · omega
  · congr 1; omega
set_option maxRecDepth 100000 in
/-- list.__setitem__ with a slice of step one and another list -/
theorem setItem_slice {l b sl : Addr} {items new : Array Value} {n n2 : Nat} {vl vu : Value} {a c : Nat} {Q : Unit → Shared → Prop}
    (e : s.heap.get? l = some { cls := .type "list", data := .seq items n }) (e2 : s.heap.get? b = some { cls := .type "list", data := .seq new n2 }) (hne : l ≠ b)
    (hs : s.heap.IsSliceOf sl vl vu .none) (pl : IsPart vl (some (a : Int))) (pu : IsPart vu (some (c : Int))) (hac : a ≤ c) (hc : c ≤ items.size)
    (hsz : items.size + new.size ≤ sizeLine) (h : Q () { s with heap := s.heap.update l (Obj.mapSeq fun xs => xs.extract 0 a ++ new ++ xs.extract c xs.size) }) :
    wpAny (model prog w) A (setItem (.ref l) (.ref sl) (.ref b)) Q E s := by
  have hl : s.heap.IsList l items := PySem.IsL.isList e
  have hb : s.heap.IsList b new := PySem.IsL.isList e2
  obtain ⟨os, hos, hcs, hds⟩ := id hs
  have hTs : s.TypeIs (.ref sl) "slice" := ⟨os, hos, hcs⟩
  have hstep : ¬ ((rawPart none == rawInt 0) = true) := Bool.false_ne_true
  have hsame : Builtin.List.listSameRef (.ref l) (.ref b) = false := by
    unfold Builtin.List.listSameRef
    exact beq_eq_false_iff_ne.mpr hne
  have hmax : (max (a : Int) (c : Int)).toNat = c := by omega
  have hz' : ((fun xs : Array Value => xs.extract 0 a ++ new ++ xs.extract c xs.size) items).size ≤ sizeLine + 1 := by
    simp only [Array.size_append, Array.size_extract]
    omega
  unfold setItem
  try with_reducible refine wpAny_holding ?_
  first | refine wpAny_bind (wpAny_pure ?_) | skip
  refine wpAny_bind (wpAny_sequenceKey hl.typeIs (by decide) ?_)
  refine wpAny_bind (wpAny_callSpecial?_slot (name := Str.ofString "__setitem__") hl.typeIs slot_list_setitem
    (wpAny_call_entry slot_list_setitem hl.typeIs entry_list_setitem ?_ (args_list_setitem _ _ _)))
  show wpAny _ _ (Builtin.List.listSubscript? (.ref sl) >>= _) _ _ s
  refine wpAny_bind ?_
  unfold Builtin.List.listSubscript?
  refine wpAny_bind (wpAny_specialOf hTs slice_no_index ?_)
  simp only [Option.isNone_none, if_true]
  refine wpAny_pure ?_
  show wpAny _ _ (typeOf (.ref sl) >>= _) _ _ s
  refine wpAny_bind (wpAny_typeOf hTs ?_)
  first
    | rw [if_neg (by decide)]
    | refine PySem.W.KFB.if_not (by decide) ?_
  rw [listSliceParts_eq]
  refine wpAny_bind (wpAny_bind (wpAny_field hos hds (x := .none) rfl (wpAny_bind (wpAny_listPart .none ?_))))
  rw [if_neg hstep]
  refine wpAny_bind (wpAny_field hos hds (x := vl) rfl (wpAny_bind (wpAny_listPart pl ?_)))
  refine wpAny_bind (wpAny_field hos hds (x := vu) rfl (wpAny_bind (wpAny_listPart pu (wpAny_pure ?_))))
  first
    | simp only [hsame, Bool.false_eq_true, if_false]
    | refine PySem.W.KFB.if_not hsame ?_
    | (dsimp only
       rw [if_neg (by rw [hsame]; exact Bool.false_ne_true)])
  refine wpAny_bind (m := Builtin.List.listAllItems (.ref b) "must assign iterable to extended slice") ?_
  unfold Builtin.List.listAllItems
  refine wpAny_bind (wpAny_typeOf hb.typeIs ?_)
  first
    | refine PySem.W.KFB.if_so (by decide) ?_
    | rw [if_pos (by decide)]
    | simp only [beq_self_eq_true, Bool.true_or, if_true]
  unfold Builtin.List.listItems
  refine wpAny_bind (wpAny_seqItems e2 rfl (wpAny_pure ?_))
  refine wpAny_bind (wpAny_bind (wpAny_seqItems e rfl (wpAny_pure ?_)))
  refine wpAny_bind (wpAny_of_eq ((sliceIndices_raw (some (a : Int)) (some (c : Int)) none items.size (by simp)).trans (congrArg (pure : Int × Int × Int → Sem (Int × Int × Int)) (bounds_run hac hc))) ?_)
  show wpAny _ _ (if ((1 : Int) == 1) = true then _ else _) _ _ s
  rw [if_pos (by decide)]
  refine wpAny_bind (wpAny_rule ?_)
  first
    | simp only [notLongL hsz, Bool.false_eq_true, if_false]
    | refine PySem.W.KFB.if_not (notLongL hsz) ?_
  first | refine wpAny_bind (wpAny_pure ?_) | skip
  show wpAny _ _ (updateSeq l (fun xs => xs.extract 0 ((a : Int)).toNat ++ new ++ xs.extract (max (a : Int) (c : Int)).toNat xs.size) >>= _) _ _ s
  rw [hmax, Int.toNat_natCast]
  refine wpAny_bind (wpAny_updateSeq (hz := Nat.le_trans (Nat.le_add_right _ _) hsz) (_hz' := hz') e rfl ?_)
  refine wpAny_bind (wpAny_letGo ?_)
  first
    | exact wpAny_bind (wpAny_pure (wpAny_pure ⟨.none, rfl, wpAny_pure h⟩))
    | exact wpAny_pure ⟨.none, rfl, wpAny_pure h⟩
end

section
variable {X : Cx}
/-- xs[a:c] = ys of another list, at the value level: sl is the slice object that was just made -/
theorem set_slice {pins : List (Addr × Obj)} {s : Shared} {σ : St} {H : Hp} {l b sl : Addr} {xs ys : List V} {a c : Int} {vl vu : Value} {Q : Unit → Shared → Prop} (I : Inv X pins σ H s)
    (hH : H l = some (.lst xs)) (hB : H b = some (.lst ys)) (hne : l ≠ b) (hs : s.heap.IsSliceOf sl vl vu .none) (ra : RelV (.int a) vl) (rc : RelV (.int c) vu) (h0 : 0 ≤ a) (hac : a ≤ c) (hc : c ≤ xs.length)
    (hz : xs.length + ys.length ≤ sizeLine) (h : ∀ s', Inv X pins σ (upd H l (.lst (xs.take a.toNat ++ ys ++ xs.drop c.toNat))) s' → Q () s') :
    wpAny (model X.prog X.w) X.A (setItem (.ref l) (.ref sl) (.ref b)) Q X.xe s := by
  obtain ⟨ta, rfl⟩ := ra
  obtain ⟨tc, rfl⟩ := rc
  obtain ⟨z, its, n, r, hl, e⟩ := I.lstM hH
  obtain ⟨z2, its2, n2, r2, hl2, e2⟩ := I.lstM hB
  obtain ⟨a', rfl⟩ := Int.eq_ofNat_of_zero_le h0
  obtain ⟨c', rfl⟩ := Int.eq_ofNat_of_zero_le (Int.le_trans h0 hac)
  simp only [Int.toNat_natCast] at h
  refine setItem_slice (a := a') (c := c') e e2 hne hs (.int _ _) (.int _ _) (by omega) (by rw [List.size_toArray]; omega) (by rw [List.size_toArray, List.size_toArray]; omega) (h _ ?_)
  refine I.lset (its' := its.take a' ++ its2 ++ its.drop c') (t' := s.toks) hH e ?_ (Vals.append (Vals.append (r.take _) r2) (r.drop _)) ?_
  · exact splice_eq its its2 a' c'
  · rw [List.length_append, List.length_append, List.length_take, List.length_drop]
    omega
end
end L2

namespace Att
open PySem PySem.W PySem.Calls PyProof.Rows

/-! ### the script -/
theorem ints_of_wellAll {P : Params} {h : Heap} : ∀ (ns : List Int) (vs : List Value), WellAll P h vs (ns.map WData.int) → IntsAre vs ns := by
  intro ns
  induction ns with
  | nil =>
    intro vs w
    rw [List.map_nil] at w
    cases w
    exact .nil
  | cons n ns ih =>
    intro vs w
    rw [List.map_cons] at w
    cases w with
    | cons a b =>
      cases a
      exact .cons _ _ (ih _ b)

theorem script_of {l : OpenLaw} {n : Nat} (hn : l.most = some n) {P : Params} {h : Heap} {args : List WData} {vals : List Value}
    (hpre : l.row.toRowW.claim.pre args = true) (hwl : WellAll P h vals args) :
    ∃ a vs ns, vals = [Value.ref a] ∧ args = [WData.list (ns.map WData.int)] ∧ h.get? a = some { cls := .type "list", data := .seq vs.toArray } ∧ IntsAre vs ns ∧ ns.length ≤ n := by
  have hsh : WShape.hasAll [] args [.list .int] = true := (pre_splitW hpre).1
  have hc : l.pre.holds [] { args := args } = true := (pre_splitW hpre).2
  obtain ⟨d, r, rfl, h1, h2⟩ := hasAllW_cons hsh
  obtain rfl := hasAllW_nil h2
  obtain ⟨xs, rfl, h3⟩ := hasW_list h1
  obtain ⟨ns, rfl⟩ := items_int h3
  have hlen : ns.length ≤ n := by
    unfold OpenLaw.pre at hc
    have h4 : (WTm.not (.lt (.lit (.int (n : Int))) (.len (.arg 0)))).holds [] { args := [.list (ns.map .int)] } = true := by
      have h4 := (holds_andW hc).1
      rw [hn] at h4
      exact h4
    have h5 := condW_of h4 (w_not (w_lt w_lit (w_len_list (w_arg rfl))))
    rw [List.length_map] at h5
    refine Nat.le_of_not_lt fun q => ?_
    have q' : (n : Int) < ((ns.length : Nat) : Int) := by omega
    first
      | (rw [decide_eq_true q'] at h5; exact absurd h5 (by decide))
      | (simp at h5; omega)
  cases hwl with
  | cons w1 w2 =>
    cases w2
    cases w1 with
    | list ho hall => exact ⟨_, _, ns, rfl, rfl, ho, ints_of_wellAll ns _ hall, hlen⟩

theorem post_true (l : OpenLaw) (args : List WData) : l.row.toRowW.claim.post args (.bool true) args = true :=
  postW_of (r := l.row.toRowW) (X := (true == true))
    (show WShape.has [] (.bool true) .bool = true by first | rfl | decide | simp [WShape.has, WShape.arms, WShape.armsAll])
    (show (WTm.eq .res (.lit (.bool true))).value [] { args := args, res := some (.bool true), after := args } = some (.bool (true == true)) from w_eq_bool (w_res rfl) w_lit) rfl

/-! ### the attachment: holds_open's last premise (the goal 'hc' behind k_head) from a wpAny of the law's body -/
theorem attach {l : OpenLaw} {n : Nat} {q : Program} {loose : List Str} {XP : (Str → Option Value) → Heap → Prop} {YP : World → Heap → Prop} {d : DefRec} {x : Str}
    (hn : l.most = some n) (hdf : d.params.defaults = [])
    (hbind : ∀ pm cd doc v : Value, bindArgs (docDef d.name d.params d.body d.scope pm cd doc) ⟨[v], []⟩ = pure [(x, v)])
    (hx : d.scope.names.lookup x = some .local ∨ d.scope.names.lookup x = some .cell)
    (hk : d.scope.kind = .function) (hco : d.scope.isCoroutine = false) (hgen : d.scope.isGenerator = false)
    (body : ∀ (w : World) (s₀ s₁ s : Shared) (mg mb : Str → Option Value) (fa : Addr) (o : Obj) (pm cd doc : Value) (a : Addr) (vs : List Value) (ns : List Int),
      Ground q loose [] XP w s₀ mg mb s₁.heap → YP w s₁.heap →
      s₁.heap.get? fa = some o → o.data = .func (docDef d.name d.params d.body d.scope pm cd doc) → s₁.heap.CodeRec cd d.name → mg d.name = some (.ref fa) →
      s₁.heap.get? a = some { cls := .type "list", data := .seq vs.toArray } → IntsAre vs ns → ns.length ≤ n →
      s.gens = #[] → s.os = s₁.os →
      Fr s₁.heap s₁.heap.objs.size s.heap (bindL (envOfC d.name d.scope s₁.heap.objs.size fa cd).kindOf [(x, .ref a)] fun _ => none) →
      Cl s₁.heap.objs.size (cellsFrom (s₁.heap.objs.size + 1) d.scope.names []) s.heap (bindC (envOfC d.name d.scope s₁.heap.objs.size fa cd).kindOf [(x, .ref a)] fun _ => none) →
      wpAny (model l.prog w) (callerA.deeper (envOfC d.name d.scope s₁.heap.objs.size fa cd)) (execs d.body (envOfC d.name d.scope s₁.heap.objs.size fa cd))
        (fun f s' => f = .ret (.bool true) ∧ OldK s₁.heap s'.heap ∧ s'.os = s₁.os ∧ AllBare s'.gens) (fun _ _ => False) s) :
    WalkO q loose XP YP l.row.toRowW d [] (fun f vs => PySem.call f vs) := by
  intro w s₀ s₁ mg mb G Y fa o pm cd doc dV kV ho hd hcd hD hmg hg args vals as hpre hlay hrd hwl hlo
  obtain rfl : dV = .none := Dflts.none hD hdf
  obtain rfl : kV = .none := Dflts.noKw hD
  obtain ⟨a, vs, ns, rfl, rfl, hobj, hints, hlen⟩ := script_of hn hpre hwl
  refine enter_call ?_
  refine call_cells_ret (o := o) (by rw [depth_caller]; decide) ho (fd_plain hd) G.T.nolimit hcd (hbind pm cd doc (.ref a)) (fun y hy => ?_) (fun h₁ tk F X => ?_) hco hgen hk
  · obtain rfl : y = (x, Value.ref a) := List.mem_singleton.mp hy
    rcases hx with e | e
    · exact .inl e
    · exact .inr ⟨e, cellsFrom_some _ _ _ (.inl e)⟩
  · refine wpAny_mono (body w s₀ s₁ { s₁ with heap := h₁, toks := tk } mg mb fa o pm cd doc a vs ns G Y ho (fd_plain hd) hcd hmg hobj hints hlen hg rfl F X) (fun f s' hq => ?_) (fun _ _ hq => hq)
    obtain ⟨rfl, h2, h3, h4⟩ := hq
    exact ⟨.inl ⟨.bool true, .bool true, [], rfl, fun _ => rfl, .bool true, post_true l _, fun _ => ⟨List.Pairwise.nil, fun _ hm => (nomatch hm)⟩⟩, h2, h3, h4⟩

/-- the same from a codeAny of the CALL (for a layer whose function contracts speak of calls) -/
theorem attach_call {l : OpenLaw} {n : Nat} {q : Program} {loose : List Str} {XP : (Str → Option Value) → Heap → Prop} {YP : World → Heap → Prop} {d : DefRec}
    (hn : l.most = some n) (hdf : d.params.defaults = [])
    (call : ∀ (w : World) (s₀ s₁ : Shared) (mg mb : Str → Option Value) (fa : Addr) (o : Obj) (pm cd doc : Value) (a : Addr) (vs : List Value) (ns : List Int),
      Ground q loose [] XP w s₀ mg mb s₁.heap → YP w s₁.heap →
      s₁.heap.get? fa = some o → o.data = .func (docDef d.name d.params d.body d.scope pm cd doc) → s₁.heap.CodeRec cd d.name → mg d.name = some (.ref fa) →
      s₁.heap.get? a = some { cls := .type "list", data := .seq vs.toArray } → IntsAre vs ns → ns.length ≤ n → s₁.gens = #[] →
      codeAny (model l.prog w) callerA (.call (.ref fa) ⟨[.ref a], []⟩) (fun r s' => r = .ok (.ret (.bool true)) ∧ OldK s₁.heap s'.heap ∧ s'.os = s₁.os ∧ AllBare s'.gens) s₁) :
    WalkO q loose XP YP l.row.toRowW d [] (fun f vs => PySem.call f vs) := by
  intro w s₀ s₁ mg mb G Y fa o pm cd doc dV kV ho hd hcd hD hmg hg args vals as hpre hlay hrd hwl hlo
  obtain rfl : dV = .none := Dflts.none hD hdf
  obtain rfl : kV = .none := Dflts.noKw hD
  obtain ⟨a, vs, ns, rfl, rfl, hobj, hints, hlen⟩ := script_of hn hpre hwl
  refine enter_call (codeAny_mono (call w s₀ s₁ mg mb fa o pm cd doc a vs ns G Y ho (fd_plain hd) hcd hmg hobj hints hlen hg) fun r s' hq => ?_)
  obtain ⟨rfl, h2, h3, h4⟩ := hq
  exact ⟨.inl ⟨.bool true, .bool true, [], rfl, fun _ => rfl, .bool true, post_true l _, fun _ => ⟨List.Pairwise.nil, fun _ hm => (nomatch hm)⟩⟩, h2, h3, h4⟩

/-- the same where the top left finished generators (o_head chose holds_openN): nothing may have changed at all and no generator may be left -/
theorem attachN {l : OpenLaw} {n : Nat} {q : Program} {loose : List Str} {XP : (Str → Option Value) → Heap → Prop} {YP : World → Heap → Prop} {d : DefRec} {x : Str}
    (hn : l.most = some n) (hdf : d.params.defaults = [])
    (hbind : ∀ pm cd doc v : Value, bindArgs (docDef d.name d.params d.body d.scope pm cd doc) ⟨[v], []⟩ = pure [(x, v)])
    (hx : d.scope.names.lookup x = some .local ∨ d.scope.names.lookup x = some .cell)
    (hk : d.scope.kind = .function) (hco : d.scope.isCoroutine = false) (hgen : d.scope.isGenerator = false)
    (body : ∀ (w : World) (s₀ s₁ s : Shared) (mg mb : Str → Option Value) (fa : Addr) (o : Obj) (pm cd doc : Value) (a : Addr) (vs : List Value) (ns : List Int),
      Ground q loose [] XP w s₀ mg mb s₁.heap → YP w s₁.heap →
      s₁.heap.get? fa = some o → o.data = .func (docDef d.name d.params d.body d.scope pm cd doc) → s₁.heap.CodeRec cd d.name → mg d.name = some (.ref fa) →
      s₁.heap.get? a = some { cls := .type "list", data := .seq vs.toArray } → IntsAre vs ns → ns.length ≤ n →
      s.gens = #[] → s.os = s₁.os →
      Fr s₁.heap s₁.heap.objs.size s.heap (bindL (envOfC d.name d.scope s₁.heap.objs.size fa cd).kindOf [(x, .ref a)] fun _ => none) →
      Cl s₁.heap.objs.size (cellsFrom (s₁.heap.objs.size + 1) d.scope.names []) s.heap (bindC (envOfC d.name d.scope s₁.heap.objs.size fa cd).kindOf [(x, .ref a)] fun _ => none) →
      wpAny (model l.prog w) (callerA.deeper (envOfC d.name d.scope s₁.heap.objs.size fa cd)) (execs d.body (envOfC d.name d.scope s₁.heap.objs.size fa cd))
        (fun f s' => f = .ret (.bool true) ∧ (∀ b o, s₁.heap.get? b = some o → s'.heap.get? b = some o) ∧ s'.os = s₁.os ∧ s'.gens = #[]) (fun _ _ => False) s) :
    WalkN q loose XP YP l.row.toRowW d [] (fun f vs => PySem.call f vs) := by
  intro w s₀ s₁ mg mb G Y fa o pm cd doc dV kV ho hd hcd hD hmg hg args vals as hpre hlay hrd hwl hlo
  obtain rfl : dV = .none := Dflts.none hD hdf
  obtain rfl : kV = .none := Dflts.noKw hD
  obtain ⟨a, vs, ns, rfl, rfl, hobj, hints, hlen⟩ := script_of hn hpre hwl
  refine enter_callW ?_
  refine call_cells_ret (o := o) (by rw [depth_caller]; decide) ho (fd_plain hd) G.T.nolimit hcd (hbind pm cd doc (.ref a)) (fun y hy => ?_) (fun h₁ tk F X => ?_) hco hgen hk
  · obtain rfl : y = (x, Value.ref a) := List.mem_singleton.mp hy
    rcases hx with e | e
    · exact .inl e
    · exact .inr ⟨e, cellsFrom_some _ _ _ (.inl e)⟩
  · refine wpAny_mono (body w s₀ s₁ { s₁ with heap := h₁, toks := tk } mg mb fa o pm cd doc a vs ns G Y ho (fd_plain hd) hcd hmg hobj hints hlen hg rfl F X) (fun f s' hq => ?_) (fun _ _ hq => hq)
    obtain ⟨rfl, h2, h3, h4⟩ := hq
    exact ⟨.inl ⟨.bool true, .bool true, [], rfl, fun _ => rfl, .bool true, post_true l _, fun _ => ⟨List.Pairwise.nil, fun _ hm => (nomatch hm)⟩⟩, h2, h3, h4⟩

/-! ### rules over ANY heap (no ledger) from facts about the written part K: the library's own take a ledger (News) for what they write -/
section
variable {prog : Program} {w : World} {A : Around} {E : Value → Shared → Prop} {s : Shared} {K : Frag}

/-- a def of the module, or a method (qual 'C.m'), entered: the frame is the next address; cells behind it -/
theorem call_fn {R : Result → Shared → Prop} {name qual : Str} {params : Arguments} {body : List Stmt} {scope : Scope} {dV kV doc pm cdv ct oc : Value} {an od : Option Addr} {osl : Array (Option Value)} {f : Addr} {args : Args} {binds : List (Str × Value)}
    (X : K.In s.heap) (hlim : s.heap.NoLimit) (ho : K.lookup f = some ⟨oc, od, .func (fnOf name qual params body scope dV kV doc pm an cdv ct), osl⟩) (hcd : codeIn K cdv qual = true) (hroom : A.depth < recursionLimit)
    (hbind : BindsTo s (fnOf name qual params body scope dV kV doc pm an cdv ct) args binds)
    (hkind : (binds.all fun y => scope.names.lookup y.1 == some .local || scope.names.lookup y.1 == some .cell) = true)
    (h : ∀ s₁, InCallC s s.heap.objs.size (bindL (envOfC qual scope s.heap.objs.size f cdv).kindOf binds fun _ => none) (cellsFrom (s.heap.objs.size + 1) scope.names [])
        (bindC (envOfC qual scope s.heap.objs.size f cdv).kindOf binds fun _ => none) s₁ →
      wpAny (model prog w) (A.deeper (envOfC qual scope s.heap.objs.size f cdv)) (execs body (envOfC qual scope s.heap.objs.size f cdv))
        (fun fl s' => R (.ok (.ret (match fl with | .ret v => v | _ => .none))) s')
        (fun e s' => wpAny (model prog w) (A.deeper (envOfC qual scope s.heap.objs.size f cdv)) (leaving (envOfC qual scope s.heap.objs.size f cdv) e) (fun _ s'' => R (.error e) s'') (fun e' s'' => R (.error e') s'') s') s₁)
    (hco : scope.isCoroutine = false) (hgen : scope.isGenerator = false) (hk : scope.kind = .function) : codeAny (model prog w) A (.call (.ref f) args) R s := by
  refine codeAny_call_function hroom (X _ _ ho) rfl hco hgen rfl (codeRec_of X hcd) (hbind _ _ _ _ ?_)
  refine wpAny_newFunctionEnv_cells hk (kindsX hkind _) fun env he s₁ x => ?_
  subst he
  exact ⟨hlim.keeps x.toInCall.keep, codeAny_func (h s₁ x)⟩

/-- C(..): dict at size, instance at size + 1, then __init__ -/
theorem make_obj {R : Result → Shared → Prop} {C fI : Addr} {rest : List Value} {kw : List (Str × Value)}
    (X : K.In s.heap) (hm : makesIn K C = true) (hi : findIn K (.ref C) "__init__" = some (some (.ref fI))) (hf : isFn K (.ref fI) = true)
    (h : codeAny (model prog w) (A.under (.builtin "type.__call__" ⟨.ref C :: rest, kw⟩)) (.call (.ref fI) ⟨.ref (s.heap.objs.size + 1) :: rest, kw⟩) (InitBack (s.heap.objs.size + 1) R)
      { s with heap := (s.heap.push emptyDict).push (instObj C s.heap.objs.size) }) : codeAny (model prog w) A (.call (.ref C) ⟨rest, kw⟩) R s := by
  obtain ⟨hh, g, d, t, os⟩ := s
  exact make_core (makes_of X hm) (looks_findIn X hi) (fun self => bind_fn X self (beq_iff_eq.mp hf)) (.inl rfl) h

/-- x.name where the instance's dict holds the name and the class does not -/
theorem get_field {x C : Addr} {ox : Obj} {es : List DictEntry} {n : Nat} {name : Str} {expr : Bool} {v : Value} {Q : Value → Shared → Prop}
    (X : K.In s.heap) (I : PySem.W.InstAt s.heap x ox C (some (dictOf es n))) (hg : plainGet K C name = true) (hh : hasDictIn K C = true) (ha : findIn K (.ref C) name = some none)
    (hl : getL name es = some (some v)) (hv : handedIn v = true) (h : Q v { s with toks := s.toks + 1 }) : wpAny (model prog w) A (getAttr (.ref x) name expr) Q E s :=
  get_value X I (plainGet_of hg).1 (findObj_own hh ha rfl hl) hv h

/-- x.m(..): the method found in the class -/
theorem get_method {x C f : Addr} {ox : Obj} {es : List DictEntry} {n : Nat} {name : Str} {pl : Sem Bool} {Q : Value × List Value → Shared → Prop}
    (X : K.In s.heap) (I : PySem.W.InstAt s.heap x ox C (some (dictOf es n))) (hg : plainGet K C name = true) (hf : findIn K (.ref C) name = some (some (.ref f))) (ht : isFn K (.ref f) = true)
    (hl : getL name es = some none) (h : Q (.ref f, [.ref x]) s) : wpAny (model prog w) A (getMethod (.ref x) name pl) Q E s :=
  method_fn X I (plainGet_of hg).1 (plainGet_of hg).2 hf (beq_iff_eq.mp ht) (by show (lookIn name (dictOf es n)).map _ = _; rw [lookIn_dict, hl]; rfl) h

/-! the whole heap as the ledger: makes every rule that writes through a ledger a rule over any heap -/
def noObjs (h : Heap) : Heap := { h with objs := #[] }
theorem noObjs_get (h : Heap) (b : Addr) : (noObjs h).get? b = none := by
  cases e : (noObjs h).get? b with
  | none => rfl
  | some o => exact absurd (Heap.lt_size e) (Nat.not_lt_zero _)
def ledger (h : Heap) (L d : Addr) : List (Addr × Obj) := (List.range h.objs.size).filterMap fun a => if a = L ∨ a = d then none else (h.get? a).map fun o => (a, o)
theorem mem_ledger {h : Heap} {L d a : Addr} {o : Obj} : (a, o) ∈ ledger h L d ↔ a ≠ L ∧ a ≠ d ∧ h.get? a = some o := by
  unfold ledger
  rw [List.mem_filterMap]
  constructor
  · rintro ⟨b, _, e⟩
    split at e
    · cases e
    · rename_i hb
      obtain ⟨o', ho, e'⟩ := Option.map_eq_some_iff.mp e
      cases e'
      exact ⟨fun q => hb (.inl q), fun q => hb (.inr q), ho⟩
  · rintro ⟨n1, n2, ho⟩
    refine ⟨a, List.mem_range.mpr (Heap.lt_size ho), ?_⟩
    rw [if_neg (show ¬ (a = L ∨ a = d) from fun q => q.elim n1 n2), ho] <;> rfl
theorem news_ledger {h : Heap} {L d : Addr} {od : Obj} (hne : d ≠ L) (ho : h.get? d = some od) : News (noObjs h) L h ([] ++ (d, od) :: ledger h L d) := by
  rintro ⟨a, o⟩ hp
  rcases List.mem_cons.mp hp with e | hp
  · cases e
    exact ⟨ho, hne, noObjs_get _ _⟩
  · obtain ⟨n1, n2, e⟩ := mem_ledger.mp hp
    exact ⟨e, n1, noObjs_get _ _⟩
theorem fr_all {h : Heap} {L : Addr} {m : Str → Option Value} (n : h.Ns L m) : Fr (noObjs h) L h m :=
  ⟨n, fun b o e => (by rw [noObjs_get] at e; cases e), Nat.zero_le _⟩
/-- Upd of the head entry (for append_K, setItem_K ..) -/
theorem upd_ledger {h : Heap} {L d : Addr} {o o' : Obj} : Upd d o o' ((d, o) :: ledger h L d) ((d, o') :: ledger h L d) :=
  .head fun ⟨_, _⟩ hp => (mem_ledger.mp hp).2.1

/-- x.name = v over any heap: L is any namespace of the heap (the frame's, say): its map stays, its object is not told; all else but the dict stays -/
theorem set_field {x C dx L : Addr} {ox : Obj} {m : Str → Option Value} {es es' : List DictEntry} {n n' : Nat} {name : Str} {v : Value} {Q : Unit → Shared → Prop}
    (X : K.In s.heap) (I : PySem.W.InstAt s.heap x ox C (some (dictOf es n))) (hd : ox.dict = some dx) (hL : s.heap.Ns L m) (hne : dx ≠ L)
    (hs : findIn K (.ref C) "__setattr__" = some (some (.builtin "object.__setattr__"))) (hp : plainOver K C = true) (ht : takerIn K C name = some none) (hh : hasDictIn K C = true) (hl : (getL name es).isSome = true)
    (e : (putL name (PyData.keyHash w.params name) (.str name (s.toks + 1)) v es, putN name es n) = (es', n')) (hz : es'.length ≤ 1000)
    (h : ∀ h' : Heap, h'.Ns L m → h'.get? dx = some (dictOf es' n') → (∀ b o, b ≠ dx → b ≠ L → s.heap.get? b = some o → h'.get? b = some o) → Q () { s with heap := h', toks := s.toks + 2 }) :
    wpAny (model prog w) A (setAttr (.ref x) name v) Q E s := by
  obtain ⟨e1, e2⟩ := Prod.mk.inj e
  have hdx : s.heap.get? dx = some (dictOf es n) := by
    have := I.dict
    rw [hd] at this
    exact this
  refine set_plain X I hs (osa_dict (s := { s with toks := s.toks + 1 }) (h₀ := noObjs s.heap) (L := L) (m := m) (od := dictOf es n) (od' := dictOf es' n') (es := es') (n := n') (pre := []) (post := ledger s.heap L dx)
    (fr_all hL) (news_ledger hne hdx) X I hd hp ht hh hl (fun _ q => nomatch q) (fun ⟨_, _⟩ q => (mem_ledger.mp q).2.1) (by rw [putName_dict, e1, e2]) rfl hz fun h' F' N' => ?_)
  exact h h' F'.ns (N'.get (List.Mem.head _)) fun b o n1 n2 ho => N'.get (List.Mem.tail _ (mem_ledger.mpr ⟨n2, n1, ho⟩))
end
end Att

namespace L2
open PySem PySem.Spec PyProof.Rows

theorem vals_ints : ∀ {vs : List Value} {ns : List Int}, IntsAre vs ns → Vals (ns.map V.int) vs
  | _, _, .nil => .nil
  | _, _, .cons n t h => .cons ⟨t, rfl⟩ (vals_ints h)

/-- nothing is tracked but the script, known to the object (or it is an object of the module) -/
def Only (H : Hp) : Prop := ∀ b, H b = none ∨ ∃ o xs, H b = some (.frz o (.lst xs))

/-- THE HEAD: the law's promise, at the heap behind the top. F, the promise of the law's def, may use that base is part of the heap (so K.In base, base.Ns mainGlobals mg stand in Mod) -/
theorem law_call {P : Program} {w : World} {K : PySem.W.Frag} {mg mb : Str → Option Value} {CX : CXT} {k : Nat} {fa a : Addr} {fd : FuncData} {x : Str} {sp : Sp} {s₁ : Shared} {vs : List Value} {ns : List Int}
    (KX : K.In s₁.heap) (hns : s₁.heap.Ns mainGlobals mg) (hb : s₁.heap.Ns builtinsNs mb) (hbb : ∀ x : Str, x ≠ "__name__" → mb x = bootBuiltins x) (hlim : s₁.heap.NoLimit) (hg : s₁.gens = #[])
    (ha : s₁.heap.get? a = some { cls := .type "list", data := .seq vs.toArray }) (hi : IntsAre vs ns) (hl : ns.length ≤ sizeLine) (hr : Room k callerA)
    (F : ∀ base : Heap, K.In base → base.Ns mainGlobals mg → FnOk P w K mg base CX k fa fd [x] sp) (hbind : ∀ (s : Shared) (u : Value), BindsTo s fd ⟨[u], []⟩ [(x, u)])
    (hsp : ∀ H : Hp, Only H → SqL K H a (ns.map V.int) → sp [.ref a] H (fun v _ => v = .bl true) fun _ _ _ => False)
    (hCX : ∀ H e s', CX [] H s₁ (fun _ _ _ => False) e s' → False) :
    codeAny (model P w) callerA (.call (.ref fa) ⟨[.ref a], []⟩) (fun r s' => r = .ok (.ret (.bool true)) ∧ OldK s₁.heap s'.heap ∧ s'.os = s₁.os ∧ AllBare s'.gens) s₁ := by
  have rv := vals_ints hi
  have lenV := hi.length
  -- from an abstract heap in which nothing but the script may be tracked
  have core : ∀ H : Hp, Only H → SqL K H a (ns.map V.int) → HOk P w H s₁.heap → (∀ b, H b ≠ none → b = a) → (H a ≠ none → K.lookup a = none) →
      codeAny (model P w) callerA (.call (.ref fa) ⟨[.ref a], []⟩) (fun r s' => r = .ok (.ret (.bool true)) ∧ OldK s₁.heap s'.heap ∧ s'.os = s₁.os ∧ AllBare s'.gens) s₁ := by
    intro H hO hS hok hA hK
    have base_of : ∀ {b : Addr} {o : Obj}, s₁.heap.get? b = some o → H b = none → (hidT s₁.heap H).get? b = some o := fun e n => hidT_get e n
    have noA : ∀ {b : Addr} {o : Obj} {es : Array DictEntry} {ep : Nat}, s₁.heap.get? b = some o → o.data = .dict es ep → H b = none := fun {b o es ep} e d => by
      cases q : H b with
      | none => rfl
      | some u =>
        have e' : b = a := hA b (by rw [q]; simp)
        subst e'
        rw [ha] at e; cases e
        have d' : Data.seq vs.toArray _ = Data.dict es ep := d
        cases d'
    have nsK : ∀ {b : Addr} {m : Str → Option Value}, s₁.heap.Ns b m → (hidT s₁.heap H).Ns b m := fun {b m} ⟨o, es, ep, e, d, r⟩ => ⟨o, es, ep, base_of e (noA e d), d, r⟩
    have hKb : K.In (hidT s₁.heap H) := fun b o e => base_of (KX b o e) (by
      cases q : H b with
      | none => rfl
      | some u =>
        have e' : b = a := hA b (by rw [q]; simp)
        subst e'
        rw [hK (by rw [q]; simp)] at e; cases e)
    have hM : Mod K mg (hidT s₁.heap H) := ⟨hKb, nsK hns, ⟨mb, nsK hb, hbb⟩, let ⟨mc, h1, h2⟩ := hlim; ⟨mc, nsK h1, h2⟩⟩
    have e0 : Env0 P w K mg (hidT s₁.heap H) callerA [] s₁ H := ⟨rfl, hM, fun b o e => of_hidT e, Nat.le_of_eq (hidT_size _ _), trivial, fun b hb => absurd (show b ∈ ([] : List Addr) from hb) (by simp), hok, .of_eq hg⟩
    refine codeAny_mono ((F _ hKb (nsK hns)).run callerA [] s₁ H ⟨[.ref a], []⟩ [.ref a] [.ref a] _ _ hr e0 (hbind s₁ (.ref a)) (.cons rfl .nil) (hsp H hO hS)) fun r s' h => ?_
    cases r with
    | error e => exact (hCX H e s' h).elim
    | ok fl =>
      cases fl with
      | next => exact False.elim h
      | brk => exact False.elim h
      | cont => exact False.elim h
      | ret u =>
        obtain ⟨v, H', os, bare, un, hok', r', q⟩ := h
        have q' : v = .bl true := q
        subst q'
        obtain rfl : u = Value.bool true := r'
        refine ⟨rfl, OldK.of_keep fun b o e => ?_, os, bare⟩
        cases q : H b with
        | none => exact un.keep b o e q (by intro z; exact absurd (show b ∈ ([] : List Addr) from z) (by simp)) (by simp)
        | some u =>
          rcases hO b with z | ⟨ob, xs, z⟩
          · rw [q] at z; cases z
          · have z2 := un.frzs b ob _ z
            obtain ⟨e1, _⟩ := hok b _ z
            obtain ⟨e2, _⟩ := hok' b _ z2
            rw [e] at e1; cases e1
            exact e2
  cases hk : K.lookup a with
  | some o =>
    -- the script is one of the module's own objects
    have e := KX a o hk
    rw [ha] at e
    cases e
    refine core (fun _ => none) (fun _ => .inl rfl) (.inr ⟨_, vs.toArray, _, hk, rfl, rfl, rfl, by rw [List.size_toArray, lenV]; exact hl, by simpa using rv⟩) (fun b u z => by have z' : (none : Option HO) = some u := z; cases z') (fun b z => absurd rfl z) fun z => absurd rfl z
  | none =>
    refine core (fun b => if b = a then some (.frz { cls := .type "list", data := .seq vs.toArray } (.lst (ns.map V.int))) else none) (fun b => ?_) (.inl (.inr ⟨{ cls := .type "list", data := .seq vs.toArray }, if_pos rfl⟩)) (fun b u z => ?_) (fun b z => ?_) fun _ => hk
    · by_cases hb : b = a
      · exact .inr ⟨_, _, if_pos hb⟩
      · exact .inl (if_neg hb)
    · by_cases hb : b = a
      · have z' := (if_pos hb).symm.trans z
        cases z'
        subst hb
        exact ⟨ha, by rw [List.length_map]; exact hl, vs, _, rv, ha⟩
      · have z' := (if_neg hb).symm.trans z
        cases z'
    · by_cases hb : b = a
      · exact hb
      · exact absurd (if_neg hb) z
end L2

namespace L2
open PySem PySem.Spec PyProof.Rows

abbrev KOf {K : PySem.W.Frag} {h : Heap} (_ : K.In h) : PySem.W.Frag := K

/-- the goal that k_head leaves (case hc), from the law's promise. F gives the function object fd (K's own) once, then the promise over every base -/
theorem walk_of {l : PySem.W.OpenLaw} {n k : Nat} {q : Program} {loose : List Str} {XP : (Str → Option Value) → Heap → Prop} {YP : World → Heap → Prop} {d : DefRec} {K : Params → PySem.W.Frag} {CX : World → CXT} {sp : World → Sp} {x : Str}
    (hn : l.most = some n) (hn2 : n ≤ sizeLine) (hdf : d.params.defaults = []) (hr : Room k callerA)
    (hY : ∀ (w : World) (h : Heap), YP w h → (K w.params).In h)
    (F : ∀ (w : World) (mg : Str → Option Value) (fa : Addr) (h : Heap), (K w.params).In h → h.Ns mainGlobals mg → mg d.name = some (.ref fa) →
      ∃ fd : FuncData, (∀ (s : Shared) (u : Value), BindsTo s fd ⟨[u], []⟩ [(x, u)]) ∧
        ∀ base : Heap, (K w.params).In base → base.Ns mainGlobals mg → FnOk l.prog w (K w.params) mg base (CX w) k fa fd [x] (sp w))
    (hsp : ∀ (w : World) (H : Hp) (a : Addr) (ns : List Int), ns.length ≤ n → Only H → SqL (K w.params) H a (ns.map V.int) → sp w [.ref a] H (fun v _ => v = .bl true) fun _ _ _ => False)
    (hCX : ∀ (w : World) (H : Hp) (s : Shared) (e : Value) (s' : Shared), CX w [] H s (fun _ _ _ => False) e s' → False) :
    PySem.W.WalkO q loose XP YP l.row.toRowW d [] (fun f vs => PySem.call f vs) := by
  refine Att.attach_call hn hdf fun w s₀ s₁ mg mb fa o pm cd doc a vs ns G Y ho hd hcd hmg hobj hints hlen hg => ?_
  have KX := hY w _ Y
  obtain ⟨fd, hb, hF⟩ := F w mg fa _ KX G.T.g hmg
  exact law_call KX G.T.g G.T.b G.T.builtins G.T.nolimit hg hobj hints (Nat.le_trans hlen hn2) hr hF hb (fun H hO hS => hsp w H a ns hlen hO hS) fun H e s' => hCX w H s₁ e s'
/-- the same where the promise hangs on the written part alone: (sp := My.sp_law), no hole under a binder -/
theorem walk_ofK {l : PySem.W.OpenLaw} {n k : Nat} {q : Program} {loose : List Str} {XP : (Str → Option Value) → Heap → Prop} {YP : World → Heap → Prop} {d : DefRec} {K : Params → PySem.W.Frag} {CX : CXT} {sp : PySem.W.Frag → Sp} {x : Str}
    (hn : l.most = some n) (hn2 : n ≤ sizeLine) (hdf : d.params.defaults = []) (hr : Room k callerA)
    (hY : ∀ (w : World) (h : Heap), YP w h → (K w.params).In h)
    (F : ∀ (w : World) (mg : Str → Option Value) (fa : Addr) (h : Heap), (K w.params).In h → h.Ns mainGlobals mg → mg d.name = some (.ref fa) →
      ∃ fd : FuncData, (∀ (s : Shared) (u : Value), BindsTo s fd ⟨[u], []⟩ [(x, u)]) ∧
        ∀ base : Heap, (K w.params).In base → base.Ns mainGlobals mg → FnOk l.prog w (K w.params) mg base CX k fa fd [x] (sp (K w.params)))
    (hsp : ∀ (K : PySem.W.Frag) (H : Hp) (a : Addr) (ns : List Int), ns.length ≤ n → Only H → SqL K H a (ns.map V.int) → sp K [.ref a] H (fun v _ => v = .bl true) fun _ _ _ => False)
    (hCX : ∀ (H : Hp) (s : Shared) (e : Value) (s' : Shared), CX [] H s (fun _ _ _ => False) e s' → False) :
    PySem.W.WalkO q loose XP YP l.row.toRowW d [] (fun f vs => PySem.call f vs) :=
  walk_of (K := K) (CX := fun _ => CX) (sp := fun w => sp (K w.params)) hn hn2 hdf hr hY F (fun w H a ns h1 h2 h3 => hsp (K w.params) H a ns h1 h2 h3) fun _ H s e s' => hCX H s e s'
end L2

/- THE LAST THEOREM (shape; LID, My.* are yours):
   My.Adr: a structure of the addresses that your layer names (classes, functions); My.Txt K t: a structure (Prop) of the equations over K;
   My.txt_mk : {K} {implicit addresses ..} (e1 : nsIn K mainGlobals "law" = some (some (.ref f))) (e2 : K.lookup f = some ⟨oc, od, .func (fnOf "law" "law" params body scope dV kV doc pm an cdv ct), sl⟩) (e3 : codeIn K cdv "law" = true) .. : ∃ t, My.Txt K t

set_option maxRecDepth 100000 in
set_option maxHeartbeats 0 in
theorem PySem.Challenge.cw_LID_holds : PySem.Challenge.rw_LID.Holds := by
  w_on; o_law; k_head; (case hw => w_witness2)
  k_fill
  refine L2.walk_of (l := PySem.Challenge.rw_LID) (n := 63) (k := 40) (x := "script") (CX := fun w => ..) (sp := fun _ => My.sp_law) rfl (by decide) rfl ⟨rfl, by decide, by decide⟩ (fun w h Y => PySem.W.kIn_of Y) ?F ?S ?C
  case F =>
    intro w mg fa h KX G hmg
    have T : ∃ t, My.Txt (L2.KOf KX) t := by
      dsimp only [L2.KOf]                          -- K must stand as «<heap const> w.params» for k_is
      refine' My.txt_mk ?e1 ?e2 ?e3 ..
      (case e1 => PySem.W.k_is)                    -- in the order: a name -> its address -> its object -> its parts
      (case e2 => PySem.W.k_is)
      ..
    obtain ⟨t, T⟩ := T
    have e0 := hmg.symm.trans (PySem.W.mg_of KX G T.law)
    cases e0                                       -- fa is the law's own address
    exact ⟨_, fun s u => .of_eq rfl, fun base kb nb => My.law_fn T kb nb⟩     -- if «.of_eq rfl» comes too early: refine' ⟨_, ?b, fun base kb nb => My.law_fn T kb nb⟩; exact fun s u => .of_eq rfl
  case S => exact fun w H a ns hl hO hS => ..
  case C => exact ..
(the tactic k_is has no namespace: write k_is) -/

/-! SHORT WORDS over the layer: a def of the text, its body, what a loop and a test want. -/
namespace L2
open PySem PySem.Spec PyProof.Rows

/-! ### the text by places -/
/-- the j-th statement of a class's body -/
def inClass (s : Stmt) (j : Nat) : Stmt := match s with
  | .ClassDef _ _ _ body _ _ _ _ _ _ _ => body.getD j (.Pass ⟨0, 0, 0, 0⟩)
  | _ => .Pass ⟨0, 0, 0, 0⟩
def defArgs (s : Stmt) : Arguments := match s with
  | .FunctionDef _ a _ _ _ _ _ _ _ _ => a
  | _ => { posonlyargs := [], args := [], vararg := none, kwonlyargs := [], kw_defaults := [], kwarg := none, defaults := [] }
def defBody (s : Stmt) : List Stmt := match s with
  | .FunctionDef _ _ b _ _ _ _ _ _ _ => b
  | _ => []
def defScope (s : Stmt) : Scope := match s with
  | .FunctionDef _ _ _ _ _ _ sc _ _ _ => sc
  | _ => { kind := .function, names := [], isGenerator := false, isCoroutine := false }

/-! ### no exception leaves a def -/
abbrev CX0 : CXT := fun _ _ _ _ _ _ => False
abbrev E0 : XK := fun _ _ _ => False
theorem pass0 {X : Cx} : Passes CX0 X E0 := fun _ _ _ _ _ _ _ h => h.elim

/-! ### a def (or method) of the text as it stands behind the top -/
structure Fun (K : PySem.W.Frag) (x qual : Str) (st : Stmt) (f : Addr) (fd : FuncData) : Prop where
  ex : ∃ (oc : Value) (od : Option Addr) (kV doc pm : Value) (an : Option Addr) (cdv ct : Value) (osl : Array (Option Value)),
    fd = PySem.W.fnOf x qual (defArgs st) (defBody st) (defScope st) .none kV doc pm an cdv ct ∧ K.lookup f = some ⟨oc, od, .func fd, osl⟩ ∧ PySem.W.codeIn K cdv qual = true
  kp : PySem.W.keepIn K (.ref f) = true
section
variable {P : Program} {w : World} {K : PySem.W.Frag} {mg : Str → Option Value} {base : Heap}
/-- THE RULE for a def: its body as a term of rules, and the reading of that term -/
theorem Fun.ok {x qual : Str} {st : Stmt} {f : Addr} {fd : FuncData} {N ps : List Str} {k : Nat} {sp : Sp} (F : Fun K x qual st f fd) (S : FnScope N ps (defScope st)) (len : ∀ vs H Q E, sp vs H Q E → vs.length = ps.length)
    (hbody : ∀ (cdv : Value) (A : Around) (outer : List Env) (s : Shared) (H : Hp) (vs : List V) (Q : VK) (E : XK), Room k (A.deeper (envOfC qual (defScope st) s.heap.objs.size f cdv)) → sp vs H Q E →
      ∃ t, PSs (cxOf CX0 P w K mg base N qual (defScope st) f cdv A outer s H E).nox (defBody st) t ∧ t { nx := fun _ H' => Q .non H', rt := Q } (start N vs) H) : FnOk P w K mg base CX0 (k + 1) f fd ps sp := by
  obtain ⟨oc, od, kV, doc, pm, an, cdv, ct, osl, rfl, lk, hcd⟩ := F.ex
  refine fn_of lk hcd S len fun A outer s H vs Q E hr hsp => ?_
  obtain ⟨t, h, q⟩ := hbody cdv A outer s H vs Q E hr hsp
  exact ⟨t, h.nox, q⟩
/-- how its arguments bind (no defaults): h is «fun _ _ _ _ _ _ us hl => match us, hl with | [_, _], _ => rfl», one _ a parameter -/
theorem Fun.binds {x qual : Str} {st : Stmt} {f : Addr} {fd : FuncData} {ps : List Str} (F : Fun K x qual st f fd)
    (h : ∀ (kV doc pm : Value) (an : Option Addr) (cdv ct : Value) (us : List Value), us.length = ps.length → bindArgs (PySem.W.fnOf x qual (defArgs st) (defBody st) (defScope st) .none kV doc pm an cdv ct) ⟨us, []⟩ = pure (ps.zip us)) : Binds K fd ps [] := by
  obtain ⟨oc, od, kV, doc, pm, an, cdv, ct, osl, rfl, lk, hcd⟩ := F.ex
  exact .all (h kV doc pm an cdv ct)
theorem fun_mk {x qual : Str} {st : Stmt} {f : Addr} {oc : Value} {od an : Option Addr} {osl : Array (Option Value)} {kV doc pm cdv ct : Value} (l : K.lookup f = some ⟨oc, od, .func (PySem.W.fnOf x qual (defArgs st) (defBody st) (defScope st) .none kV doc pm an cdv ct), osl⟩)
    (c : PySem.W.codeIn K cdv qual = true) (k : PySem.W.keepIn K (.ref f) = true) : Fun K x qual st f (PySem.W.fnOf x qual (defArgs st) (defBody st) (defScope st) .none kV doc pm an cdv ct) := ⟨⟨oc, od, kV, doc, pm, an, cdv, ct, osl, rfl, l, c⟩, k⟩
end
theorem hu_of {A : Around} {k : Nat} (hr : Room k A) : A.units + 1 < cLine := Nat.lt_of_le_of_lt (Nat.add_le_add_left (by decide : 1 ≤ 64) _) hr.units
theorem small1000 {n : Nat} (h : n ≤ 1000) : n < sizeLine := Nat.lt_of_le_of_lt h (by decide)

/-! ### expressions in short: the name that stands in the i-th slot -/
section
variable {X : Cx}
theorem pv (i : Nat) {x : Str} {pos : Pos} (hN : X.N[i]? = some x := by rfl) (hv : Vis X.env.scope x := by first | exact Or.inl rfl | exact Or.inr (Or.inl rfl) | exact Or.inr (Or.inr rfl)) (hd : (x == ("__debug__" : Str)) = false := by decide)
    (hcd : (x == ("__classdict__" : Str)) = false := by decide) : PE X (.Name x pos) (tVar i) := pe_var hN hv hd hcd
end

/-! ### tests -/
theorem iteF {A B : Prop} (h : B) : if false = true then A else B := by
  rw [if_neg Bool.false_ne_true]
  exact h
theorem iteT {A B : Prop} (h : A) : if true = true then A else B := by
  rw [if_pos rfl]
  exact h
theorem ite2 {c A B : Prop} [Decidable c] (h1 : c → A) (h2 : ¬ c → B) : if c then A else B := by
  by_cases h : c
  · rw [if_pos h]
    exact h1 h
  · rw [if_neg h]
    exact h2 h
theorem iteNS {c A B : Prop} [Decidable c] (hc : c) (h : B) : if (!decide c) = true then A else B := by
  rw [decide_eq_true hc]
  exact iteF h

/-! ### heaps -/
/-- all that was tracked is as it was -/
def Same (H H' : Hp) : Prop := ∀ b o, H b = some o → H' b = some o
theorem Same.refl (H : Hp) : Same H H := fun _ _ h => h
theorem Same.trans {H H1 H2 : Hp} (a : Same H H1) (b : Same H1 H2) : Same H H2 := fun c o h => b c o (a c o h)
theorem Same.free {H H' : Hp} (e : Same H H') {l : Addr} (h : H' l = Option.none) : H l = Option.none := by
  cases q : H l with
  | none => rfl
  | some o =>
    rw [e l o q] at h
    cases h
theorem Same.seq {K : PySem.W.Frag} {H H' : Hp} {a : Addr} {xs : List V} (e : Same H H') (h : SqL K H a xs) : SqL K H' a xs := by
  rcases h with (h | ⟨o, h⟩) | h
  · exact .inl (.inl (e _ _ h))
  · exact .inl (.inr ⟨o, e _ _ h⟩)
  · exact .inr h

end L2

set_option maxHeartbeats 4000000
namespace L2
open PySem PySem.Spec PyProof.Rows
section
theorem closure_go {env : Env} : ∀ (names : List (Str × NameKind)) (cs : List (Str × Addr)), (∀ x, (x, NameKind.free) ∈ names → ∃ c, env.cells.lookup x = some c) → (∀ x c, cs.lookup x = some c → env.cells.lookup x = some c) →
    ∃ cl, (forIn names cs fun (x : Str × NameKind) (r : List (Str × Addr)) => (if (x.2 == NameKind.free) = true then do let a ← cellOf env x.1; pure (ForInStep.yield ((x.1, a) :: r)) else pure (ForInStep.yield r) : Sem (ForInStep (List (Str × Addr))))) = (pure cl : Sem _) ∧
      (∀ x c, cl.lookup x = some c → env.cells.lookup x = some c) ∧ (∀ x, ((x, NameKind.free) ∈ names ∨ ∃ c, cs.lookup x = some c) → ∃ c, cl.lookup x = some c) := by
  intro names
  induction names with
  | nil =>
    intro cs _ h2
    exact ⟨cs, rfl, h2, fun x hx => hx.elim (fun z => absurd z (by simp)) fun z => z⟩
  | cons p r ih =>
    intro cs h1 h2
    obtain ⟨n, k⟩ := p
    by_cases hk : k = NameKind.free
    · subst hk
      obtain ⟨c, hc⟩ := h1 n List.mem_cons_self
      have hcell : cellOf env n = pure c := by simp only [cellOf, hc]
      obtain ⟨cl, e, a, b⟩ := ih ((n, c) :: cs) (fun x hx => h1 x (List.mem_cons_of_mem _ hx)) (fun x c' hx => by
        rw [List.lookup_cons] at hx
        cases hb : x == n with
        | true =>
          rw [hb] at hx
          have hx' : some c = some c' := hx
          cases hx'
          have : x = n := by simpa using hb
          rw [this]; exact hc
        | false => rw [hb] at hx; exact h2 x c' hx)
      refine ⟨cl, ?_, a, fun x hx => b x ?_⟩
      · rw [List.forIn_cons]
        simp only [beq_self_eq_true, if_true, hcell, pure_bind]
        exact e
      · by_cases hxn : x = n
        · subst hxn
          exact .inr ⟨c, by simp [List.lookup_cons]⟩
        · rcases hx with hx | ⟨c', hx⟩
          · rcases List.mem_cons.mp hx with hx | hx
            · cases hx; exact absurd rfl hxn
            · exact .inl hx
          · refine .inr ⟨c', ?_⟩
            have : (x == n) = false := by simpa using hxn
            rw [List.lookup_cons, this]
            exact hx
    · have hk' : (k == NameKind.free) = false := by simpa using hk
      obtain ⟨cl, e, a, b⟩ := ih cs (fun x hx => h1 x (List.mem_cons_of_mem _ hx)) h2
      refine ⟨cl, ?_, a, fun x hx => b x ?_⟩
      · rw [List.forIn_cons]
        simp only [hk', Bool.false_eq_true, if_false, pure_bind]
        exact e
      · rcases hx with hx | hx
        · rcases List.mem_cons.mp hx with hx | hx
          · cases hx; exact absurd rfl hk
          · exact .inl hx
        · exact .inr hx
theorem closure_ok {scope : Scope} {env : Env} (h : ∀ x, (x, NameKind.free) ∈ scope.names → ∃ c, env.cells.lookup x = some c) :
    ∃ cl, closureFor scope env = pure cl ∧ (∀ x c, cl.lookup x = some c → env.cells.lookup x = some c) ∧ (∀ x, (x, NameKind.free) ∈ scope.names → ∃ c, cl.lookup x = some c) := by
  obtain ⟨cl, e, a, b⟩ := closure_go scope.names [] h (fun x c hx => by simp at hx)
  refine ⟨cl, ?_, a, fun x hx => b x (.inl hx)⟩
  simp only [closureFor]
  rw [e, pure_bind]

variable {prog : Program} {w : World} {A : Around} {E : Value → Shared → Prop} {R : Result → Shared → Prop} {s : Shared}
/-- a block's loop, by an invariant with a measure -/
theorem compLoop_any {elt target iter : Expr} {ifs : List Expr} {scope : Scope} {pos : Pos} {it acc : Value} {env : Env} (I : Nat → Shared → Prop)
    (turn : ∀ n s, I n s → wpAny (model prog w) A (pyNext it) (fun r s₁ => match r with
      | none => R (.ok .next) s₁
      | some v => wpAny (model prog w) A (letOwnedTupleGo target it v) (fun _ s₁' => wpAny (model prog w) A (assign target env v) (fun _ s₂ =>
          wpAny (model prog w) A (forIn ifs true fun c r => if r = true then do let ok ← isTrue c env (eval c env); pure (ForInStep.yield ok) else pure (ForInStep.yield r)) (fun ok s₃ =>
            if ok = true then wpAny (model prog w) A (eval elt env) (fun x s₄ =>
              wpAny (model prog w) A (call (.builtin "list.append") [acc, x]) (fun _ s₅ => ∃ m, m < n ∧ I m s₅) (fun _ _ => False) s₄) (fun _ _ => False) s₃
            else ∃ m, m < n ∧ I m s₃) (fun _ _ => False) s₂) (fun _ _ => False) s₁') (fun _ _ => False) s₁) (fun _ _ => False) s)
    (n : Nat) (h : I n s) :
    codeAny (model prog w) A (.compLoop (.ListComp elt [⟨target, iter, ifs, 0⟩] scope pos) 0 it acc env) R s := by
  refine codeAny_loop rfl I (fun n s hI => ?_) n h
  show wpAny _ A ((compTurn (.ListComp elt [⟨target, iter, ifs, 0⟩] scope pos) 0 it acc env).onRaise (fun x => do noteFrame x env; theTreesLotGoes x)) _ _ s
  refine wpAny_noted ?_
  rw [compTurn_list]
  refine wpAny_bind (wpAny_standAt (wpAny_bind (wpAny_mono (turn n s hI) (fun r s₁ h₁ => ?_) fun _ _ h' => h'.elim)))
  cases r with
  | none => exact wpAny_pure h₁
  | some v =>
    refine wpAny_bind (wpAny_mono h₁ (fun _ s₁' h₁' => ?_) fun _ _ h' => h'.elim)
    refine wpAny_bind (wpAny_mono h₁' (fun _ s₂ h₂ => wpAny_bind (wpAny_mono h₂ (fun ok s₃ h₃ => ?_) fun _ _ h' => h'.elim)) fun _ _ h' => h'.elim)
    cases ok with
    | false => exact wpAny_pure ⟨rfl, h₃⟩
    | true =>
      exact wpAny_bind (wpAny_bind (wpAny_mono h₃ (fun x s₄ h₄ => wpAny_bind (wpAny_mono h₄ (fun _ s₅ h₅ => wpAny_pure (wpAny_pure ⟨rfl, h₅⟩)) fun _ _ h' => h'.elim)) fun _ _ h' => h'.elim))

end

/-! ### a list comprehension -/
/-- the context of a comprehension's block -/
def compCx (X : Cx) (sc : Scope) (N' : List Str) (cl : List (Str × Addr)) (C : Addr) (s : Shared) (H : Hp) (ex : List Addr) : Cx where
  prog := X.prog
  w := X.w
  K := X.K
  mg := X.mg
  base := X.base
  A := X.A
  N := N'
  s₀ := s
  H₀ := H
  env := compEnvC sc cl C X.env
  outer := X.stack
  stack := X.stack
  ex := ex
  fn := fun _ => false
  calm := true
  pn := []
  xe := fun _ _ => False
/-- the names of a block at its start: what it closes over (a place of the names around), or nothing yet -/
def liftSt (js : List (Option Nat)) (σ : St) : St := js.map fun o => match o with
  | some i => (σ[i]?).getD none
  | none => none
def isCF (o : Option NameKind) : Bool := match o with
  | some .cell => true
  | some .free => true
  | _ => false
theorem isCF_of {o : Option NameKind} (h : isCF o = true) : o = some .cell ∨ o = some .free := by
  unfold isCF at h
  split at h
  · exact .inl rfl
  · exact .inr rfl
  · cases h
def isFree (o : Option NameKind) : Bool := match o with
  | some .free => true
  | _ => false
theorem isFree_of {o : Option NameKind} (h : isFree o = true) : o = some .free := by
  unfold isFree at h
  split at h
  · rfl
  · cases h
def isLoc (o : Option NameKind) : Bool := match o with
  | some .local => true
  | _ => false
theorem isLoc_of {o : Option NameKind} (h : isLoc o = true) : o = some .local := by
  unfold isLoc at h
  split at h
  · rfl
  · cases h
def isFun (k : ScopeKind) : Bool := match k with
  | .function => true
  | _ => false
theorem isFun_of {k : ScopeKind} (h : isFun k = true) : k = .function := by
  unfold isFun at h
  split at h
  · rfl
  · cases h
def nmB (sc esc : Scope) (p : Str × NameKind) : Bool := match p.2 with
  | .cell => false
  | .free => isCF (esc.names.lookup p.1)
  | .local => isLoc (sc.names.lookup p.1)
  | _ => true
def eqS (x : Option Str) (y : Str) : Bool := match x with
  | some z => z == y
  | none => false
theorem eqS_of {x : Option Str} {y : Str} (h : eqS x y = true) : x = some y := by
  unfold eqS at h
  split at h
  · exact congrArg some (by simpa using h)
  · cases h
def capB (sc esc : Scope) (N : List Str) : List Str → List (Option Nat) → Bool
  | [], [] => true
  | x :: xs, some j :: js => isFree (sc.names.lookup x) && eqS (N[j]?) x && isCF (esc.names.lookup x) && capB sc esc N xs js
  | _ :: xs, none :: js => capB sc esc N xs js
  | _, _ => false
/-- what the text must have, to be looked at by computation -/
def compB (sc esc : Scope) (N N' : List Str) (js : List (Option Nat)) : Bool := isFun sc.kind && sc.names.all (nmB sc esc) && capB sc esc N N' js
theorem capB_len {sc esc : Scope} {N : List Str} : ∀ {N' : List Str} {js : List (Option Nat)}, capB sc esc N N' js = true → js.length = N'.length
  | [], [], _ => rfl
  | x :: xs, some j :: js, h => by
    unfold capB at h
    rw [Bool.and_eq_true] at h
    rw [List.length_cons, List.length_cons, capB_len h.2]
  | x :: xs, none :: js, h => by
    unfold capB at h
    rw [List.length_cons, List.length_cons, capB_len h]
  | [], some _ :: _, h => by unfold capB at h; cases h
  | [], none :: _, h => by unfold capB at h; cases h
  | _ :: _, [], h => by unfold capB at h; cases h
theorem capB_at {sc esc : Scope} {N : List Str} : ∀ {N' : List Str} {js : List (Option Nat)}, capB sc esc N N' js = true → ∀ {k : Nat} {x : Str} {j : Nat}, N'[k]? = some x → js[k]? = some (some j) →
    sc.names.lookup x = some .free ∧ N[j]? = some x ∧ (esc.names.lookup x = some .cell ∨ esc.names.lookup x = some .free)
  | [], _, _, k, x, j, h1, _ => by simp at h1
  | _ :: _, [], h, _, _, _, _, _ => by unfold capB at h; cases h
  | y :: ys, some i :: js, h, k, x, j, h1, h2 => by
    unfold capB at h
    rw [Bool.and_eq_true, Bool.and_eq_true, Bool.and_eq_true] at h
    cases k with
    | zero =>
      simp at h1 h2
      subst h1 h2
      exact ⟨isFree_of h.1.1.1, eqS_of h.1.1.2, isCF_of h.1.2⟩
    | succ k => exact capB_at h.2 (k := k) (by simpa using h1) (by simpa using h2)
  | y :: ys, none :: js, h, k, x, j, h1, h2 => by
    unfold capB at h
    cases k with
    | zero => simp at h2
    | succ k => exact capB_at h (k := k) (by simpa using h1) (by simpa using h2)
theorem liftSt_at {js : List (Option Nat)} {σ : St} {k : Nat} {v : V} (h : (liftSt js σ)[k]? = some (some v)) : ∃ j, js[k]? = some (some j) ∧ σ[j]? = some (some v) := by
  unfold liftSt at h
  rw [List.getElem?_map] at h
  cases e : js[k]? with
  | none => rw [e] at h; cases h
  | some o =>
    rw [e] at h
    cases o with
    | none => cases h
    | some j =>
      refine ⟨j, rfl, ?_⟩
      have h' : some ((σ[j]?).getD none) = some (some v) := h
      have h2 := Option.some.inj h'
      cases q : σ[j]? with
      | none => rw [q] at h2; cases h2
      | some w => rw [q] at h2; exact congrArg some h2
theorem lookup_relabel_free {env : Env} : ∀ {names : List (Str × NameKind)} {x : Str}, names.lookup x = some .free →
    (names.map fun (n, k) => if (k == NameKind.free && env.scope.kind == .function && env.kindOf n == some .cell) then (n, NameKind.cell) else (n, k)).lookup x = some .cell ∨
    (names.map fun (n, k) => if (k == NameKind.free && env.scope.kind == .function && env.kindOf n == some .cell) then (n, NameKind.cell) else (n, k)).lookup x = some .free
  | [], _, h => by simp at h
  | (n, k) :: r, x, h => by
    have ih := @lookup_relabel_free env r x
    show List.lookup x ((if (k == NameKind.free && env.scope.kind == .function && env.kindOf n == some .cell) = true then (n, NameKind.cell) else (n, k)) :: _) = _ ∨ List.lookup x ((if (k == NameKind.free && env.scope.kind == .function && env.kindOf n == some .cell) = true then (n, NameKind.cell) else (n, k)) :: _) = _
    by_cases hc : (k == NameKind.free && env.scope.kind == .function && env.kindOf n == some .cell) = true
    · rw [if_pos hc]
      cases hx : x == n with
      | true => exact .inl (by simp only [List.lookup_cons, hx])
      | false =>
        simp only [List.lookup_cons, hx] at h ⊢
        exact ih h
    · rw [if_neg hc]
      cases hx : x == n with
      | true =>
        simp only [List.lookup_cons, hx] at h ⊢
        exact .inr h
      | false =>
        simp only [List.lookup_cons, hx] at h ⊢
        exact ih h
theorem relabel_cf {env : Env} {sc : Scope} (hcell : ∀ y ∈ sc.names, y.2 ≠ .cell) {x : Str} (h : (relabel sc env).names.lookup x = some .cell ∨ (relabel sc env).names.lookup x = some .free) : (x, NameKind.free) ∈ sc.names := by
  have hm : (x, NameKind.cell) ∈ (relabel sc env).names ∨ (x, NameKind.free) ∈ (relabel sc env).names := h.elim (fun z => .inl (PySem.mem_of_lookup z)) fun z => .inr (PySem.mem_of_lookup z)
  have go : ∀ k : NameKind, (k = .cell ∨ k = .free) → (x, k) ∈ (relabel sc env).names → (x, NameKind.free) ∈ sc.names := by
    intro k hk hmem
    unfold relabel at hmem
    obtain ⟨⟨n, k0⟩, hn, e⟩ := List.mem_map.mp hmem
    by_cases hc : (k0 == NameKind.free && env.scope.kind == .function && env.kindOf n == some .cell) = true
    · have e' : (n, NameKind.cell) = (x, k) := by
        have := e
        simp only [hc, if_true] at this
        exact this
      have hk0 : k0 = .free := by
        rw [Bool.and_eq_true, Bool.and_eq_true] at hc
        simpa using hc.1.1
      cases e'
      subst hk0
      exact hn
    · have e' : (n, k0) = (x, k) := by
        have := e
        simp only [hc, if_false] at this
        exact this
      cases e'
      rcases hk with rfl | rfl
      · exact absurd rfl (hcell _ hn)
      · exact hn
  exact hm.elim (go _ (.inl rfl)) (go _ (.inr rfl))

section
variable {X : Cx} {pins : List (Addr × Obj)} {σ : St} {H : Hp} {s : Shared}
structure CompOk (X : Cx) (sc : Scope) (N' : List Str) (js : List (Option Nat)) : Prop where
  kind : sc.kind = .function
  cell : ∀ y ∈ sc.names, y.2 ≠ .cell
  free : ∀ x, (x, NameKind.free) ∈ sc.names → X.env.scope.names.lookup x = some .cell ∨ X.env.scope.names.lookup x = some .free
  names : ∀ y ∈ sc.names, y.2 = .local → sc.names.lookup y.1 = some .local
  cap : capB sc X.env.scope X.N N' js = true
theorem CompOk.of {sc : Scope} {N' : List Str} {js : List (Option Nat)} (h : compB sc X.env.scope X.N N' js = true) : CompOk X sc N' js := by
  unfold compB at h
  rw [Bool.and_eq_true, Bool.and_eq_true, List.all_eq_true] at h
  obtain ⟨⟨h1, h2⟩, h3⟩ := h
  refine ⟨isFun_of h1, fun y hy e => ?_, fun x hx => ?_, fun y hy e => ?_, h3⟩
  · have q := h2 y hy
    unfold nmB at q
    rw [e] at q
    cases q
  · have q := h2 _ hx
    exact isCF_of q
  · have q := h2 y hy
    unfold nmB at q
    rw [e] at q
    exact isLoc_of q
theorem inv_comp {sc : Scope} {N' : List Str} {js : List (Option Nat)} {cl : List (Str × Addr)} {fp : List Addr} {h₁ : Heap} {tk : Nat} (I : Inv X pins σ H s) (hc : X.calm = true) (O : CompOk X sc N' js)
    (hcl : ∀ x c, cl.lookup x = some c → X.env.cells.lookup x = some c) (hcl2 : ∀ x, (x, NameKind.free) ∈ sc.names → ∃ c, cl.lookup x = some c)
    (hf : ∀ b ∈ fp, FpOk X pins H b) (ho : ∀ b ∈ fp, ∃ o, s.heap.get? b = some o)
    (hns : h₁.Ns (s.heap.objs.size + 1) (fun _ => none)) (hk : ∀ b o, s.heap.get? b = some o → h₁.get? b = some o) (hD : ∃ n, h₁.get? s.heap.objs.size = some { cls := .type "list", data := .seq #[] n }) :
    Inv (compCx X sc N' cl (s.heap.objs.size + 1) s H fp) [] (liftSt js σ) (upd H s.heap.objs.size (.lst [])) { s with heap := h₁, toks := tk } := by
  have fr : ∀ a, s.heap.objs.size ≤ a → H a = none := fun a ha => I.hok.fresh ha
  have cellLt : ∀ x c, cl.lookup x = some c → c < s.heap.objs.size := fun x c e => by
    obtain ⟨v, q⟩ := I.cell x c (hcl x c e)
    exact q.lt
  have ok : (compCx X sc N' cl (s.heap.objs.size + 1) s H fp).Ok := by
    refine ⟨I.ok.mod, O.kind, I.ok.glob, I.ok.blt, Nat.le_succ _, fun x y c h1 h2 => I.ok.inj x y c (hcl x c h1) (hcl y c h2), fun x hx => ?_, fun x c hx => ?_, fun _ => I.ok.hd hc, I.ok.frames, .inl rfl, fun b hb => ⟨?_, fun x c e => ?_⟩, I.bs, Nat.le_trans I.ok.bsz I.sz, fun b o e hb => ?_, fun b hb hb2 => ?_, I.stack, I.stkFree⟩
    · exact hcl2 x (relabel_cf (env := X.env) O.cell hx)
    · exact absurd (show false = true from hx) Bool.false_ne_true
    · obtain ⟨o, e⟩ := ho b hb
      exact Nat.ne_of_lt (Nat.lt_succ_of_lt (Heap.lt_size e))
    · exact (hf b hb).2.2.2.2.1 x c (hcl x c e)
    · rcases (hf b hb).2.2.2.1 with z | z
      · exact I.ok.noex b o e z
      · have h1 : b < X.base.objs.size := Heap.lt_size e
        exact absurd (Nat.lt_of_lt_of_le h1 (Nat.le_trans I.ok.bsz z)) (Nat.lt_irrefl _)
    · rcases List.mem_cons.mp (I.stkSub b hb2) with z | z
      · exact (hf b hb).2.1 z
      · exact (hf b hb).2.2.1 z
  refine ⟨ok, rfl, I.bare, ?_, ⟨_, hns, fun i x v h1 h2 h3 => ?_⟩, fun x c e => ?_, ?_, fun x c e => ?_, fun p hp => absurd (show p ∈ ([] : List (Addr × Obj)) from hp) (by simp), ?_, ?_⟩
  · exact Un.laid hk (Nat.le_refl _) (fr _ (Nat.le_refl _))
  · obtain ⟨j, e1, e2⟩ := liftSt_at h2
    obtain ⟨c1, c2, c3⟩ := capB_at O.cap h1 e1
    obtain ⟨m, _, hl⟩ := I.loc
    obtain ⟨u, r, l⟩ := hl j x v c2 e2 (.inr c3)
    refine ⟨u, r, .inr ⟨lookup_relabel_free c1, ?_⟩⟩
    rcases l with ⟨l1, _⟩ | ⟨_, c, l2, l3⟩
    · have l1' : X.env.scope.names.lookup x = some .local := l1
      rcases c3 with c3 | c3 <;> (rw [l1'] at c3; cases c3)
    · obtain ⟨c', e'⟩ := hcl2 x (PySem.mem_of_lookup c1)
      have : c' = c := Option.some.inj ((hcl x c' e').symm.trans l2)
      subst this
      obtain ⟨oc, hoc, hocd⟩ := id l3
      exact ⟨c', e', oc, hk _ _ hoc, hocd⟩
  · obtain ⟨v, oc, hoc, hocd⟩ := I.cell x c (hcl x c e)
    exact ⟨v, oc, hk _ _ hoc, hocd⟩
  · show upd H s.heap.objs.size (.lst []) (s.heap.objs.size + 1) = none
    rw [upd_ne (Nat.succ_ne_self _)]
    exact fr _ (Nat.le_succ _)
  · show upd H s.heap.objs.size (.lst []) c = none
    rw [upd_ne (Nat.ne_of_lt (cellLt x c e))]
    exact I.freeC x c (hcl x c e)
  · refine I.hok.laid hk (Nat.le_refl _) ?_
    obtain ⟨n, e⟩ := hD
    exact ⟨Nat.zero_le _, [], n, .nil, e⟩
  · unfold liftSt
    show (js.map _).length = N'.length
    rw [List.length_map]
    exact capB_len O.cap
theorem Un.but {fs ex : List Addr} {H H1 : Hp} {h h1 h' : Heap} {C : Addr} (u : Un fs ex H H1 h h1) (hC : h.get? C = none) (hs : ∀ b, b ≠ C → h'.get? b = h1.get? b) : Un fs ex H H1 h h' := by
  have ne : ∀ {b : Addr} {o : Obj}, h.get? b = some o → b ≠ C := fun {b o} e z => by rw [z, hC] at e; cases e
  refine ⟨fun b o e n h1 h2 => (hs b (ne e)).trans (u.keep b o e n h1 h2), fun b o e n h1 h2 => ?_, u.free, fun b o e h1 => ?_, u.tups, u.frzs, u.tbls⟩
  · obtain ⟨sl, q⟩ := u.slot b o e n h1 h2
    exact ⟨sl, (hs b (ne e)).trans q⟩
  · obtain ⟨o', q⟩ := u.there b o e h1
    exact ⟨o', (hs b (ne e)).trans q⟩
/-- behind the block -/
theorem inv_uncomp {sc : Scope} {N' : List Str} {cl : List (Str × Addr)} {C : Addr} {fp : List Addr} {pins' : List (Addr × Obj)} {σ' : St} {H' : Hp} {s' : Shared} {h' : Heap} (I : Inv X pins σ H s) (hf : ∀ b ∈ fp, FpOk X pins H b) (hC : s.heap.objs.size ≤ C)
    (J : Inv (compCx X sc N' cl C s H fp) pins' σ' H' s') (hs : ∀ b, b ≠ C → h'.get? b = s'.heap.get? b) : Inv X pins σ H' { s' with heap := h' } := by
  have nC : s.heap.get? C = none := by
    cases e : s.heap.get? C with
    | none => rfl
    | some o => exact absurd (Heap.lt_size e) (Nat.not_lt.mpr hC)
  have hC' : H' C = none := J.free
  refine I.call' (s' := { s' with heap := h' }) (ch := fp) J.os (Un.but J.base nC hs) (fun a o e => ?_) J.bare fun b hb => ?_
  · exact (J.hok a o e).stay (fun b u hb q => (hs b (fun z => by
      rw [z] at hb
      rcases hb with z2 | z2
      · rw [← z2, hC'] at e; cases e
      · rw [hC'] at z2; cases z2)).trans q) (fun _ q => q) fun _ _ q => q
  · obtain ⟨f0, f1, f2, f3, f4, f5⟩ := hf b hb
    exact ⟨f3, f1, f4, f5⟩
end

/-- the tests of a block -/
def PIf (X : Cx) (ifs : List Expr) (t : TT) : Prop :=
  ∀ (pins : List (Addr × Obj)) (s : Shared) (σ : St) (H : Hp) (Q : Bool → Hp → Prop), Inv X pins σ H s → t σ H Q →
    wpAny (model X.prog X.w) X.A (forIn ifs true fun c r => if r = true then do let ok ← isTrue c X.env (eval c X.env); pure (ForInStep.yield ok) else pure (ForInStep.yield r)) (TP X pins σ Q) X.xe s
def tYes : TT := fun _ H Q => Q true H
theorem pif_nil {X : Cx} : PIf X [] tYes := fun pins s σ H Q I h => wpAny_tests_nil ⟨H, I, h⟩
theorem pif_one {X : Cx} {c : Expr} {t : TT} (h : PT X c t) : PIf X [c] t := fun pins s σ H Q I q => wpAny_tests_one (h pins s σ H Q I q)

/-- what a comprehension wants: the block's parts, and W by the turn and a measure, over the block's names and the heap; the list made stands at l -/
def tComp (X : Cx) (sc : Scope) (N' : List Str) (js : List (Option Nat)) (tg elt : Expr) (ifs : List Expr) (wi : TI) : TE := fun σ H Q => wi σ H fun J H1 => ∀ l, H1 l = none → X.K.lookup l = none → ∀ cl C s H0 fp, ∃ (g : TG) (tt : TT) (te : TE) (W : Nat → Nat → St → Hp → Prop),
  PG (compCx X sc N' cl C s H0 fp) tg g ∧ PIf (compCx X sc N' cl C s H0 fp) ifs tt ∧ PE (compCx X sc N' cl C s H0 fp) elt te ∧ (∃ m, W 0 m (liftSt js σ) (upd H1 l (.lst []))) ∧ ∀ i m σ' H', W i m σ' H' →
  (J.stop i H' ∧ Q (.ref l) H') ∨ (J.go i H' ∧ ∀ x H2, J.yld i H' x H2 → g x σ' H2 fun σ3 H3 => tt σ3 H3 fun b H4 => if b = true then te σ3 H4 fun y H5 => ∃ ys, H5 l = some (.lst ys) ∧ ys.length < sizeLine ∧ ∃ m', m' < m ∧ W (i + 1) m' σ3 (upd H5 l (.lst (ys ++ [y]))) else ∃ m', m' < m ∧ W (i + 1) m' σ3 H4)
section
variable {X : Cx} {tg elt iter : Expr} {ifs : List Expr} {sc : Scope} {pos : Pos} {N' : List Str} {js : List (Option Nat)} {wi : TI} {g : TG} {tt : TT} {te : TE}
theorem comp_loop {pins : List (Addr × Obj)} {σ : St} {H : Hp} {s : Shared} {cl : List (Str × Addr)} {C l it : Addr} {fp : List Addr} {tn : Nat → Heap → Prop} {J : It} {s3 : Shared} {Q : VK} {R : Result → Shared → Prop} {W : Nat → Nat → St → Hp → Prop} {m0 : Nat} {σ0 : St} {H0 : Hp}
    (I : Inv X pins σ H s) (hf : ∀ b ∈ fp, FpOk X pins H b) (hlt : ∀ b ∈ fp, b < s.heap.objs.size) (hC : s.heap.objs.size ≤ C)
    (T : Turn X.prog X.w X.K tg J fp it tn)
    (hg : PG (compCx X sc N' cl C s H fp) tg g) (ht : PIf (compCx X sc N' cl C s H fp) ifs tt) (he : PE (compCx X sc N' cl C s H fp) elt te)
    (hW : ∀ i m σ' H', W i m σ' H' →
      (J.stop i H' ∧ Q (.ref l) H') ∨ (J.go i H' ∧ ∀ x H2, J.yld i H' x H2 → g x σ' H2 fun σ3 H3 => tt σ3 H3 fun b H4 => if b = true then te σ3 H4 fun y H5 => ∃ ys, H5 l = some (.lst ys) ∧ ys.length < sizeLine ∧ ∃ m', m' < m ∧ W (i + 1) m' σ3 (upd H5 l (.lst (ys ++ [y]))) else ∃ m', m' < m ∧ W (i + 1) m' σ3 H4))
    (hR : ∀ σ' H' s', Inv (compCx X sc N' cl C s H fp) [] σ' H' s' → Q (.ref l) H' → R (.ok .next) s')
    (I3 : Inv (compCx X sc N' cl C s H fp) [] σ0 H0 s3) (t3 : tn 0 s3.heap) (f3 : ∀ b ∈ fp, H0 b = none) (w0 : W 0 m0 σ0 H0) :
    codeAny (model X.prog X.w) X.A (.compLoop (.ListComp elt [⟨tg, iter, ifs, 0⟩] sc pos) 0 (.ref it) (.ref l) (compEnvC sc cl C X.env)) R s3 := by
  have stat : ∀ {H' : Hp}, (∀ b ∈ fp, H' b = none) → ∀ b ∈ fp, FpOk (compCx X sc N' cl C s H fp) [] H' b := fun hn b hb => by
    have q := I3.ok.exf b hb
    refine ⟨hn b hb, q.1, I3.ok.exfs b hb, .inl hb, q.2, fun p hp => absurd (show p ∈ ([] : List (Addr × Obj)) from hp) (by simp)⟩
  refine compLoop_any (fun n s' => ∃ i σ' H', Inv (compCx X sc N' cl C s H fp) [] σ' H' s' ∧ tn i s'.heap ∧ (∀ b ∈ fp, H' b = none) ∧ W i n σ' H') ?_ m0 ⟨0, σ0, H0, I3, t3, f3, w0⟩
  rintro n s4 ⟨i, σ4, H4, I4, st4, fr4, w4⟩
  rcases hW i n σ4 H4 w4 with ⟨stop, qn⟩ | ⟨go, step⟩
  · refine thn (T.done (compCx X sc N' cl C s H fp) rfl rfl rfl rfl i [] s4 σ4 H4 (fun _ _ => False) I4 (stat fr4) st4 stop) fun r s5 ⟨hr, I5⟩ => ?_
    subst hr
    exact hR σ4 H4 s5 I5 qn
  · refine thn (T.item (compCx X sc N' cl C s H fp) rfl rfl rfl rfl i [] s4 σ4 H4 (fun _ _ => False) I4 (stat fr4) st4 go) fun r s5 ⟨u, hr, h5⟩ => ?_
    subst hr
    refine thn h5 fun _ s6 ⟨x, H6, I6, r6, y6, st6, fr6⟩ => ?_
    have I6' := I6.pinned (stat fr6) (T.obj _ _ st6)
    refine thn (hg _ s6 σ4 H6 x u _ I6' r6 (step x H6 y6)) fun _ s7 ⟨σ7, H7, I7, q7⟩ => ?_
    have again : ∀ {σ9 : St} {H9 : Hp} {s9 : Shared} {m' : Nat}, Inv (compCx X sc N' cl C s H fp) ([] ++ pinsAt fp s6.heap) σ9 H9 s9 → m' < n → W (i + 1) m' σ9 H9 → ∃ m, m < n ∧ ∃ i σ' H', Inv (compCx X sc N' cl C s H fp) [] σ' H' s9 ∧ tn i s9.heap ∧ (∀ b ∈ fp, H' b = none) ∧ W i m σ' H' := fun {σ9 H9 s9 m'} I9 hm w9 => by
      refine ⟨m', hm, i + 1, σ9, H9, I9.unpinned, T.keep _ _ _ st6 fun b hb o e => (I9.pin (b, o) (List.mem_append_right _ (List.mem_append_right _ (mem_pinsAt hb e)))).1, fun b hb => ?_, w9⟩
      obtain ⟨o, e, d⟩ := T.obj _ _ st6 b hb
      exact (I9.pin (b, o) (List.mem_append_right _ (List.mem_append_right _ (mem_pinsAt hb e)))).2.1
    refine thn (ht _ s7 σ7 H7 _ I7 q7) fun ok s8 ⟨H8, I8, q8⟩ => ?_
    cases ok with
    | false =>
      have q8' : ∃ m', m' < n ∧ W (i + 1) m' σ7 H8 := q8
      obtain ⟨m', hm, w8⟩ := q8'
      show ∃ m, m < n ∧ _
      exact again I8 hm w8
    | true =>
      refine thn (he _ s8 σ7 H8 _ I8 q8) fun y s9 ⟨yv, H9, I9, ry, q9⟩ => ?_
      obtain ⟨ys, hl, hz, m', hm, w9⟩ := q9
      refine thn (mt_append (X := compCx X sc N' cl C s H fp) _ s9 σ7 H9 (.ref l) [yv] (.ref l) [y] (fun v H' => v = .non ∧ H' = upd H9 l (.lst (ys ++ [yv]))) I9 rfl (.cons ry .nil) ⟨l, ys, yv, rfl, rfl, hl, hz, rfl, rfl⟩) fun _ sa ⟨v, Ha, Ia, _, _, eH⟩ => ?_
      subst eH
      exact again Ia hm w9
theorem pe_comp (hc : X.calm = true) (N' : List Str) (js : List (Option Nat)) (hi : PI X tg iter wi)
    (hB : compB sc X.env.scope X.N N' js = true)
    (hs : ∀ x, foldedSetIterable iter X.env x = pure x := by intro _; rfl) :
    PE X (.ListComp elt [⟨tg, iter, ifs, 0⟩] sc pos) (tComp X sc N' js tg elt ifs wi) := by
  intro pins s σ H Q I h
  have O : CompOk X sc N' js := CompOk.of hB
  obtain ⟨cl, hclos, hcl, hcl2⟩ := closure_ok (scope := sc) (env := X.env) fun x hx => I.ok.has x (O.free x hx)
  rw [eval_ListComp]
  refine wpAny_comprehension_free (use := none) rfl hs hclos O.kind O.names (thn (hi pins s σ H _ I h) fun v s1 h1 => thn h1 fun itv s2 h2 => ?_)
  obtain ⟨it, fp, tn, J, H2, e, I2, T, st2, f2, hq⟩ := h2
  subst e
  have kfree : X.K.lookup s2.heap.objs.size = none := by
    cases q : X.K.lookup s2.heap.objs.size with
    | none => rfl
    | some o => exact absurd (Heap.lt_size (I2.kIn _ _ q)) (Nat.lt_irrefl _)
  obtain ⟨g, tt, te, W, hg, ht, he, ⟨m0, w0⟩, hW⟩ := hq s2.heap.objs.size (I2.hok.fresh (Nat.le_refl _)) kfree cl (s2.heap.objs.size + 1) s2 H2 fp
  refine wpAny_newObj_type (wpAny_newFunctionEnv O.cell (by intro y hy; simp at hy) (fun h₁ hns₁ hsb₁ => ?_) O.kind)
  dsimp only at hns₁ hsb₁ ⊢
  generalize hH2 : s2.heap.push { cls := .type "list", dict := none, data := .seq ([] : List Value).toArray } = Hh at hns₁ hsb₁ ⊢
  have hCe : Hh.objs.size = s2.heap.objs.size + 1 := by rw [← hH2, Heap.size_push]
  have hlt : ∀ b ∈ fp, b < s2.heap.objs.size := fun b hb => by
    obtain ⟨o, e, _⟩ := T.obj _ _ st2 b hb
    exact Heap.lt_size e
  have old : ∀ b o, s2.heap.get? b = some o → h₁.get? b = some o := fun b o e => hsb₁.extBut b o (by rw [hCe]; exact Nat.ne_of_lt (Nat.lt_succ_of_lt (Heap.lt_size e))) (Heap.get?_push_of_some _ (hH2 ▸ Heap.get?_push_of_some _ e))
  have hD : ∃ n, h₁.get? s2.heap.objs.size = some { cls := .type "list", data := .seq #[] n } := ⟨_, hsb₁.extBut _ _ (by rw [hCe]; exact Nat.ne_of_lt (Nat.lt_succ_self _)) (Heap.get?_push_of_some _ (hH2 ▸ Heap.get?_push_size _ rfl))⟩
  have I3 : ∀ tk, Inv (compCx X sc N' cl (s2.heap.objs.size + 1) s2 H2 fp) [] (liftSt js σ) (upd H2 s2.heap.objs.size (.lst [])) { s2 with heap := h₁, toks := tk } := fun tk =>
    inv_comp I2 hc O hcl hcl2 f2 (fun b hb => let ⟨o, e, _⟩ := T.obj _ _ st2 b hb; ⟨o, e⟩) (by rw [← hCe]; exact hns₁) old hD
  have st3 : tn 0 h₁ := T.keep _ _ _ st2 fun b hb o e => old b o e
  have fr3 : ∀ b ∈ fp, upd H2 s2.heap.objs.size (.lst []) b = none := fun b hb => by
    rw [upd_ne (Nat.ne_of_lt (hlt b hb))]
    exact (f2 b hb).1
  have loop : ∀ tk, codeAny (model X.prog X.w) X.A (.compLoop (.ListComp elt [⟨tg, iter, ifs, 0⟩] sc pos) 0 (.ref it) (.ref s2.heap.objs.size) (compEnvC sc cl (s2.heap.objs.size + 1) X.env))
      (compPost (model X.prog X.w) X.A X.xe none (EP X pins σ Q) (.ref s2.heap.objs.size) (s2.heap.objs.size + 1)) { s2 with heap := h₁, toks := tk } := fun tk => by
    refine comp_loop (W := W) (m0 := m0) (Q := Q) I2 f2 hlt (Nat.le_succ _) T hg ht he hW (fun σ' H' s' J' q' => ?_) (I3 tk) st3 fr3 w0
    obtain ⟨m, hn, _⟩ := J'.loc
    exact ⟨m, hn, fun h' hs' => ⟨.ref _, H', inv_uncomp I2 f2 (Nat.le_succ _) J' fun b hb => hs'.2 b hb, rfl, q'⟩⟩
  rw [show (newEnv sc Hh.objs.size X.env.globals cl X.env.qual none .none (some X.env) builtinsNs).locals = s2.heap.objs.size + 1 from hCe]
  show codeAny (model X.prog X.w) X.A (.compStart (.ListComp elt [⟨tg, iter, ifs, 0⟩] sc pos) 0 (.ref it) (.ref s2.heap.objs.size) (compEnvC sc cl (s2.heap.objs.size + 1) X.env)) _ _
  exact codeAny_compStart_list (loop _) (T.self _ 0 _ _ _ st3 (loop _))
end
end L2

set_option maxHeartbeats 4000000
namespace L2
open PySem PySem.Spec PyProof.Rows

/-! ### the signs of a text, walked -/
/-- the signs of a text -/
def Its (z : Str) : It := ⟨fun i _ => i < z.cps.size, fun i H x H' => H' = H ∧ ∃ c, z.cps[i]? = some c ∧ x = .str ⟨#[c]⟩, fun i _ => z.cps.size ≤ i⟩
theorem turn_str {P : Program} {w : World} {K : PySem.W.Frag} {tg : Expr} (it : Addr) (z : Str) (t : Tok) (ty : String) (hty : ty = "str_ascii_iterator" ∨ ty = "str_iterator")
    (W : ∀ A' : Around, A'.handled = none → Walks P w A' it [it] [it] z.cps.size (SignAt z) (fun i h => h.IsStrIter it ty z t i)) : Turn P w K tg (Its z) [it] it (fun i h => h.IsStrIter it ty z t i) where
  mem := by simp
  obj := fun i h st b hb => by
    have e : b = it := by simpa using hb
    subst e
    obtain ⟨o, e, c, d⟩ := st
    exact ⟨o, e, fun v z => by rw [d] at z; cases z⟩
  keep := fun i h h' st k => let ⟨o, ho, r⟩ := st; ⟨o, k it (by simp) o ho, r⟩
  item := by
    intro X hP hw hK hc i pins s σ H E I hf st hg
    subst hP hw hK
    obtain ⟨f0, f1, f2, f3, f4, f5⟩ := hf it (by simp)
    refine (W X.A (I.ok.hd hc)).item i s _ _ hg st fun v h' tk hv st' kk => ?_
    obtain ⟨c, u, hcu, rfl⟩ := hv
    have I1 : Inv X pins σ H { s with heap := h', toks := tk } := I.turned (fun b o hb e => kk b o (by simpa using hb) e) f0 f1 f3 f4 f5
    obtain ⟨o, e, cc, d⟩ := id st'
    exact ⟨_, rfl, go_of (s := { s with heap := h', toks := tk }) e cc d (by rcases hty with rfl | rfl <;> decide) ⟨.str ⟨#[c]⟩, H, I1, ⟨_, rfl⟩, ⟨rfl, c, hcu, rfl⟩, st', fun b hb => (hf b hb).1⟩⟩
  done := by
    intro X hP hw hK hc i pins s σ H E I hf st hg
    subst hP hw hK
    obtain ⟨f0, f1, f2, f3, f4, f5⟩ := hf it (by simp)
    have hx : z.cps[i]? = none := by
      have : z.cps.size ≤ i := hg
      simp [this]
    rcases hty with rfl | rfl
    · exact wpAny_pyNext_ascii_end (I.ok.hd hc) st hx fun h' eb => ⟨rfl, I.turned (t' := s.toks) (fun b o hb e => eb b o hb e) f0 f1 f3 f4 f5⟩
    · exact wpAny_pyNext_wide_end (I.ok.hd hc) st hx fun h' eb => ⟨rfl, I.turned (t' := s.toks) (fun b o hb e => eb b o hb e) f0 f1 f3 f4 f5⟩
  self := fun A i s Q E st h => by
    rcases hty with rfl | rfl
    · exact wpAny_pyIter_striter_ascii st h
    · exact wpAny_pyIter_striter_wide st h
section
variable {X : Cx} {tg : Expr}
/-- a list, a tuple or a text, walked -/
def iAny (K : PySem.W.Frag) (tl : TE) : TI := fun σ H R => tl σ H fun x H1 =>
  (∃ a, x = .ref a ∧ (∃ xs, SqL K H1 a xs) ∧ R (Itl K a) H1) ∨ (∃ a, x = .ref a ∧ (∃ xs, SqT K H1 a xs) ∧ R (Itt K a) H1) ∨ ∃ z, x = .str z ∧ R (Its z) H1
theorem pi_any {l : Expr} {tl : TE} (hl : PE X l tl) : PI X tg l (iAny X.K tl) := by
  intro pins s σ H R I h
  refine thn (hl pins s σ H _ I h) fun v s1 ⟨x, H1, I1, r1, q1⟩ => ?_
  have hne : ∀ b, b ∈ [s1.heap.objs.size] → FpOk X pins H1 b := fun b hb => by
    have e : b = s1.heap.objs.size := by simpa using hb
    subst e
    exact I1.fpOk (Nat.le_refl _) (I1.hok.fresh (Nat.le_refl _))
  rcases q1 with ⟨a, e, ⟨xs, hq⟩, q⟩ | ⟨a, e, ⟨xs, hq⟩, q⟩ | ⟨z, e, q⟩
  · subst e
    cases r1
    obtain ⟨its, rv, p, hz⟩ := I1.list hq
    refine wpAny_pyIter_list p.isList ?_
    exact ⟨s1.heap.objs.size, [s1.heap.objs.size], _, _, H1, rfl, I1.kept (t' := s1.toks) fun b o e => Heap.get?_push_of_some _ e, turn_list a _, ⟨_, Heap.get?_push_size _ rfl, rfl, rfl⟩, hne, q⟩
  · subst e
    cases r1
    obtain ⟨its, rv, p, hz⟩ := I1.tuple hq
    refine wpAny_pyIter_tuple (show s1.heap.IsTuple a its.toArray from p) ?_
    exact ⟨s1.heap.objs.size, [s1.heap.objs.size], _, _, H1, rfl, I1.kept (t' := s1.toks) fun b o e => Heap.get?_push_of_some _ e, turn_tuple a _, ⟨_, Heap.get?_push_size _ rfl, rfl, rfl⟩, hne, q⟩
  · subst e
    obtain ⟨t, rfl⟩ := r1
    cases ha : z.cps.all (· < 128)
    · refine wpAny_pyIter_wide ha ?_
      exact ⟨s1.heap.objs.size, [s1.heap.objs.size], _, _, H1, rfl, I1.kept (t' := s1.toks) fun b o e => Heap.get?_push_of_some _ e, turn_str _ z t "str_iterator" (.inr rfl) (fun A' hA => Walks.strWide hA _ z t), ⟨_, Heap.get?_push_size _ rfl, rfl, rfl⟩, hne, q⟩
    · refine wpAny_pyIter_ascii ha ?_
      exact ⟨s1.heap.objs.size, [s1.heap.objs.size], _, _, H1, rfl, I1.kept (t' := s1.toks) fun b o e => Heap.get?_push_of_some _ e, turn_str _ z t "str_ascii_iterator" (.inl rfl) (fun A' hA => Walks.strAscii hA _ z t), ⟨_, Heap.get?_push_size _ rfl, rfl, rfl⟩, hne, q⟩
end

section
variable {X : Cx}
/-! ### all -/
theorem range_all_get (bs : List Bool) : ((List.range bs.length).all fun i => (bs[i]?).getD true) = bs.all id := by
  induction bs with
  | nil => rfl
  | cons b r ih =>
    rw [List.length_cons, List.range_succ_eq_map, List.all_cons, List.all_map, List.all_cons]
    simp only [List.getElem?_cons_zero, Option.getD_some, id_eq]
    congr 1
theorem call_all (hc : X.calm = true) : CallR X (.builtin "all") (fun xs H Q => ∃ (p : Addr) (bs : List Bool), xs = [.ref p] ∧ SqL X.K H p (bs.map V.bl) ∧ Q (.bl (bs.all id)) H) := by
  intro pins s σ H xs us Q I r h
  obtain ⟨p, bs, rfl, hq, q⟩ := h
  obtain ⟨u, rfl, rx⟩ := vals1 r
  cases rx
  obtain ⟨its, r', pl, hz⟩ := I.list hq
  have hlen := r'.length
  have hl : s.heap.IsList p its.toArray := pl.isList
  have hlt : p < s.heap.objs.size := by obtain ⟨_, e, _⟩ := id hl; exact Heap.lt_size e
  refine call_all_walk (wpAny_pyIter_list hl ?_)
  refine ⟨s.heap.objs.size, [s.heap.objs.size, p], [s.heap.objs.size], its.toArray.size, _, _, fun i => (bs[i]?).getD true, rfl, Walks.list (A := X.A.in1) (I.ok.hd hc) _ p (Nat.ne_of_lt hlt) its.toArray,
    ⟨⟨_, Heap.get?_push_size _ rfl, rfl, rfl⟩, hl.push _⟩, fun i v s' Q' E' hP hQ => ?_, fun h' tk hk => ?_⟩
  · have hv : its[i]? = some v := by simpa using hP
    have hb : ∃ b, bs[i]? = some b := by
      have hi : i < its.length := (List.getElem?_eq_some_iff.mp hv).1
      rw [List.length_map] at hlen
      exact ⟨bs[i]'(by omega), List.getElem?_eq_getElem (by omega)⟩
    obtain ⟨b, eb⟩ := hb
    obtain ⟨u, eu, ru⟩ := r'.get (i := i) (x := .bl b) (by rw [List.getElem?_map, eb]; rfl)
    rw [hv] at eu
    cases eu
    cases ru
    simp only [eb, Option.getD_some] at hQ
    exact wpAny_truthy_bool hQ
  · have e : ((List.range its.toArray.size).all fun i => (bs[i]?).getD true) = bs.all id := by
      rw [List.size_toArray, ← hlen, List.length_map]; exact range_all_get bs
    rw [e]
    exact ⟨.bl _, H, I.kept (t' := tk) fun b x e => hk b x (fun hm => by rw [List.mem_singleton.mp hm] at e; exact Nat.lt_irrefl _ (Heap.lt_size e)) (Heap.get?_push_of_some _ e), rfl, q⟩

/-! ### isinstance(x, T), T a built-in type -/
theorem call_isinst : CallR X (.builtin "isinstance") (fun xs H Q => ∃ x T t b, xs = [x, .ty T] ∧ TyOf X.K H x t ∧ PySem.W.kitOne X.K t (.type T) = some b ∧ Q (.bl b) H) := by
  intro pins s σ H xs us Q I r h
  obtain ⟨x, T, t, b, rfl, ty, e, q⟩ := h
  obtain ⟨u, w', rfl, rx, rt⟩ := vals2 r
  cases rt
  exact isinst_ok I rx ty e fun tk => ⟨.bl b, H, I.tok _, rfl, q⟩

/-! ### texts -/
theorem op_le_str : OpR X (compareOp .LtE) (fun x y H Q => ∃ i j, x = .str i ∧ y = .str j ∧ Q (.bl (!(j.cps.toList < i.cps.toList))) H) := by
  intro pins s σ H x y v u Q I rx ry h
  obtain ⟨i, j, rfl, rfl, q⟩ := h
  obtain ⟨t, rfl⟩ := rx
  obtain ⟨t', rfl⟩ := ry
  exact PySem.P.le_str ⟨.bl _, H, I, rfl, q⟩
theorem strsAre_of {ys : List Str} : ∀ {us : List Value}, Vals (ys.map V.str) us → StrsAre us ys := by
  induction ys with
  | nil => intro us r; rw [List.map_nil] at r; cases r; exact .nil
  | cons n ns ih =>
    intro us r
    rw [List.map_cons] at r
    cases r with
    | cons r1 r2 =>
      obtain ⟨t, e⟩ := r1
      subst e
      exact .cons n t (ih r2)
/-- sep.join(list of texts) -/
theorem mt_join : MtR X "str.join" (fun x xs H Q => ∃ (z : Str) (p : Addr) (ys : List Str), x = .str z ∧ xs = [.ref p] ∧ SqL X.K H p (ys.map V.str) ∧ (ys.map (·.length)).sum + ys.length * z.length ≤ 16777216 ∧ Q (.str (Txt.join z ys)) H) := by
  intro pins s σ H x xs v us Q I rx rv h
  obtain ⟨z, p, ys, rfl, rfl, hq, hz, q⟩ := h
  obtain ⟨t, rfl⟩ := rx
  obtain ⟨u, rfl, ru⟩ := vals1 rv
  cases ru
  obtain ⟨its, r', pl, _⟩ := I.list hq
  exact join_list pl.isList (strsAre_of r') hz fun t' k => ⟨.str _, H, I.tok _, ⟨_, rfl⟩, q⟩
/-- x[lo:hi] of a text -/
theorem sl_str : SlR X (fun x lo hi H Q => ∃ z, x = .str z ∧ z.length ≤ sizeLine ∧ Q (.str (Txt.slice z lo hi)) H) := by
  intro pins s σ H x v vl vu lo hi sl Q I rx hs pl pu h
  obtain ⟨z, rfl, hz, q⟩ := h
  obtain ⟨t, rfl⟩ := rx
  refine ⟨"str", _, F.slot_str_getitem.lookup, typeIs_str _ _ _, ?_⟩
  have fin : ∀ t' k, EP X pins σ Q (.str (Txt.slice z lo hi) t') { s with toks := k } := fun t' k => ⟨.str _, H, I.tok _, ⟨_, rfl⟩, q⟩
  cases pl with
  | none =>
    cases pu with
    | none => exact wpAny_getItem_str_slice (l := none) (u := none) (st := none) hs rfl (post_val_or_str ⟨Nat.le_trans (Txt.slice_le z _ _) hz, fun t' k => fin t' k⟩)
    | int j tj => exact wpAny_getItem_str_slice (l := none) (u := some (j, tj)) (st := none) hs rfl (post_val_or_str ⟨Nat.le_trans (Txt.slice_le z _ _) hz, fun t' k => fin t' k⟩)
  | int i ti =>
    cases pu with
    | none => exact wpAny_getItem_str_slice (l := some (i, ti)) (u := none) (st := none) hs rfl (post_val_or_str ⟨Nat.le_trans (Txt.slice_le z _ _) hz, fun t' k => fin t' k⟩)
    | int j tj => exact wpAny_getItem_str_slice (l := some (i, ti)) (u := some (j, tj)) (st := none) hs rfl (post_val_or_str ⟨Nat.le_trans (Txt.slice_le z _ _) hz, fun t' k => fin t' k⟩)
/-- xs != [] -/
theorem op_ne_nil (hu : X.A.units < cLine) : OpR X (compareOp .NotEq) (fun x y H Q => ∃ a b xs, x = .ref a ∧ y = .ref b ∧ SqL X.K H a xs ∧ SqL X.K H b [] ∧ Q (.bl (!xs.isEmpty)) H) := by
  intro pins s σ H x y v u Q I rx ry h
  obtain ⟨a, b, xs, rfl, rfl, ha, hb, q⟩ := h
  cases rx
  cases ry
  obtain ⟨its, r1, p1, _⟩ := I.list ha
  obtain ⟨its2, r2, p2, _⟩ := I.list hb
  cases r2
  cases r1 with
  | nil => exact SeqAt.RcNeAt.lists (e := fun _ => true) p1.isList p2.isList rfl hu (fun j h1 h2 => absurd h1 (by simp)) X.prog X.w X.xe _ ⟨.bl _, H, I, rfl, q⟩
  | cons r1 r2 => exact SeqAt.RcNeAt.lists_lengths p1.isList p2.isList (by simp) hu X.prog X.w X.xe _ ⟨.bl _, H, I, rfl, q⟩
end
end L2

set_option maxHeartbeats 4000000
namespace Dp
open PySem PySem.Spec PyProof.Rows L2

/-- a plain thing, whole; a dict by its keys and what stands at them, in order -/
inductive D where
  | non | bl (b : Bool) | int (i : Int) | str (x : Str) | tup (xs : List D) | lst (xs : List D) | dic (ks : List Key) (xs : List D)
  deriving Inhabited

/-- a tuple, a list, a dict that nobody will change: not among the owned ones -/
def NdT (M : Addr → Prop) (H : Hp) (a : Addr) (vs : List V) : Prop := ¬ M a ∧ H a = some (.tup vs)
def NdL (M : Addr → Prop) (H : Hp) (a : Addr) (vs : List V) : Prop := ¬ M a ∧ H a = some (.lst vs)
def NdD (M : Addr → Prop) (H : Hp) (a : Addr) (ks : List Key) (vs : List V) : Prop := ¬ M a ∧ H a = some (.dK (ks.zip vs))
mutual
def At (K : PySem.W.Frag) (M : Addr → Prop) (H : Hp) : D → V → Prop
  | .non, v => v = .non
  | .bl b, v => v = .bl b
  | .int i, v => v = .int i
  | .str x, v => v = .str x ∧ x.length ≤ sizeLine
  | .tup ds, v => ∃ a vs, v = .ref a ∧ NdT M H a vs ∧ Ats K M H ds vs
  | .lst ds, v => ∃ a vs, v = .ref a ∧ NdL M H a vs ∧ Ats K M H ds vs
  | .dic ks ds, v => ∃ a vs, v = .ref a ∧ NdD M H a ks vs ∧ ks.length = ds.length ∧ Ats K M H ds vs
def Ats (K : PySem.W.Frag) (M : Addr → Prop) (H : Hp) : List D → List V → Prop
  | [], vs => vs = []
  | d :: ds, vs => ∃ v r, vs = v :: r ∧ At K M H d v ∧ Ats K M H ds r
end
section
variable {K : PySem.W.Frag} {M M' : Addr → Prop} {H H' : Hp} {a : Addr} {vs : List V} {ks : List Key}
theorem NdT.sq (h : NdT M H a vs) : SqT K H a vs := .inl (.inl h.2)
theorem NdL.sq (h : NdL M H a vs) : SqL K H a vs := .inl (.inl h.2)
/-- what was tracked and not owned stays; what is owned now was owned, or is new -/
def Pres (M : Addr → Prop) (H : Hp) (M' : Addr → Prop) (H' : Hp) : Prop := (∀ b o, H b = some o → ¬ M b → H' b = some o) ∧ ∀ b, M' b → M b ∨ H b = none
theorem Pres.nd {u : HO} (p : Pres M H M' H') (n : ¬ M a) (h : H a = some u) : ¬ M' a ∧ H' a = some u := by
  refine ⟨fun z => ?_, p.1 _ _ h n⟩
  rcases p.2 a z with z | z
  · exact n z
  · rw [z] at h; cases h
theorem NdT.pres (p : Pres M H M' H') (h : NdT M H a vs) : NdT M' H' a vs := p.nd h.1 h.2
theorem NdL.pres (p : Pres M H M' H') (h : NdL M H a vs) : NdL M' H' a vs := p.nd h.1 h.2
theorem NdD.pres (p : Pres M H M' H') (h : NdD M H a ks vs) : NdD M' H' a ks vs := p.nd h.1 h.2
mutual
theorem At.pres (p : Pres M H M' H') : ∀ {d : D} {v : V}, At K M H d v → At K M' H' d v
  | .non, v, h => h
  | .bl b, v, h => h
  | .int i, v, h => h
  | .str x, v, h => h
  | .tup ds, v, h => by
    obtain ⟨a, vs, e, hn, hs⟩ := h
    exact ⟨a, vs, e, hn.pres p, Ats.pres p hs⟩
  | .lst ds, v, h => by
    obtain ⟨a, vs, e, hn, hs⟩ := h
    exact ⟨a, vs, e, hn.pres p, Ats.pres p hs⟩
  | .dic ks ds, v, h => by
    obtain ⟨a, vs, e, hn, hl, hs⟩ := h
    exact ⟨a, vs, e, hn.pres p, hl, Ats.pres p hs⟩
theorem Ats.pres (p : Pres M H M' H') : ∀ {ds : List D} {vs : List V}, Ats K M H ds vs → Ats K M' H' ds vs
  | [], vs, h => h
  | d :: ds, vs, h => by
    obtain ⟨v, r, e, h1, h2⟩ := h
    exact ⟨v, r, e, At.pres p h1, Ats.pres p h2⟩
end
theorem Pres.trans {M1 M2 M3 : Addr → Prop} {H1 H2 H3 : Hp} (p : Pres M1 H1 M2 H2) (q : Pres M2 H2 M3 H3) : Pres M1 H1 M3 H3 := by
  refine ⟨fun b o e n => ?_, fun b z => ?_⟩
  · refine q.1 b o (p.1 b o e n) fun z => ?_
    rcases p.2 b z with z | z
    · exact n z
    · rw [z] at e; cases e
  · rcases q.2 b z with z | z
    · exact p.2 b z
    · cases e : H1 b with
      | none => exact .inr rfl
      | some o =>
        by_cases n : M1 b
        · exact .inl n
        · rw [p.1 b o e n] at z; cases z
theorem Pres.refl (M : Addr → Prop) (H : Hp) : Pres M H M H := ⟨fun _ _ e _ => e, fun _ z => .inl z⟩
/-- forgetting owners -/
theorem Pres.less (h : ∀ b, M' b → M b) : Pres M H M' H := ⟨fun _ _ e _ => e, fun b z => .inl (h b z)⟩
theorem Ats.length : ∀ {ds : List D} {vs : List V}, Ats K M H ds vs → vs.length = ds.length
  | [], vs, h => by cases h; rfl
  | d :: ds, vs, h => by
    obtain ⟨v, r, e, h1, h2⟩ := h
    subst e
    rw [List.length_cons, List.length_cons, Ats.length h2]
theorem Ats.get : ∀ {ds : List D} {vs : List V} {i : Nat} {d : D}, Ats K M H ds vs → ds[i]? = some d → ∃ v, vs[i]? = some v ∧ At K M H d v
  | [], vs, i, d, h, e => by simp at e
  | d0 :: ds, vs, 0, d, h, e => by
    obtain ⟨v, r, e1, h1, h2⟩ := h
    simp at e
    subst e e1
    exact ⟨v, rfl, h1⟩
  | d0 :: ds, vs, i + 1, d, h, e => by
    obtain ⟨v, r, e1, h1, h2⟩ := h
    subst e1
    obtain ⟨u, e2, h3⟩ := Ats.get (i := i) (d := d) h2 (by simpa using e)
    exact ⟨u, by simpa using e2, h3⟩
theorem Ats.append : ∀ {ds es : List D} {vs us : List V}, Ats K M H ds vs → Ats K M H es us → Ats K M H (ds ++ es) (vs ++ us)
  | [], es, vs, us, h, g => by cases h; exact g
  | d :: ds, es, vs, us, h, g => by
    obtain ⟨v, r, e, h1, h2⟩ := h
    subst e
    exact ⟨v, r ++ us, rfl, h1, Ats.append h2 g⟩
theorem Ats.drop : ∀ {ds : List D} {vs : List V} (n : Nat), Ats K M H ds vs → Ats K M H (ds.drop n) (vs.drop n)
  | ds, vs, 0, h => h
  | [], vs, n + 1, h => by cases h; exact rfl
  | d :: ds, vs, n + 1, h => by
    obtain ⟨v, r, e, h1, h2⟩ := h
    subst e
    exact Ats.drop n h2
theorem Ats.take : ∀ {ds : List D} {vs : List V} (n : Nat), Ats K M H ds vs → Ats K M H (ds.take n) (vs.take n)
  | ds, vs, 0, h => rfl
  | [], vs, n + 1, h => by cases h; exact rfl
  | d :: ds, vs, n + 1, h => by
    obtain ⟨v, r, e, h1, h2⟩ := h
    subst e
    exact ⟨v, r.take n, rfl, h1, Ats.take n h2⟩
theorem Ats.one {d : D} {v : V} (h : At K M H d v) : Ats K M H [d] [v] := ⟨v, [], rfl, h, rfl⟩
theorem Ats.set : ∀ {ds : List D} {vs : List V} {i : Nat} {d : D} {v : V}, Ats K M H ds vs → At K M H d v → Ats K M H (ds.set i d) (vs.set i v)
  | [], vs, i, d, v, h, g => by cases h; exact rfl
  | d0 :: ds, vs, 0, d, v, h, g => by
    obtain ⟨u, r, e1, h1, h2⟩ := h
    subst e1
    exact ⟨v, r, rfl, g, h2⟩
  | d0 :: ds, vs, i + 1, d, v, h, g => by
    obtain ⟨u, r, e1, h1, h2⟩ := h
    subst e1
    exact ⟨u, r.set i v, rfl, h1, Ats.set h2 g⟩
theorem Ats.eraseIdx : ∀ {ds : List D} {vs : List V} (i : Nat), Ats K M H ds vs → Ats K M H (ds.eraseIdx i) (vs.eraseIdx i)
  | [], vs, i, h => by cases h; exact rfl
  | d0 :: ds, vs, 0, h => by
    obtain ⟨u, r, e1, h1, h2⟩ := h
    subst e1
    exact h2
  | d0 :: ds, vs, i + 1, h => by
    obtain ⟨u, r, e1, h1, h2⟩ := h
    subst e1
    exact ⟨u, r.eraseIdx i, rfl, h1, Ats.eraseIdx i h2⟩
theorem Ats.reverse : ∀ {ds : List D} {vs : List V}, Ats K M H ds vs → Ats K M H ds.reverse vs.reverse
  | [], vs, h => by cases h; exact rfl
  | d :: ds, vs, h => by
    obtain ⟨v, r, e, h1, h2⟩ := h
    subst e
    rw [List.reverse_cons, List.reverse_cons]
    exact Ats.append (Ats.reverse h2) (Ats.one h1)
end

/-- what is known of an expression's value: it may be kept; it may only be read; it is new -/
inductive Kd where
  | sh | tp | fr
/-- what stands at an address is the whole of d, whoever owns the address -/
def Tops (K : PySem.W.Frag) (M : Addr → Prop) (H : Hp) (a : Addr) : D → Prop
  | .lst ds => ∃ vs, H a = some (.lst vs) ∧ Ats K M H ds vs
  | .dic ks ds => ∃ vs, H a = some (.dK (ks.zip vs)) ∧ ks.length = ds.length ∧ Ats K M H ds vs
  | _ => False
theorem Tops.pres {K : PySem.W.Frag} {M M' : Addr → Prop} {H H' : Hp} {a : Addr} {d : D} (h : Tops K M H a d) (p : Pres M H M' H') (e : ∀ o, H a = some o → H' a = some o) : Tops K M' H' a d := by
  cases d with
  | lst ds => obtain ⟨vs, h1, h2⟩ := h; exact ⟨vs, e _ h1, h2.pres p⟩
  | dic ks ds => obtain ⟨vs, h1, h2, h3⟩ := h; exact ⟨vs, e _ h1, h2, h3.pres p⟩
  | _ => exact (show False from h).elim
theorem Tops.at {K : PySem.W.Frag} {M : Addr → Prop} {H : Hp} {a : Addr} {d : D} (h : Tops K M H a d) (n : ¬ M a) : At K M H d (.ref a) := by
  cases d with
  | lst ds => obtain ⟨vs, h1, h2⟩ := h; exact ⟨a, vs, rfl, ⟨n, h1⟩, h2⟩
  | dic ks ds => obtain ⟨vs, h1, h2, h3⟩ := h; exact ⟨a, vs, rfl, ⟨n, h1⟩, h2, h3⟩
  | _ => exact (show False from h).elim
/-- a value that is read: its top may be owned by somebody -/
def AtT (K : PySem.W.Frag) (U : Addr → Prop) (M : Addr → Prop) (H : Hp) : D → V → Prop
  | .lst ds, v => ∃ a vs, v = .ref a ∧ ¬ U a ∧ Rd H a (.lst vs) ∧ Ats K M H ds vs
  | .dic ks ds, v => ∃ a vs, v = .ref a ∧ ¬ U a ∧ H a = some (.dK (ks.zip vs)) ∧ ks.length = ds.length ∧ Ats K M H ds vs
  | d, v => At K M H d v
theorem Tops.att {K : PySem.W.Frag} {U M : Addr → Prop} {H : Hp} {a : Addr} {d : D} (h : Tops K M H a d) (n : ¬ U a) : AtT K U M H d (.ref a) := by
  cases d with
  | lst ds => obtain ⟨vs, h1, h2⟩ := h; exact ⟨a, vs, rfl, n, .inl h1, h2⟩
  | dic ks ds => obtain ⟨vs, h1, h2, h3⟩ := h; exact ⟨a, vs, rfl, n, h1, h2, h3⟩
  | _ => exact (show False from h).elim
def VR (K : PySem.W.Frag) (U : Addr → Prop) (M : Addr → Prop) (H H' : Hp) : Kd → V → D → Prop
  | .sh, v, d => At K M H' d v
  | .tp, v, d => AtT K U M H' d v
  | .fr, v, d => ∃ a, v = .ref a ∧ H a = none ∧ Tops K (fun b => M b ∨ b = a) H' a d

/-- the drawn numbers' source and its cells: where it stands, what is left of a great one; n more draws are allowed -/
def FeedOk (K : PySem.W.Frag) (M : Addr → Prop) (H : Hp) (f : Addr × Addr) (n : Nat) : Prop :=
  ∃ (at_ rest : Int) (cells : List Int), H f.1 = some (.lst [.ref f.2, .int at_, .int rest]) ∧ f.2 ≠ f.1 ∧ NdL M H f.2 (cells.map V.int) ∧ cells.length ≤ 63 ∧ 0 ≤ at_ ∧ at_ + n ≤ 2 ^ 60
def FeedC (K : PySem.W.Frag) (F : Option (Addr × Addr)) (M : Addr → Prop) (H : Hp) (n : Nat) : Prop := ∀ f, F = some f → FeedOk K M H f n
/-- all that was there is there, and but for what is being changed (U) it is as it was -/
def Ext (U : Addr → Prop) (H H' : Hp) : Prop := ∀ b o, H b = some o → ∃ o', H' b = some o' ∧ (¬ U b → o' = o)
theorem Ext.keep {U : Addr → Prop} {H H' : Hp} (p : Ext U H H') {b : Addr} {o : HO} (e : H b = some o) (n : ¬ U b) : H' b = some o := by
  obtain ⟨o', q, r⟩ := p b o e
  rw [q, r n]
theorem Ext.free {U : Addr → Prop} {H H' : Hp} (p : Ext U H H') {b : Addr} (e : H' b = none) : H b = none := by
  cases q : H b with
  | none => rfl
  | some o =>
    obtain ⟨o', z, _⟩ := p b o q
    rw [e] at z; cases z
theorem Ext.refl (U : Addr → Prop) (H : Hp) : Ext U H H := fun _ o e => ⟨o, e, fun _ => rfl⟩
theorem Ext.trans {U : Addr → Prop} {H1 H2 H3 : Hp} (p : Ext U H1 H2) (q : Ext U H2 H3) : Ext U H1 H3 := fun b o e => by
  obtain ⟨o', e1, r1⟩ := p b o e
  obtain ⟨o2, e2, r2⟩ := q b o' e1
  exact ⟨o2, e2, fun n => (r2 n).trans (r1 n)⟩
/-- one object more, or none -/
def Grow (H H' : Hp) : Prop := H' = H ∨ ∃ p o, H p = none ∧ H' = upd H p o
theorem Grow.all {H H' : Hp} (g : Grow H H') : ∀ b o, H b = some o → H' b = some o := by
  intro b o e
  rcases g with rfl | ⟨p, u, n, rfl⟩
  · exact e
  · rw [upd_ne (ne_of_none e n)]; exact e
theorem Grow.refl {H : Hp} : Grow H H := .inl rfl
theorem Grow.ext {U : Addr → Prop} {H H' : Hp} (g : Grow H H') : Ext U H H' := fun b o e => ⟨o, g.all b o e, fun _ => rfl⟩
theorem Grow.pres {M : Addr → Prop} {H H' : Hp} (g : Grow H H') : Pres M H M H' := ⟨fun b o e _ => g.all b o e, fun _ z => .inl z⟩
theorem FeedOk.pres {K : PySem.W.Frag} {M M' : Addr → Prop} {H H' : Hp} {f : Addr × Addr} {n : Nat} (h : FeedOk K M H f n) (p : Pres M H M' H') (e : ∀ o, H f.1 = some o → H' f.1 = some o) : FeedOk K M' H' f n := by
  obtain ⟨a, r, cs, h1, h2, h3, h4⟩ := h
  exact ⟨a, r, cs, e _ h1, h2, h3.pres p, h4⟩
theorem FeedC.pres {K : PySem.W.Frag} {F : Option (Addr × Addr)} {M M' : Addr → Prop} {H H' : Hp} {n : Nat} (h : FeedC K F M H n) (p : Pres M H M' H') (e : ∀ f o, F = some f → H f.1 = some o → H' f.1 = some o) : FeedC K F M' H' n := fun f hf => (h f hf).pres p fun o q => e f o hf q
theorem FeedC.grow {K : PySem.W.Frag} {F : Option (Addr × Addr)} {M : Addr → Prop} {H H' : Hp} {n : Nat} (h : FeedC K F M H n) (g : Grow H H') : FeedC K F M H' n := h.pres g.pres fun f o _ e => g.all f.1 o e
theorem FeedC.fuel {K : PySem.W.Frag} {F : Option (Addr × Addr)} {M : Addr → Prop} {H : Hp} {n m : Nat} (h : FeedC K F M H n) (hm : m ≤ n) : FeedC K F M H m := fun f hf => by
  obtain ⟨a, r, cs, h1, h2, h3, h4, h5, h6⟩ := h f hf
  exact ⟨a, r, cs, h1, h2, h3, h4, h5, by omega⟩
/-- its cells are not the one that is told -/
theorem FeedC.more {K : PySem.W.Frag} {F : Option (Addr × Addr)} {M : Addr → Prop} {H : Hp} {n : Nat} (h : FeedC K F M H n) (a : Addr) (ha : ∀ f, F = some f → f.2 ≠ a) : FeedC K F (fun b => M b ∨ b = a) H n := fun f hf => by
  obtain ⟨x, r, cs, h1, h2, h3, h4⟩ := h f hf
  exact ⟨x, r, cs, h1, h2, ⟨fun z => z.elim h3.1 (ha f hf), h3.2⟩, h4⟩

/-- what is known of a name: nothing; a plain thing; one that may only be read; the source of draws; a list or dict of the frame's own; the same while it is being walked -/
inductive Slot where
  | no | sh (d : D) | br (d : D) | fd | ow (d : D) | lt (a : Addr) (d : D)
def Slot.owns : Slot → Bool
  | .ow _ => true
  | .lt _ _ => true
  | _ => false
def SlotOk (K : PySem.W.Frag) (F : Option (Addr × Addr)) (U : Addr → Prop) (M : Addr → Prop) (H : Hp) : Slot → Option V → Prop
  | .no, _ => True
  | .sh d, o => ∃ v, o = some v ∧ At K M H d v
  | .br d, o => ∃ v, o = some v ∧ AtT K U M H d v
  | .fd, o => ∃ f, o = some (.ref f.1) ∧ F = some f
  | .ow d, o => ∃ a, o = some (.ref a) ∧ M a ∧ ¬ U a ∧ Tops K M H a d
  | .lt a d, o => o = some (.ref a) ∧ M a ∧ ¬ U a ∧ Tops K M H a d
/-- a frame: what its callers own, the source of draws, the heap at its entry, what loops lean on, which own lists are being walked -/
structure Fm where
  M0 : Addr → Prop
  F : Option (Addr × Addr)
  U : Addr → Prop
  V : Addr → Prop
  H0 : Hp
  pins : List ((Addr → Prop) × Hp)
  kp : List (Addr × HO)
/-- the names of two owners are two -/
def Apart (ρ : List Slot) (σ : L2.St) : Prop := ∀ (i j : Nat) (s t : Slot) (a : Addr), ρ[i]? = some s → s.owns = true → ρ[j]? = some t → t.owns = true → (σ[i]?).getD none = some (.ref a) → (σ[j]?).getD none = some (.ref a) → i = j
structure Rel (K : PySem.W.Frag) (C : Fm) (M : Addr → Prop) (H : Hp) (n : Nat) (ρ : List Slot) (σ : L2.St) : Prop where
  len : ρ.length = σ.length
  sub : ∀ a, C.M0 a → M a
  dom : ∀ a, M a → ∃ o, H a = some o
  ext : Ext C.U C.H0 H
  fU : ∀ f, C.F = some f → C.U f.1
  uV : ∀ a, C.U a → C.V a
  vM : ∀ a, C.V a → M a
  feed : FeedC K C.F M H n
  sl : ∀ (i : Nat) (s : Slot), ρ[i]? = some s → SlotOk K C.F C.V M H s ((σ[i]?).getD none)
  pin : ∀ p ∈ C.pins, Pres p.1 p.2 M H
  br0 : ∀ (i : Nat) (d : D) (a : Addr), ρ[i]? = some (.br d) → (σ[i]?).getD none = some (.ref a) → ∃ o, C.H0 a = some o
  new : ∀ (i : Nat) (s : Slot) (a : Addr), ρ[i]? = some s → s.owns = true → (σ[i]?).getD none = some (.ref a) → ¬ C.M0 a ∧ C.H0 a = none
  two : Apart ρ σ
  kept : ∀ p ∈ C.kp, H p.1 = some p.2 ∧ M p.1 ∧ ¬ C.V p.1 ∧ ∀ (i : Nat) (d : D), ρ[i]? = some (.ow d) → (σ[i]?).getD none ≠ some (.ref p.1)

section
variable {K : PySem.W.Frag} {C : Fm} {M : Addr → Prop} {H H' : Hp} {n n' : Nat} {ρ : List Slot} {σ : L2.St} {d : D} {v : V} {κ : Kd}
theorem Rel.pres (R : Rel K C M H n ρ σ) (e : Ext C.U H H') : Pres M H M H' := ⟨fun b o q nb => e.keep q fun z => nb (R.vM b (R.uV b z)), fun _ z => .inl z⟩
theorem AtT.pres {U V' : Addr → Prop} {M' : Addr → Prop} (h : AtT K V' M H d v) (p : Pres M H M' H') (e : Ext U H H') (uV : ∀ a, U a → V' a) : AtT K V' M' H' d v := by
  cases d with
  | lst ds =>
    obtain ⟨a, vs, e1, n1, hq, hs⟩ := h
    refine ⟨a, vs, e1, n1, ?_, hs.pres p⟩
    rcases hq with hq | ⟨o, hq⟩
    · exact .inl (e.keep hq fun z => n1 (uV a z))
    · exact .inr ⟨o, e.keep hq fun z => n1 (uV a z)⟩
  | dic ks ds =>
    obtain ⟨a, vs, e1, n1, hq, hl, hs⟩ := h
    exact ⟨a, vs, e1, n1, e.keep hq fun z => n1 (uV a z), hl, hs.pres p⟩
  | non => exact At.pres (K := K) p (d := .non) h
  | bl b => exact At.pres (K := K) p (d := .bl b) h
  | int i => exact At.pres (K := K) p (d := .int i) h
  | str x => exact At.pres (K := K) p (d := .str x) h
  | tup ds => exact At.pres (K := K) p (d := .tup ds) h
/-- what is read, where its own address stays -/
theorem AtT.same {U V' : Addr → Prop} {M' : Addr → Prop} (h : AtT K U M H d v) (p : Pres M H M' H') (e : ∀ a o, v = .ref a → H a = some o → H' a = some o) (nv : ∀ a, v = .ref a → ¬ U a → ¬ V' a) : AtT K V' M' H' d v := by
  cases d with
  | lst ds =>
    obtain ⟨a, vs, e1, n1, hq, hs⟩ := h
    refine ⟨a, vs, e1, nv a e1 n1, ?_, hs.pres p⟩
    rcases hq with hq | ⟨o, hq⟩
    · exact .inl (e a _ e1 hq)
    · exact .inr ⟨o, e a _ e1 hq⟩
  | dic ks ds =>
    obtain ⟨a, vs, e1, n1, hq, hl, hs⟩ := h
    exact ⟨a, vs, e1, nv a e1 n1, e a _ e1 hq, hl, hs.pres p⟩
  | non => exact At.pres (K := K) p (d := .non) h
  | bl b => exact At.pres (K := K) p (d := .bl b) h
  | int i => exact At.pres (K := K) p (d := .int i) h
  | str x => exact At.pres (K := K) p (d := .str x) h
  | tup ds => exact At.pres (K := K) p (d := .tup ds) h
theorem AtT.lies {U : Addr → Prop} {a : Addr} (h : AtT K U M H d (.ref a)) : ∃ o, H a = some o := by
  cases d with
  | lst ds =>
    obtain ⟨b, vs, e, _, hq, _⟩ := h
    cases e
    rcases hq with hq | ⟨o, hq⟩
    · exact ⟨_, hq⟩
    · exact ⟨_, hq⟩
  | dic ks ds =>
    obtain ⟨b, vs, e, _, hq, _⟩ := h
    cases e
    exact ⟨_, hq⟩
  | non => cases (show V.ref a = .non from h)
  | bl b => cases (show V.ref a = .bl b from h)
  | int i => cases (show V.ref a = .int i from h)
  | str x => cases (show V.ref a = .str x ∧ _ from h).1
  | tup ds =>
    obtain ⟨b, vs, e, hq, _⟩ := h
    cases e
    exact ⟨_, hq.2⟩
theorem SlotOk.pres {F : Option (Addr × Addr)} {U V' M' : Addr → Prop} {s : Slot} {o : Option V} (h : SlotOk K F V' M H s o) (p : Pres M H M' H') (m : ∀ a, M a → M' a) (e : Ext U H H') (uV : ∀ a, U a → V' a) : SlotOk K F V' M' H' s o := by
  cases s with
  | no => trivial
  | sh d => obtain ⟨v, e1, h1⟩ := h; exact ⟨v, e1, h1.pres p⟩
  | br d => obtain ⟨v, e1, h1⟩ := h; exact ⟨v, e1, h1.pres p e uV⟩
  | fd => exact h
  | ow d => obtain ⟨a, e1, h1, h2, h3⟩ := h; exact ⟨a, e1, m a h1, h2, h3.pres p fun o q => e.keep q fun z => h2 (uV a z)⟩
  | lt a d => obtain ⟨e1, h1, h2, h3⟩ := h; exact ⟨e1, m a h1, h2, h3.pres p fun o q => e.keep q fun z => h2 (uV a z)⟩
theorem Rel.step (R : Rel K C M H n ρ σ) (e : Ext C.U H H') (f : FeedC K C.F M H' n') : Rel K C M H' n' ρ σ := by
  have p := R.pres e
  refine ⟨R.len, R.sub, fun a z => ?_, R.ext.trans e, R.fU, R.uV, R.vM, f, fun i s q => (R.sl i s q).pres p (fun _ z => z) e R.uV, fun q hq => (R.pin q hq).trans p, R.br0, R.new, R.two, fun q hq => ?_⟩
  · obtain ⟨o, h1⟩ := R.dom a z
    obtain ⟨o', h2, _⟩ := e a o h1
    exact ⟨o', h2⟩
  · obtain ⟨h1, h2, h3, h4⟩ := R.kept q hq
    exact ⟨e.keep h1 fun z => h3 (R.uV _ z), h2, h3, h4⟩
theorem Rel.fuel (R : Rel K C M H n ρ σ) {m : Nat} (hm : m ≤ n) : Rel K C M H m ρ σ := ⟨R.len, R.sub, R.dom, R.ext, R.fU, R.uV, R.vM, R.feed.fuel hm, R.sl, R.pin, R.br0, R.new, R.two, R.kept⟩
theorem Rel.udom (R : Rel K C M H n ρ σ) : ∀ a, C.U a → ∃ o, H a = some o := fun a z => R.dom a (R.vM a (R.uV a z))
theorem At.tp {U : Addr → Prop} (uM : ∀ a, U a → M a) (h : At K M H d v) : AtT K U M H d v := by
  cases d with
  | lst ds =>
    obtain ⟨a, vs, e, hn, hs⟩ := h
    exact ⟨a, vs, e, fun z => hn.1 (uM a z), .inl hn.2, hs⟩
  | dic ks ds =>
    obtain ⟨a, vs, e, hn, hl, hs⟩ := h
    exact ⟨a, vs, e, fun z => hn.1 (uM a z), hn.2, hl, hs⟩
  | non => exact h
  | bl b => exact h
  | int i => exact h
  | str x => exact h
  | tup ds => exact h
/-- what is known, over a longer step -/
theorem VR.back {U V' : Addr → Prop} {H1 : Hp} (e : Ext U H H1) (h : VR K V' M H1 H' κ v d) : VR K V' M H H' κ v d := by
  cases κ with
  | sh => exact h
  | tp => exact h
  | fr =>
    obtain ⟨a, e1, h1, h2⟩ := h
    exact ⟨a, e1, e.free h1, h2⟩
theorem VR.shOf {U : Addr → Prop} (dom : ∀ a, M a → ∃ o, H a = some o) (h : VR K U M H H' κ v d) (hk : κ ≠ .tp) : At K M H' d v := by
  cases κ with
  | sh => exact h
  | tp => exact absurd rfl hk
  | fr =>
    obtain ⟨a, rfl, h1, h2⟩ := h
    refine (h2.pres (Pres.less (M' := M) fun _ z => .inl z) fun _ z => z).at fun z => ?_
    obtain ⟨o, q⟩ := dom a z
    rw [h1] at q; cases q
theorem VR.tpOf {U : Addr → Prop} (dom : ∀ a, M a → ∃ o, H a = some o) (uM : ∀ a, U a → M a) (h : VR K U M H H' κ v d) : AtT K U M H' d v := by
  cases κ with
  | sh => exact At.tp uM h
  | tp => exact h
  | fr => exact At.tp uM (VR.shOf dom h (by intro z; cases z))
theorem set_at {α : Type} {l : List α} {i j : Nat} {x y : α} (h : (l.set i x)[j]? = some y) : (j = i ∧ i < l.length ∧ y = x) ∨ (j ≠ i ∧ l[j]? = some y) := by
  rw [List.getElem?_set] at h
  by_cases e : i = j
  · rw [if_pos e] at h
    by_cases hl : i < l.length
    · rw [if_pos hl] at h
      exact .inl ⟨e.symm, hl, (Option.some.inj h).symm⟩
    · rw [if_neg hl] at h; cases h
  · rw [if_neg e] at h
    exact .inr ⟨fun z => e z.symm, h⟩
theorem set_ne {l : L2.St} {i j : Nat} {x : Option V} (h : j ≠ i) : ((l.set i x)[j]?).getD none = (l[j]?).getD none := by
  rw [List.getElem?_set, if_neg (fun z => h z.symm)]
theorem set_eq {l : L2.St} {i : Nat} {x : Option V} (h : i < l.length) : ((l.set i x)[i]?).getD none = x := by
  rw [List.getElem?_set, if_pos rfl, if_pos h]
  rfl
/-- a name that is stored, no owner -/
theorem Rel.set (R : Rel K C M H n ρ σ) {i : Nat} (h : At K M H d v) : Rel K C M H n (ρ.set i (.sh d)) (σ.set i (some v)) := by
  have two : ∀ (j : Nat) (s : Slot), (ρ.set i (.sh d))[j]? = some s → s.owns = true → ρ[j]? = some s ∧ ((σ.set i (some v))[j]?).getD none = (σ[j]?).getD none := fun j s q o => by
    rcases set_at q with ⟨_, _, rfl⟩ | ⟨hj, q⟩
    · cases o
    · exact ⟨q, set_ne hj⟩
  refine ⟨by rw [List.length_set, List.length_set]; exact R.len, R.sub, R.dom, R.ext, R.fU, R.uV, R.vM, R.feed, fun j s q => ?_, R.pin, fun j e a q q2 => ?_, fun j s a q o q2 => ?_, fun j k s t a q1 o1 q2 o2 z1 z2 => ?_, fun p hp => ?_⟩
  · rcases set_at q with ⟨rfl, hl, rfl⟩ | ⟨hj, q⟩
    · rw [set_eq (by rw [← R.len]; exact hl)]
      exact ⟨v, rfl, h⟩
    · rw [set_ne hj]
      exact R.sl j s q
  · rcases set_at q with ⟨_, _, e⟩ | ⟨hj, q⟩
    · cases e
    · rw [set_ne hj] at q2
      exact R.br0 j e a q q2
  · obtain ⟨q1, e⟩ := two j s q o
    rw [e] at q2
    exact R.new j s a q1 o q2
  · obtain ⟨p1, e1⟩ := two j s q1 o1
    obtain ⟨p2, e2⟩ := two k t q2 o2
    rw [e1] at z1
    rw [e2] at z2
    exact R.two j k s t a p1 o1 p2 o2 z1 z2
  · obtain ⟨h1, h2, h3, h4⟩ := R.kept p hp
    refine ⟨h1, h2, h3, fun j e q => ?_⟩
    obtain ⟨q1, e2⟩ := two j _ q rfl
    rw [e2]
    exact h4 j e q1
/-- an owner's address -/
theorem Rel.owner (R : Rel K C M H n ρ σ) {i : Nat} {s : Slot} (h : ρ[i]? = some s) (o : s.owns = true) : ∃ a e, (σ[i]?).getD none = some (.ref a) ∧ M a ∧ ¬ C.V a ∧ Tops K M H a e ∧ ¬ C.M0 a ∧ C.H0 a = none := by
  have q := R.sl i s h
  cases s with
  | ow d => obtain ⟨a, e1, h1, h2, h3⟩ := q; exact ⟨a, d, e1, h1, h2, h3, R.new i _ a h o e1⟩
  | lt a d => obtain ⟨e1, h1, h2, h3⟩ := q; exact ⟨a, d, e1, h1, h2, h3, R.new i _ a h o e1⟩
  | _ => cases o
/-- a new list or dict is stored: the frame owns it -/
theorem Rel.setOw (R : Rel K C M H n ρ σ) {i : Nat} {a : Addr} (e : Ext C.U H H') (f : FeedC K C.F M H' n') (ha : H a = none) (h : Tops K (fun b => M b ∨ b = a) H' a d) :
    Rel K C (fun b => M b ∨ b = a) H' n' (ρ.set i (.ow d)) (σ.set i (some (.ref a))) := by
  have R1 := R.step e f
  have ne : ∀ b, M b → b ≠ a := fun b z q => by
    obtain ⟨o, w⟩ := R.dom b z
    rw [q, ha] at w; cases w
  have a0 : ¬ C.M0 a ∧ C.H0 a = none := ⟨fun z => ne a (R.sub a z) rfl, R.ext.free ha⟩
  have pr : Pres M H (fun b => M b ∨ b = a) H' := ⟨fun b o q nb => e.keep q fun z => nb (R.vM b (R.uV b z)), fun b z => z.elim .inl fun z => .inr (by rw [z]; exact ha)⟩
  have two : ∀ (j : Nat) (s : Slot), (ρ.set i (.ow d))[j]? = some s → (j = i ∧ s = .ow d ∧ ((σ.set i (some (.ref a)))[j]?).getD none = some (.ref a)) ∨ (j ≠ i ∧ ρ[j]? = some s ∧ ((σ.set i (some (.ref a)))[j]?).getD none = (σ[j]?).getD none) := fun j s q => by
    rcases set_at q with ⟨rfl, hl, rfl⟩ | ⟨hj, q⟩
    · exact .inl ⟨rfl, rfl, set_eq (by rw [← R.len]; exact hl)⟩
    · exact .inr ⟨hj, q, set_ne hj⟩
  have old : ∀ (j : Nat) (s : Slot) (b : Addr), ρ[j]? = some s → s.owns = true → (σ[j]?).getD none = some (.ref b) → b ≠ a := fun j s b q o z => by
    obtain ⟨c, _, e1, m, _⟩ := R.owner q o
    rw [e1] at z
    cases z
    exact ne _ m
  have hd : ∃ o, H' a = some o := by
    cases d with
    | lst ds => obtain ⟨vs, q, _⟩ := h; exact ⟨_, q⟩
    | dic ks ds => obtain ⟨vs, q, _⟩ := h; exact ⟨_, q⟩
    | _ => exact (show False from h).elim
  refine ⟨by rw [List.length_set, List.length_set]; exact R.len, fun b z => .inl (R.sub b z), fun b z => ?_, R1.ext, R.fU, R.uV, fun b z => .inl (R.vM b z), f.more a fun g hg q => ?_, fun j s q => ?_, fun q hq => (R.pin q hq).trans pr, fun j e2 b q q2 => ?_, fun j s b q o q2 => ?_, fun j k s t b q1 o1 q2 o2 z1 z2 => ?_, fun p hp => ?_⟩
  · rcases z with z | z
    · exact R1.dom b z
    · rw [z]; exact hd
  · obtain ⟨_, _, _, _, _, h3, _⟩ := R.feed g hg
    have := h3.2
    rw [q, ha] at this; cases this
  · rcases two j s q with ⟨rfl, rfl, e1⟩ | ⟨hj, q1, e1⟩
    · rw [e1]
      exact ⟨a, rfl, .inr rfl, fun z => ne a (R.vM a z) rfl, h⟩
    · rw [e1]
      exact (R.sl j s q1).pres pr (fun _ z => .inl z) e R.uV
  · rcases two j _ q with ⟨_, e1, _⟩ | ⟨hj, q1, e1⟩
    · cases e1
    · rw [e1] at q2
      exact R.br0 j e2 b q1 q2
  · rcases two j s q with ⟨_, _, e1⟩ | ⟨hj, q1, e1⟩
    · rw [e1] at q2
      cases q2
      exact a0
    · rw [e1] at q2
      exact R.new j s b q1 o q2
  · rcases two j s q1 with ⟨rfl, _, e1⟩ | ⟨hj, p1, e1⟩
    · rw [e1] at z1
      cases z1
      rcases two k t q2 with ⟨rfl, _, _⟩ | ⟨hk, p2, e2⟩
      · rfl
      · rw [e2] at z2
        exact absurd rfl (old k t a p2 o2 z2)
    · rw [e1] at z1
      rcases two k t q2 with ⟨rfl, _, e2⟩ | ⟨hk, p2, e2⟩
      · rw [e2] at z2
        cases z2
        exact absurd rfl (old j s a p1 o1 z1)
      · rw [e2] at z2
        exact R.two j k s t b p1 o1 p2 o2 z1 z2
  · obtain ⟨h1, h2, h3, h4⟩ := R1.kept p hp
    refine ⟨h1, .inl h2, h3, fun j e2 q => ?_⟩
    rcases two j _ q with ⟨_, _, e1⟩ | ⟨hj, q1, e1⟩
    · rw [e1]
      intro z
      cases z
      exact ne _ h2 rfl
    · rw [e1]
      exact h4 j e2 q1
/-- what the frame owns is changed -/
theorem Rel.mut (R : Rel K C M H n ρ σ) {i : Nat} {a : Addr} {e : D} {o : HO} (hi : ρ[i]? = some (.ow d)) (ha : (σ[i]?).getD none = some (.ref a)) (h : Tops K M (upd H a o) a e) :
    Rel K C M (upd H a o) n (ρ.set i (.ow e)) σ := by
  obtain ⟨b, _, e1, m, nv, t, n0, h0⟩ := R.owner hi rfl
  rw [ha] at e1
  cases e1
  have pr : Pres M H M (upd H a o) := ⟨fun b o' q nb => by rw [upd_ne (fun z => nb (by rw [z]; exact m))]; exact q, fun _ z => .inl z⟩
  have old : ∀ (j : Nat) (s : Slot), (ρ.set i (.ow e))[j]? = some s → (j = i ∧ s = .ow e) ∨ (j ≠ i ∧ ρ[j]? = some s) := fun j s q => by
    rcases set_at q with ⟨rfl, hl, rfl⟩ | ⟨hj, q⟩
    · exact .inl ⟨rfl, rfl⟩
    · exact .inr ⟨hj, q⟩
  have far : ∀ (j : Nat) (s : Slot) (b : Addr), j ≠ i → ρ[j]? = some s → s.owns = true → (σ[j]?).getD none = some (.ref b) → b ≠ a := fun j s b hj q o z w => by
    subst w
    exact hj (R.two j i s _ b q o hi rfl z ha)
  refine ⟨by rw [List.length_set]; exact R.len, R.sub, fun b z => ?_, fun b o' q => ?_, R.fU, R.uV, R.vM, R.feed.pres pr fun f o' hf q => ?_, fun j s q => ?_, fun q hq => (R.pin q hq).trans pr, fun j e2 b q q2 => ?_, fun j s b q o2 q2 => ?_, fun j k s t b q1 o1 q2 o2 z1 z2 => ?_, fun p hp => ?_⟩
  · by_cases hb : b = a
    · exact ⟨o, by rw [hb, upd_same]⟩
    · obtain ⟨o', q⟩ := R.dom b z
      exact ⟨o', by rw [upd_ne hb]; exact q⟩
  · obtain ⟨o2, q2, r⟩ := R.ext b o' q
    have hb : b ≠ a := fun z => by rw [z, h0] at q; cases q
    exact ⟨o2, by rw [upd_ne hb]; exact q2, r⟩
  · have hb : f.1 ≠ a := fun z => nv (by rw [← z]; exact R.uV _ (R.fU f hf))
    rw [upd_ne hb]; exact q
  · rcases old j s q with ⟨rfl, rfl⟩ | ⟨hj, q1⟩
    · rw [ha]
      exact ⟨a, rfl, m, nv, h⟩
    · have q2 := R.sl j s q1
      cases s with
      | no => trivial
      | sh d => obtain ⟨v, e1, h1⟩ := q2; exact ⟨v, e1, h1.pres pr⟩
      | br d =>
        obtain ⟨v, e1, h1⟩ := q2
        refine ⟨v, e1, h1.same pr (fun b o' z q => ?_) fun _ _ z => z⟩
        subst z
        obtain ⟨o3, w⟩ := R.br0 j d b q1 e1
        rw [upd_ne (fun z => by rw [z, h0] at w; cases w)]
        exact q
      | fd => exact q2
      | ow d =>
        obtain ⟨b, e1, h1, h2, h3⟩ := q2
        exact ⟨b, e1, h1, h2, h3.pres pr fun o' w => by rw [upd_ne (far j _ b hj q1 rfl e1)]; exact w⟩
      | lt b d =>
        obtain ⟨e1, h1, h2, h3⟩ := q2
        exact ⟨e1, h1, h2, h3.pres pr fun o' w => by rw [upd_ne (far j _ b hj q1 rfl e1)]; exact w⟩
  · rcases old j _ q with ⟨_, e1⟩ | ⟨hj, q1⟩
    · cases e1
    · exact R.br0 j e2 b q1 q2
  · rcases old j s q with ⟨rfl, _⟩ | ⟨hj, q1⟩
    · exact R.new j _ b hi rfl q2
    · exact R.new j s b q1 o2 q2
  · rcases old j s q1 with ⟨rfl, rfl⟩ | ⟨hj, p1⟩
    · rcases old k t q2 with ⟨rfl, _⟩ | ⟨hk, p2⟩
      · rfl
      · exact R.two j k _ t b hi rfl p2 o2 z1 z2
    · rcases old k t q2 with ⟨rfl, rfl⟩ | ⟨hk, p2⟩
      · exact R.two j k s _ b p1 o1 hi rfl z1 z2
      · exact R.two j k s t b p1 o1 p2 o2 z1 z2
  · obtain ⟨h1, h2, h3, h4⟩ := R.kept p hp
    have hb : p.1 ≠ a := fun z => h4 i d hi (by rw [ha, z])
    refine ⟨by rw [upd_ne hb]; exact h1, h2, h3, fun j e2 q => ?_⟩
    rcases old j _ q with ⟨rfl, _⟩ | ⟨hj, q1⟩
    · exact h4 j d hi
    · exact h4 j e2 q1
/-- what the frame owns is given away: nobody changes it any more -/
theorem Rel.freeze (R : Rel K C M H n ρ σ) {i : Nat} {a : Addr} (hi : ρ[i]? = some (.ow d)) (ha : (σ[i]?).getD none = some (.ref a)) : Rel K C (fun b => M b ∧ b ≠ a) H n (ρ.set i (.sh d)) σ := by
  obtain ⟨b, _, e1, m, nv, _, n0, h0⟩ := R.owner hi rfl
  rw [ha] at e1
  cases e1
  have less : ∀ b, M b ∧ b ≠ a → M b := fun _ z => z.1
  have pr : Pres M H (fun b => M b ∧ b ≠ a) H := Pres.less less
  have old : ∀ (j : Nat) (s : Slot), (ρ.set i (.sh d))[j]? = some s → (j = i ∧ s = .sh d) ∨ (j ≠ i ∧ ρ[j]? = some s) := fun j s q => by
    rcases set_at q with ⟨rfl, hl, rfl⟩ | ⟨hj, q⟩
    · exact .inl ⟨rfl, rfl⟩
    · exact .inr ⟨hj, q⟩
  have far : ∀ (j : Nat) (s : Slot) (b : Addr), j ≠ i → ρ[j]? = some s → s.owns = true → (σ[j]?).getD none = some (.ref b) → b ≠ a := fun j s b hj q o z w => by
    subst w
    exact hj (R.two j i s _ b q o hi rfl z ha)
  have t : Tops K M H a d := by
    obtain ⟨b, e1, _, _, h3⟩ := R.sl i _ hi
    rw [ha] at e1
    cases e1
    exact h3
  refine ⟨by rw [List.length_set]; exact R.len, fun b z => ⟨R.sub b z, fun w => n0 (by rw [← w]; exact z)⟩, fun b z => R.dom b z.1, R.ext, R.fU, R.uV, fun b z => ⟨R.vM b z, fun w => nv (by rw [← w]; exact z)⟩, R.feed.pres pr fun _ _ _ q => q, fun j s q => ?_, fun q hq => (R.pin q hq).trans pr, fun j e2 b q q2 => ?_, fun j s b q o2 q2 => ?_, fun j k s t b q1 o1 q2 o2 z1 z2 => ?_, fun p hp => ?_⟩
  · rcases old j s q with ⟨rfl, rfl⟩ | ⟨hj, q1⟩
    · rw [ha]
      exact ⟨_, rfl, (t.pres pr fun _ z => z).at fun z => z.2 rfl⟩
    · have q2 := R.sl j s q1
      cases s with
      | no => trivial
      | sh d => obtain ⟨v, e1, h1⟩ := q2; exact ⟨v, e1, h1.pres pr⟩
      | br d => obtain ⟨v, e1, h1⟩ := q2; exact ⟨v, e1, h1.same pr (fun _ _ _ z => z) fun _ _ z => z⟩
      | fd => exact q2
      | ow d =>
        obtain ⟨b, e1, h1, h2, h3⟩ := q2
        exact ⟨b, e1, ⟨h1, far j _ b hj q1 rfl e1⟩, h2, h3.pres pr fun _ z => z⟩
      | lt b d =>
        obtain ⟨e1, h1, h2, h3⟩ := q2
        exact ⟨e1, ⟨h1, far j _ b hj q1 rfl e1⟩, h2, h3.pres pr fun _ z => z⟩
  · rcases old j _ q with ⟨_, e1⟩ | ⟨hj, q1⟩
    · cases e1
    · exact R.br0 j e2 b q1 q2
  · rcases old j s q with ⟨_, rfl⟩ | ⟨hj, q1⟩
    · cases o2
    · exact R.new j s b q1 o2 q2
  · rcases old j s q1 with ⟨_, rfl⟩ | ⟨hj, p1⟩
    · cases o1
    · rcases old k t q2 with ⟨_, rfl⟩ | ⟨hk, p2⟩
      · cases o2
      · exact R.two j k s t b p1 o1 p2 o2 z1 z2
  · obtain ⟨h1, h2, h3, h4⟩ := R.kept p hp
    have hb : p.1 ≠ a := fun z => h4 i d hi (by rw [ha, z])
    refine ⟨h1, ⟨h2, hb⟩, h3, fun j e2 q => ?_⟩
    rcases old j _ q with ⟨_, e1⟩ | ⟨hj, q1⟩
    · cases e1
    · exact h4 j e2 q1
/-- what the frame owns is walked -/
theorem Rel.lend (R : Rel K C M H n ρ σ) {i : Nat} {a : Addr} {o : HO} (hi : ρ[i]? = some (.ow d)) (ha : (σ[i]?).getD none = some (.ref a)) (ho : H a = some o) : Rel K { C with kp := (a, o) :: C.kp } M H n (ρ.set i (.lt a d)) σ := by
  obtain ⟨b, e1, m, nv, t⟩ := R.sl i _ hi
  rw [ha] at e1
  cases e1
  have old : ∀ (j : Nat) (s : Slot), (ρ.set i (.lt a d))[j]? = some s → (j = i ∧ s = .lt a d) ∨ (j ≠ i ∧ ρ[j]? = some s) := fun j s q => by
    rcases set_at q with ⟨rfl, hl, rfl⟩ | ⟨hj, q⟩
    · exact .inl ⟨rfl, rfl⟩
    · exact .inr ⟨hj, q⟩
  refine ⟨by rw [List.length_set]; exact R.len, R.sub, R.dom, R.ext, R.fU, R.uV, R.vM, R.feed, fun j s q => ?_, R.pin, fun j e2 b q q2 => ?_, fun j s b q o2 q2 => ?_, fun j k s t b q1 o1 q2 o2 z1 z2 => ?_, fun p hp => ?_⟩
  · rcases old j s q with ⟨rfl, rfl⟩ | ⟨hj, q1⟩
    · exact ⟨ha, m, nv, t⟩
    · exact R.sl j s q1
  · rcases old j _ q with ⟨_, e1⟩ | ⟨hj, q1⟩
    · cases e1
    · exact R.br0 j e2 b q1 q2
  · rcases old j s q with ⟨rfl, _⟩ | ⟨hj, q1⟩
    · exact R.new j _ b hi rfl q2
    · exact R.new j s b q1 o2 q2
  · rcases old j s q1 with ⟨rfl, rfl⟩ | ⟨hj, p1⟩
    · rcases old k t q2 with ⟨rfl, _⟩ | ⟨hk, p2⟩
      · rfl
      · exact R.two j k _ t b hi rfl p2 o2 z1 z2
    · rcases old k t q2 with ⟨rfl, rfl⟩ | ⟨hk, p2⟩
      · exact R.two j k s _ b p1 o1 hi rfl z1 z2
      · exact R.two j k s t b p1 o1 p2 o2 z1 z2
  · rcases List.mem_cons.mp hp with rfl | hp
    · refine ⟨ho, m, nv, fun j e2 q z => ?_⟩
      rcases old j _ q with ⟨_, e1⟩ | ⟨hj, q1⟩
      · cases e1
      · exact hj (R.two j i _ _ a q1 rfl hi rfl z ha)
    · obtain ⟨h1, h2, h3, h4⟩ := R.kept p hp
      refine ⟨h1, h2, h3, fun j e2 q => ?_⟩
      rcases old j _ q with ⟨_, e1⟩ | ⟨hj, q1⟩
      · cases e1
      · exact h4 j e2 q1
/-- and is walked no more -/
theorem Rel.unlend {a : Addr} {o : HO} (R : Rel K { C with kp := (a, o) :: C.kp } M H n ρ σ) {i : Nat} (hi : ρ[i]? = some (.lt a d)) (hk : ∀ p ∈ C.kp, p.1 ≠ a) : Rel K C M H n (ρ.set i (.ow d)) σ := by
  obtain ⟨ha, m, nv, t⟩ := R.sl i _ hi
  have old : ∀ (j : Nat) (s : Slot), (ρ.set i (.ow d))[j]? = some s → (j = i ∧ s = .ow d) ∨ (j ≠ i ∧ ρ[j]? = some s) := fun j s q => by
    rcases set_at q with ⟨rfl, hl, rfl⟩ | ⟨hj, q⟩
    · exact .inl ⟨rfl, rfl⟩
    · exact .inr ⟨hj, q⟩
  refine ⟨by rw [List.length_set]; exact R.len, R.sub, R.dom, R.ext, R.fU, R.uV, R.vM, R.feed, fun j s q => ?_, R.pin, fun j e2 b q q2 => ?_, fun j s b q o2 q2 => ?_, fun j k s t b q1 o1 q2 o2 z1 z2 => ?_, fun p hp => ?_⟩
  · rcases old j s q with ⟨rfl, rfl⟩ | ⟨hj, q1⟩
    · exact ⟨a, ha, m, nv, t⟩
    · exact R.sl j s q1
  · rcases old j _ q with ⟨_, e1⟩ | ⟨hj, q1⟩
    · cases e1
    · exact R.br0 j e2 b q1 q2
  · rcases old j s q with ⟨rfl, _⟩ | ⟨hj, q1⟩
    · exact R.new j _ b hi rfl q2
    · exact R.new j s b q1 o2 q2
  · rcases old j s q1 with ⟨rfl, rfl⟩ | ⟨hj, p1⟩
    · rcases old k t q2 with ⟨rfl, _⟩ | ⟨hk, p2⟩
      · rfl
      · exact R.two j k _ t b hi rfl p2 o2 z1 z2
    · rcases old k t q2 with ⟨rfl, rfl⟩ | ⟨hk, p2⟩
      · exact R.two j k s _ b p1 o1 hi rfl z1 z2
      · exact R.two j k s t b p1 o1 p2 o2 z1 z2
  · obtain ⟨h1, h2, h3, h4⟩ := R.kept p (List.mem_cons_of_mem _ hp)
    refine ⟨h1, h2, h3, fun j e2 q => ?_⟩
    rcases old j _ q with ⟨rfl, _⟩ | ⟨hj, q1⟩
    · rw [ha]
      intro z
      cases z
      exact hk p hp rfl
    · exact h4 j e2 q1
end
end Dp

set_option maxHeartbeats 4000000
namespace Dp
open PySem PySem.Spec PyProof.Rows L2

abbrev DW := Nat → List Slot → (D → Nat → Prop) → Prop
abbrev DWT := Nat → List Slot → (Bool → Nat → Prop) → Prop
abbrev DWS := Nat → List Slot → (List D → Nat → Prop) → Prop
abbrev DWA := Nat → List Slot → (List Slot → Nat → Prop) → Prop
section
variable (X : Cx)
def DE (e : Expr) (κ : Kd) (w : DW) : Prop := ∃ t, PE X e t ∧ ∀ (C : Fm) (M : Addr → Prop) (H : Hp) (n : Nat) (ρ : List Slot) (σ : L2.St) (P : D → Nat → Prop) (Q : VK), Rel X.K C M H n ρ σ → w n ρ P →
  (∀ v H' d n', Ext C.U H H' → FeedC X.K C.F M H' n' → VR X.K C.V M H H' κ v d → P d n' → Q v H') → t σ H Q
def DT (e : Expr) (w : DWT) : Prop := ∃ t, PT X e t ∧ ∀ (C : Fm) (M : Addr → Prop) (H : Hp) (n : Nat) (ρ : List Slot) (σ : L2.St) (P : Bool → Nat → Prop) (Q : Bool → Hp → Prop), Rel X.K C M H n ρ σ → w n ρ P →
  (∀ b H' n', Ext C.U H H' → FeedC X.K C.F M H' n' → P b n' → Q b H') → t σ H Q
def DTW (e : Expr) (w : DWT) : Prop := ∃ t, PW X e t ∧ ∀ (C : Fm) (M : Addr → Prop) (H : Hp) (n : Nat) (ρ : List Slot) (σ : L2.St) (P : Bool → Nat → Prop) (Q : Bool → Hp → Prop), Rel X.K C M H n ρ σ → w n ρ P →
  (∀ b H' n', Ext C.U H H' → FeedC X.K C.F M H' n' → P b n' → Q b H') → t σ H Q
/-- arguments that are read -/
def DAd (es : List Expr) (w : DWS) : Prop := ∃ t, PA X es t ∧ ∀ (C : Fm) (M : Addr → Prop) (H : Hp) (n : Nat) (ρ : List Slot) (σ : L2.St) (P : List D → Nat → Prop) (Q : List V → Hp → Prop), Rel X.K C M H n ρ σ → w n ρ P →
  (∀ vs H' ds n', Ext C.U H H' → FeedC X.K C.F M H' n' → Paired (fun v d => AtT X.K C.V M H' d v) vs ds → P ds n' → Q vs H') → t σ H Q
/-- items that are kept -/
def DAk (es : List Expr) (w : DWS) : Prop := ∃ t, PA X es t ∧ ∀ (C : Fm) (M : Addr → Prop) (H : Hp) (n : Nat) (ρ : List Slot) (σ : L2.St) (P : List D → Nat → Prop) (Q : List V → Hp → Prop), Rel X.K C M H n ρ σ → w n ρ P →
  (∀ vs H' ds n', Ext C.U H H' → FeedC X.K C.F M H' n' → Ats X.K M H' ds vs → P ds n' → Q vs H') → t σ H Q
/-- an argument of an own def -/
def ArgOk (K : PySem.W.Frag) (F : Option (Addr × Addr)) (V' M : Addr → Prop) (H : Hp) (v : V) (s : Slot) : Prop := SlotOk K F V' M H s (some v) ∧ s.owns = false
def DA1 (e : Expr) (w : Nat → List Slot → (Slot → Nat → Prop) → Prop) : Prop := ∃ t, PE X e t ∧ ∀ (C : Fm) (M : Addr → Prop) (H : Hp) (n : Nat) (ρ : List Slot) (σ : L2.St) (P : Slot → Nat → Prop) (Q : VK), Rel X.K C M H n ρ σ → w n ρ P →
  (∀ v H' s n', Ext C.U H H' → FeedC X.K C.F M H' n' → ArgOk X.K C.F C.V M H' v s → P s n' → Q v H') → t σ H Q
def DAs (es : List Expr) (w : DWA) : Prop := ∃ t, PA X es t ∧ ∀ (C : Fm) (M : Addr → Prop) (H : Hp) (n : Nat) (ρ : List Slot) (σ : L2.St) (P : List Slot → Nat → Prop) (Q : List V → Hp → Prop), Rel X.K C M H n ρ σ → w n ρ P →
  (∀ vs H' ss n', Ext C.U H H' → FeedC X.K C.F M H' n' → Paired (ArgOk X.K C.F C.V M H') vs ss → P ss n' → Q vs H') → t σ H Q
end

/-! ### names and constants -/
def wVar (i : Nat) : DW := fun n ρ P => match ρ[i]? with
  | some (.sh d) => P d n
  | _ => False
def wVarT (i : Nat) : DW := fun n ρ P => match ρ[i]? with
  | some (.sh d) => P d n
  | some (.br d) => P d n
  | some (.ow d) => P d n
  | some (.lt _ d) => P d n
  | _ => False
def wC (d : D) : DW := fun n _ P => P d n
section
variable {X : Cx} {a b c e : Expr} {κ κa κb : Kd} {wa wb wc : DW} {pos : Pos}
theorem getD_some {σ : L2.St} {i : Nat} {v : V} (h : (σ[i]?).getD none = some v) : σ[i]? = some (some v) := by
  cases q : σ[i]? with
  | none => rw [q] at h; cases h
  | some o => rw [q] at h; exact congrArg some h
theorem de_name {i : Nat} (h : PE X e (tVar i)) : DE X e .sh (wVar i) := by
  refine ⟨_, h, fun C M H n ρ σ P Q R w q => ?_⟩
  unfold wVar at w
  split at w
  · rename_i d hd
    obtain ⟨v, e1, h1⟩ := R.sl i _ hd
    exact ⟨v, getD_some e1, q v H d n (Ext.refl _ _) R.feed h1 w⟩
  · exact w.elim
theorem de_nameT {i : Nat} (h : PE X e (tVar i)) : DE X e .tp (wVarT i) := by
  refine ⟨_, h, fun C M H n ρ σ P Q R w q => ?_⟩
  unfold wVarT at w
  split at w
  · rename_i d hd
    obtain ⟨v, e1, h1⟩ := R.sl i _ hd
    exact ⟨v, getD_some e1, q v H d n (Ext.refl _ _) R.feed (At.tp R.vM h1) w⟩
  · rename_i d hd
    obtain ⟨v, e1, h1⟩ := R.sl i _ hd
    exact ⟨v, getD_some e1, q v H d n (Ext.refl _ _) R.feed h1 w⟩
  · rename_i d hd
    obtain ⟨a, e1, _, h2, h3⟩ := R.sl i _ hd
    exact ⟨.ref a, getD_some e1, q _ H d n (Ext.refl _ _) R.feed (h3.att h2) w⟩
  · rename_i a d hd
    obtain ⟨e1, _, h2, h3⟩ := R.sl i _ hd
    exact ⟨.ref a, getD_some e1, q _ H d n (Ext.refl _ _) R.feed (h3.att h2) w⟩
  · exact w.elim
theorem dv (i : Nat) {x : Str} {pos : Pos} (hN : X.N[i]? = some x := by rfl) (hv : Vis X.env.scope x := by first | exact Or.inl rfl | exact Or.inr (Or.inl rfl) | exact Or.inr (Or.inr rfl)) (hd : (x == ("__debug__" : Str)) = false := by decide)
    (hcd : (x == ("__classdict__" : Str)) = false := by decide) : DE X (.Name x pos) .sh (wVar i) := de_name (pe_var hN hv hd hcd)
theorem dvT (i : Nat) {x : Str} {pos : Pos} (hN : X.N[i]? = some x := by rfl) (hv : Vis X.env.scope x := by first | exact Or.inl rfl | exact Or.inr (Or.inl rfl) | exact Or.inr (Or.inr rfl)) (hd : (x == ("__debug__" : Str)) = false := by decide)
    (hcd : (x == ("__classdict__" : Str)) = false := by decide) : DE X (.Name x pos) .tp (wVarT i) := de_nameT (pe_var hN hv hd hcd)
theorem de_const {d : D} {v : V} (h : PE X e (tC v)) (hd : ∀ M H, At X.K M H d v) : DE X e .sh (wC d) :=
  ⟨_, h, fun C M H n ρ σ P Q R w q => q v H d n (Ext.refl _ _) R.feed (hd M H) w⟩
theorem dc_int {i : Int} {j pos} : DE X (.Constant (.int i) j pos) .sh (wC (.int i)) := de_const pe_int fun _ _ => rfl
theorem dc_bl {b : Bool} {j pos} : DE X (.Constant (.bool b) j pos) .sh (wC (.bl b)) := de_const pe_bl fun _ _ => rfl
theorem dc_non {j pos} : DE X (.Constant .none j pos) .sh (wC .non) := de_const pe_non fun _ _ => rfl
theorem dc_str {x : Str} {j pos} (hx : decide (x.length ≤ 1000) = true := by rfl) : DE X (.Constant (.str x) j pos) .sh (wC (.str x)) :=
  de_const pe_str fun _ _ => ⟨rfl, Nat.le_trans (of_decide_eq_true hx) (by rw [sizeLine_eq]; decide)⟩
/-- a module's number -/
theorem dc_gint {x : Str} {i : Int} {t : Tok} {pos : Pos} (hg : Gl X x) (hm : X.mg x = some (.int i t)) (hd : (x == ("__debug__" : Str)) = false := by decide) : DE X (.Name x pos) .sh (wC (.int i)) :=
  de_const (pe_glob hg hm (v := .int i) ⟨t, rfl⟩ hd) fun _ _ => rfl
/-- forgetting -/
theorem DE.tp (h : DE X e κ wa) : DE X e .tp wa := by
  obtain ⟨t, h1, h2⟩ := h
  exact ⟨t, h1, fun C M H n ρ σ P Q R w q => h2 C M H n ρ σ P Q R w fun v H' d n' e f r p => q v H' d n' e f (r.tpOf R.dom R.vM) p⟩
theorem DE.sh (h : DE X e κ wa) (hk : κ ≠ .tp := by intro z; cases z) : DE X e .sh wa := by
  obtain ⟨t, h1, h2⟩ := h
  exact ⟨t, h1, fun C M H n ρ σ P Q R w q => h2 C M H n ρ σ P Q R w fun v H' d n' e f r p => q v H' d n' e f (r.shOf R.dom hk) p⟩

/-! ### operations -/
/-- an operation on two values and what it does to plain things -/
def OpA (K : PySem.W.Frag) (κ : Kd) (r : R2) (f : D → D → (D → Prop) → Prop) : Prop := ∀ (U : Addr → Prop) (M : Addr → Prop) (H : Hp) (d e : D) (x y : V) (P : D → Prop) (Q : VK), (∀ a, M a → ∃ o, H a = some o) → (∀ a, U a → M a) →
  AtT K U M H d x → AtT K U M H e y → f d e P → (∀ v H' z, Grow H H' → VR K U M H H' κ v z → P z → Q v H') → r x y H Q
def wOp (f : D → D → (D → Prop) → Prop) (wa wb : DW) : DW := fun n ρ P => wa n ρ fun x n1 => wb n1 ρ fun y n2 => f x y fun z => P z n2
theorem bin_ok {r : R2} {f : D → D → (D → Prop) → Prop} (hA : OpA X.K κ r f) {ta tb : TE} (ha : ∀ (C : Fm) (M : Addr → Prop) (H : Hp) (n : Nat) (ρ : List Slot) (σ : L2.St) (P : D → Nat → Prop) (Q : VK), Rel X.K C M H n ρ σ → wa n ρ P →
      (∀ v H' d n', Ext C.U H H' → FeedC X.K C.F M H' n' → VR X.K C.V M H H' κa v d → P d n' → Q v H') → ta σ H Q)
    (hb : ∀ (C : Fm) (M : Addr → Prop) (H : Hp) (n : Nat) (ρ : List Slot) (σ : L2.St) (P : D → Nat → Prop) (Q : VK), Rel X.K C M H n ρ σ → wb n ρ P →
      (∀ v H' d n', Ext C.U H H' → FeedC X.K C.F M H' n' → VR X.K C.V M H H' κb v d → P d n' → Q v H') → tb σ H Q)
    (C : Fm) (M : Addr → Prop) (H : Hp) (n : Nat) (ρ : List Slot) (σ : L2.St) (P : D → Nat → Prop) (Q : VK) (R : Rel X.K C M H n ρ σ) (w : wOp f wa wb n ρ P)
    (q : ∀ v H' d n', Ext C.U H H' → FeedC X.K C.F M H' n' → VR X.K C.V M H H' κ v d → P d n' → Q v H') : tOp r ta tb σ H Q := by
  refine ha C M H n ρ σ _ _ R w fun x H1 d n1 e1 f1 r1 w1 => ?_
  have R1 := R.step e1 f1
  refine hb C M H1 n1 ρ σ _ _ R1 w1 fun y H2 e n2 e2 f2 r2 w2 => ?_
  have R2' := R1.step e2 f2
  refine hA C.V M H2 d e x y _ _ R2'.dom R2'.vM ((r1.tpOf R.dom R.vM).pres (R1.pres e2) e2 R.uV) (r2.tpOf R1.dom R1.vM) w2 fun v H3 z g vr p => ?_
  exact q v H3 z n2 ((e1.trans e2).trans g.ext) (f2.grow g) (VR.back (e1.trans e2) vr) p
theorem de_op {op : Operator} {r : R2} {f : D → D → (D → Prop) → Prop} (ho : OpR X (binaryOp op) r) (hA : OpA X.K κ r f) (ha : DE X a κa wa) (hb : DE X b κb wb) : DE X (.BinOp a op b pos) κ (wOp f wa wb) := by
  obtain ⟨ta, ha1, ha2⟩ := ha
  obtain ⟨tb, hb1, hb2⟩ := hb
  exact ⟨_, pe_op ho ha1 hb1, fun C M H n ρ σ P Q R w q => bin_ok hA ha2 hb2 C M H n ρ σ P Q R w q⟩
theorem de_ix {r : R2} {f : D → D → (D → Prop) → Prop} (ho : IxR X r) (hA : OpA X.K κ r f) (ha : DE X a κa wa) (hb : DE X b κb wb) (hs : PlainIx b := by intro _ _; rfl) : DE X (.Subscript a b pos) κ (wOp f wa wb) := by
  obtain ⟨ta, ha1, ha2⟩ := ha
  obtain ⟨tb, hb1, hb2⟩ := hb
  exact ⟨_, pe_ix ho ha1 hb1 hs, fun C M H n ρ σ P Q R w q => bin_ok hA ha2 hb2 C M H n ρ σ P Q R w q⟩
theorem de_cmp {op : CmpOp} {r : R2} {f : D → D → (D → Prop) → Prop} (ho : OpR X (compareOp op) r) (hA : OpA X.K .sh r f) (ha : DE X a κa wa) (hb : DE X b κb wb) (hm : behindInMarks op b = false) : DE X (.Compare a [op] [b] pos) .sh (wOp f wa wb) := by
  obtain ⟨ta, ha1, ha2⟩ := ha
  obtain ⟨tb, hb1, hb2⟩ := hb
  exact ⟨_, pe_cmpR ho ha1 hb1 hm, fun C M H n ρ σ P Q R w q => bin_ok hA ha2 hb2 C M H n ρ σ P Q R w q⟩
/-- a value that is a truth, as a test -/
def wTest (w : DW) : DWT := fun n ρ P => w n ρ fun d n1 => match d with
  | .bl b => P b n1
  | _ => False
theorem test_ok {U : Addr → Prop} {K : PySem.W.Frag} {M : Addr → Prop} {H H' : Hp} {v : V} {b : Bool} (h : VR K U M H H' κ v (.bl b)) : v = .bl b := by
  cases κ with
  | sh => exact h
  | tp => exact h
  | fr => obtain ⟨a, _, _, t⟩ := h; exact (show False from t).elim
theorem dt_cmp {op : CmpOp} {r : R2} {f : D → D → (D → Prop) → Prop} (ho : OpR X (compareOp op) r) (hA : OpA X.K .sh r f) (ha : DE X a κa wa) (hb : DE X b κb wb) (hm : behindInMarks op b = false) : DT X (.Compare a [op] [b] pos) (wTest (wOp f wa wb)) := by
  obtain ⟨ta, ha1, ha2⟩ := ha
  obtain ⟨tb, hb1, hb2⟩ := hb
  refine ⟨_, pt_cmpR ho ha1 hb1 hm, fun C M H n ρ σ P Q R w q => ?_⟩
  refine bin_ok hA ha2 hb2 C M H n ρ σ _ _ R w fun v H' d n' e f r p => ?_
  cases d with
  | bl b => exact ⟨b, test_ok r, q b H' n' e f p⟩
  | _ => exact p.elim
theorem dt_val (h : DE X e κ wa) (he : ∀ whole, isTrue e X.env whole = (do let v ← whole; standAt e.pos; holding [v] (truthy v)) := by intro _; rfl) : DT X e (wTest wa) := by
  obtain ⟨t, h1, h2⟩ := h
  refine ⟨_, pt_val h1 he, fun C M H n ρ σ P Q R w q => ?_⟩
  refine h2 C M H n ρ σ _ _ R w fun v H' d n' e f r p => ?_
  cases d with
  | bl b => exact ⟨b, test_ok r, q b H' n' e f p⟩
  | _ => exact p.elim
/-- a op b op' c -/
def wChain (f g : D → D → (D → Prop) → Prop) (wa wb wc : DW) : DW := fun n ρ P => wa n ρ fun x n1 => wb n1 ρ fun y n2 => f x y fun z => match z with
  | .bl true => wc n2 ρ fun u n3 => g y u fun r => P r n3
  | .bl false => P (.bl false) n2
  | _ => False
theorem chain_ok {r r' : R2} {f g : D → D → (D → Prop) → Prop} (hA : OpA X.K .sh r f) (hB : OpA X.K .sh r' g) {ta tb tc : TE} {κc : Kd} (ha : ∀ (C : Fm) (M : Addr → Prop) (H : Hp) (n : Nat) (ρ : List Slot) (σ : L2.St) (P : D → Nat → Prop) (Q : VK), Rel X.K C M H n ρ σ → wa n ρ P →
      (∀ v H' d n', Ext C.U H H' → FeedC X.K C.F M H' n' → VR X.K C.V M H H' κa v d → P d n' → Q v H') → ta σ H Q)
    (hb : ∀ (C : Fm) (M : Addr → Prop) (H : Hp) (n : Nat) (ρ : List Slot) (σ : L2.St) (P : D → Nat → Prop) (Q : VK), Rel X.K C M H n ρ σ → wb n ρ P →
      (∀ v H' d n', Ext C.U H H' → FeedC X.K C.F M H' n' → VR X.K C.V M H H' κb v d → P d n' → Q v H') → tb σ H Q)
    (hc : ∀ (C : Fm) (M : Addr → Prop) (H : Hp) (n : Nat) (ρ : List Slot) (σ : L2.St) (P : D → Nat → Prop) (Q : VK), Rel X.K C M H n ρ σ → wc n ρ P →
      (∀ v H' d n', Ext C.U H H' → FeedC X.K C.F M H' n' → VR X.K C.V M H H' κc v d → P d n' → Q v H') → tc σ H Q)
    (C : Fm) (M : Addr → Prop) (H : Hp) (n : Nat) (ρ : List Slot) (σ : L2.St) (P : D → Nat → Prop) (Q : VK) (R : Rel X.K C M H n ρ σ) (w : wChain f g wa wb wc n ρ P)
    (q : ∀ v H' d n', Ext C.U H H' → FeedC X.K C.F M H' n' → VR X.K C.V M H H' .sh v d → P d n' → Q v H') : tChain r r' ta tb tc σ H Q := by
  refine ha C M H n ρ σ _ _ R w fun x H1 d n1 e1 f1 r1 w1 => ?_
  have R1 := R.step e1 f1
  refine hb C M H1 n1 ρ σ _ _ R1 w1 fun y H2 e n2 e2 f2 r2 w2 => ?_
  have R2' := R1.step e2 f2
  have ty : AtT X.K C.V M H2 e y := r2.tpOf R1.dom R1.vM
  refine hA C.V M H2 d e x y _ _ R2'.dom R2'.vM ((r1.tpOf R.dom R.vM).pres (R1.pres e2) e2 R.uV) ty w2 fun v H3 z gr vr p => ?_
  have R3 := R2'.step gr.ext (f2.grow gr)
  cases z with
  | bl k =>
    refine ⟨k, vr, ?_⟩
    cases k with
    | false => exact q _ H3 (.bl false) n2 ((e1.trans e2).trans gr.ext) (f2.grow gr) (show VR X.K C.V M H H3 .sh (.bl false) (.bl false) from rfl) p
    | true =>
      show tc σ H3 _
      refine hc C M H3 n2 ρ σ _ _ R3 p fun u H4 d4 n4 e4 f4 r4 w4 => ?_
      have R4 := R3.step e4 f4
      refine hB C.V M H4 e d4 y u _ _ R4.dom R4.vM ((ty.pres gr.pres (gr.ext (U := C.U)) R.uV).pres (R3.pres e4) e4 R.uV) (r4.tpOf R3.dom R3.vM) w4 fun v5 H5 z5 g5 vr5 p5 => ?_
      exact q v5 H5 z5 n4 ((((e1.trans e2).trans gr.ext).trans e4).trans g5.ext) (f4.grow g5) vr5 p5
  | _ => exact p.elim
theorem de_chain {op op' : CmpOp} {r r' : R2} {f g : D → D → (D → Prop) → Prop} {κc : Kd} (ho : OpR X (compareOp op) r) (hA : OpA X.K .sh r f) (ho' : OpR X (compareOp op') r') (hB : OpA X.K .sh r' g) (ha : DE X a κa wa) (hb : DE X b κb wb) (hc : DE X c κc wc)
    (hm : lastMarks [op, op'] [b, c] = false := by with_unfolding_all rfl) : DE X (.Compare a [op, op'] [b, c] pos) .sh (wChain f g wa wb wc) := by
  obtain ⟨ta, ha1, ha2⟩ := ha
  obtain ⟨tb, hb1, hb2⟩ := hb
  obtain ⟨tc, hc1, hc2⟩ := hc
  exact ⟨_, pe_chain ho ho' ha1 hb1 hc1 hm, fun C M H n ρ σ P Q R w q => chain_ok hA hB ha2 hb2 hc2 C M H n ρ σ P Q R w q⟩
theorem dt_chain {op op' : CmpOp} {r r' : R2} {f g : D → D → (D → Prop) → Prop} {κc : Kd} (ho : OpR X (compareOp op) r) (hA : OpA X.K .sh r f) (ho' : OpR X (compareOp op') r') (hB : OpA X.K .sh r' g) (ha : DE X a κa wa) (hb : DE X b κb wb) (hc : DE X c κc wc)
    (hm : lastMarks [op, op'] [b, c] = false := by with_unfolding_all rfl) : DT X (.Compare a [op, op'] [b, c] pos) (wTest (wChain f g wa wb wc)) := by
  obtain ⟨ta, ha1, ha2⟩ := ha
  obtain ⟨tb, hb1, hb2⟩ := hb
  obtain ⟨tc, hc1, hc2⟩ := hc
  refine ⟨_, pt_chain ho ho' ha1 hb1 hc1 hm, fun C M H n ρ σ P Q R w q => ?_⟩
  refine chain_ok hA hB ha2 hb2 hc2 C M H n ρ σ _ _ R w fun v H' d n' e f r p => ?_
  cases d with
  | bl b => exact ⟨b, r, q b H' n' e f p⟩
  | _ => exact p.elim

/-! ### and, or, not, if -/
def wAndT (u v : DWT) : DWT := fun n ρ P => u n ρ fun c n1 => if c = true then v n1 ρ P else P false n1
def wOrT (u v : DWT) : DWT := fun n ρ P => u n ρ fun c n1 => if c = true then P true n1 else v n1 ρ P
def wNotT (u : DWT) : DWT := fun n ρ P => u n ρ fun c n1 => P (!c) n1
variable {wA wB : DWT} {rest : List Expr}
theorem dw_and1 (h : DT X a wA) : DTW X (.BoolOp .And [a] pos) wA := by
  obtain ⟨t, h1, h2⟩ := h
  exact ⟨t, pw_and1 h1, h2⟩
theorem dw_or1 (h : DT X a wA) : DTW X (.BoolOp .Or [a] pos) wA := by
  obtain ⟨t, h1, h2⟩ := h
  exact ⟨t, pw_or1 h1, h2⟩
theorem dw_and (ha : DT X a wA) (hb : DTW X (.BoolOp .And (b :: rest) pos) wB) : DTW X (.BoolOp .And (a :: b :: rest) pos) (wAndT wA wB) := by
  obtain ⟨t, h1, h2⟩ := ha
  obtain ⟨u, g1, g2⟩ := hb
  refine ⟨_, pw_and h1 g1, fun C M H n ρ σ P Q R w q => ?_⟩
  refine h2 C M H n ρ σ _ _ R w fun c H1 n1 e1 f1 p => ?_
  cases c with
  | false => exact q false H1 n1 e1 f1 p
  | true => exact g2 C M H1 n1 ρ σ P Q (R.step e1 f1) p fun b H2 n2 e2 f2 p2 => q b H2 n2 (e1.trans e2) f2 p2
theorem dw_or (ha : DT X a wA) (hb : DTW X (.BoolOp .Or (b :: rest) pos) wB) : DTW X (.BoolOp .Or (a :: b :: rest) pos) (wOrT wA wB) := by
  obtain ⟨t, h1, h2⟩ := ha
  obtain ⟨u, g1, g2⟩ := hb
  refine ⟨_, pw_or h1 g1, fun C M H n ρ σ P Q R w q => ?_⟩
  refine h2 C M H n ρ σ _ _ R w fun c H1 n1 e1 f1 p => ?_
  cases c with
  | true => exact q true H1 n1 e1 f1 p
  | false => exact g2 C M H1 n1 ρ σ P Q (R.step e1 f1) p fun b H2 n2 e2 f2 p2 => q b H2 n2 (e1.trans e2) f2 p2
theorem DTW.dt (h : DTW X e wA) : DT X e wA := by
  obtain ⟨t, h1, h2⟩ := h
  exact ⟨t, h1.pt, h2⟩
theorem dt_not (ha : DT X a wA) : DT X (.UnaryOp .Not a pos) (wNotT wA) := by
  obtain ⟨t, h1, h2⟩ := ha
  refine ⟨_, pt_not h1, fun C M H n ρ σ P Q R w q => ?_⟩
  exact h2 C M H n ρ σ _ _ R w fun c H1 n1 e1 f1 p => q (!c) H1 n1 e1 f1 p
def wAnd (u v : DW) : DW := fun n ρ P => u n ρ fun c n1 => match c with
  | .bl true => v n1 ρ P
  | .bl false => P (.bl false) n1
  | _ => False
def wOr (u v : DW) : DW := fun n ρ P => u n ρ fun c n1 => match c with
  | .bl true => P (.bl true) n1
  | .bl false => v n1 ρ P
  | _ => False
def wNot (u : DW) : DW := fun n ρ P => u n ρ fun c n1 => match c with
  | .bl b => P (.bl (!b)) n1
  | _ => False
theorem de_one {op} (h : DE X a κ wa) : DE X (.BoolOp op [a] pos) κ wa := by
  obtain ⟨t, h1, h2⟩ := h
  exact ⟨t, pe_one h1, h2⟩
theorem de_and (ha : DE X a κa wa) (hb : DE X (.BoolOp .And (b :: rest) pos) .sh wb) : DE X (.BoolOp .And (a :: b :: rest) pos) .sh (wAnd wa wb) := by
  obtain ⟨t, h1, h2⟩ := ha
  obtain ⟨u, g1, g2⟩ := hb
  refine ⟨_, pe_and h1 g1, fun C M H n ρ σ P Q R w q => ?_⟩
  refine h2 C M H n ρ σ _ _ R w fun c H1 d n1 e1 f1 r1 p => ?_
  cases d with
  | bl k =>
    refine ⟨k, test_ok r1, ?_⟩
    cases k with
    | false => exact q _ H1 _ n1 e1 f1 (show VR X.K C.V M H H1 .sh (.bl false) (.bl false) from rfl) p
    | true =>
      show u σ H1 Q
      exact g2 C M H1 n1 ρ σ P Q (R.step e1 f1) p fun v H2 d n2 e2 f2 r2 p2 => q v H2 d n2 (e1.trans e2) f2 r2 p2
  | _ => exact p.elim
theorem de_or (ha : DE X a κa wa) (hb : DE X (.BoolOp .Or (b :: rest) pos) .sh wb) : DE X (.BoolOp .Or (a :: b :: rest) pos) .sh (wOr wa wb) := by
  obtain ⟨t, h1, h2⟩ := ha
  obtain ⟨u, g1, g2⟩ := hb
  refine ⟨_, pe_or h1 g1, fun C M H n ρ σ P Q R w q => ?_⟩
  refine h2 C M H n ρ σ _ _ R w fun c H1 d n1 e1 f1 r1 p => ?_
  cases d with
  | bl k =>
    refine ⟨k, test_ok r1, ?_⟩
    cases k with
    | true => exact q _ H1 _ n1 e1 f1 (show VR X.K C.V M H H1 .sh (.bl true) (.bl true) from rfl) p
    | false =>
      show u σ H1 Q
      exact g2 C M H1 n1 ρ σ P Q (R.step e1 f1) p fun v H2 d n2 e2 f2 r2 p2 => q v H2 d n2 (e1.trans e2) f2 r2 p2
  | _ => exact p.elim
theorem de_not (ha : DE X a κa wa) : DE X (.UnaryOp .Not a pos) .sh (wNot wa) := by
  obtain ⟨t, h1, h2⟩ := ha
  refine ⟨_, pe_not h1, fun C M H n ρ σ P Q R w q => ?_⟩
  refine h2 C M H n ρ σ _ _ R w fun c H1 d n1 e1 f1 r1 p => ?_
  cases d with
  | bl k => exact ⟨k, test_ok r1, q _ H1 _ n1 e1 f1 (show VR X.K C.V M H H1 .sh (.bl (!k)) (.bl (!k)) from rfl) p⟩
  | _ => exact p.elim
def wIf (t : DWT) (u v : DW) : DW := fun n ρ P => t n ρ fun c n1 => if c = true then u n1 ρ P else v n1 ρ P
theorem de_if (hc : DT X c wA) (ha : DE X a κ wa) (hb : DE X b κ wb) : DE X (.IfExp c a b pos) κ (wIf wA wa wb) := by
  obtain ⟨t, h1, h2⟩ := hc
  obtain ⟨u, g1, g2⟩ := ha
  obtain ⟨u', k1, k2⟩ := hb
  refine ⟨_, pe_ifExp h1 g1 k1, fun C M H n ρ σ P Q R w q => ?_⟩
  refine h2 C M H n ρ σ _ _ R w fun c H1 n1 e1 f1 p => ?_
  cases c with
  | true => exact g2 C M H1 n1 ρ σ P Q (R.step e1 f1) p fun v H2 d n2 e2 f2 r2 p2 => q v H2 d n2 (e1.trans e2) f2 (VR.back e1 r2) p2
  | false => exact k2 C M H1 n1 ρ σ P Q (R.step e1 f1) p fun v H2 d n2 e2 f2 r2 p2 => q v H2 d n2 (e1.trans e2) f2 (VR.back e1 r2) p2

/-! ### argument lists -/
def wNil : DWS := fun n _ P => P [] n
def wCons (w : DW) (ws : DWS) : DWS := fun n ρ P => w n ρ fun d n1 => ws n1 ρ fun ds n2 => P (d :: ds) n2
variable {es : List Expr} {ws : DWS}
theorem dad_nil : DAd X [] wNil := ⟨_, pa_nil, fun C M H n ρ σ P Q R w q => q [] H [] n (Ext.refl _ _) R.feed .nil w⟩
theorem dak_nil : DAk X [] wNil := ⟨_, pa_nil, fun C M H n ρ σ P Q R w q => q [] H [] n (Ext.refl _ _) R.feed rfl w⟩
theorem dad_cons (ha : DE X e κ wa) (hr : DAd X es ws) (hs : starEach (e :: es) X.env = (false, eval e X.env) :: starEach es X.env := by rfl) : DAd X (e :: es) (wCons wa ws) := by
  obtain ⟨t, h1, h2⟩ := ha
  obtain ⟨u, g1, g2⟩ := hr
  refine ⟨_, pa_cons h1 g1 hs, fun C M H n ρ σ P Q R w q => ?_⟩
  refine h2 C M H n ρ σ _ _ R w fun v H1 d n1 e1 f1 r1 p => ?_
  have R1 := R.step e1 f1
  refine g2 C M H1 n1 ρ σ _ _ R1 p fun vs H2 ds n2 e2 f2 r2 p2 => ?_
  exact q (v :: vs) H2 (d :: ds) n2 (e1.trans e2) f2 (.cons ((r1.tpOf R.dom R.vM).pres (R1.pres e2) e2 R.uV) r2) p2
theorem dak_cons (ha : DE X e κ wa) (hr : DAk X es ws) (hk : κ ≠ .tp := by intro z; cases z) (hs : starEach (e :: es) X.env = (false, eval e X.env) :: starEach es X.env := by rfl) : DAk X (e :: es) (wCons wa ws) := by
  obtain ⟨t, h1, h2⟩ := ha
  obtain ⟨u, g1, g2⟩ := hr
  refine ⟨_, pa_cons h1 g1 hs, fun C M H n ρ σ P Q R w q => ?_⟩
  refine h2 C M H n ρ σ _ _ R w fun v H1 d n1 e1 f1 r1 p => ?_
  have R1 := R.step e1 f1
  refine g2 C M H1 n1 ρ σ _ _ R1 p fun vs H2 ds n2 e2 f2 r2 p2 => ?_
  exact q (v :: vs) H2 (d :: ds) n2 (e1.trans e2) f2 ⟨v, vs, rfl, (r1.shOf R.dom hk).pres (R1.pres e2), r2⟩ p2
/-- displays -/
def wTup (ws : DWS) : DW := fun n ρ P => ws n ρ fun ds n1 => ds.length ≤ sizeLine ∧ P (.tup ds) n1
def wLst (ws : DWS) : DW := fun n ρ P => ws n ρ fun ds n1 => ds.length ≤ sizeLine ∧ P (.lst ds) n1
theorem fresh_pres {M : Addr → Prop} {H : Hp} {p : Addr} {o : HO} (h : H p = none) : Pres M H (fun b => M b ∨ b = p) (upd H p o) := ⟨fun b u e _ => by rw [upd_ne (ne_of_none e h)]; exact e, fun b z => z.elim .inl fun z => .inr (by rw [z]; exact h)⟩
theorem upd_grow {H : Hp} {p : Addr} {o : HO} (h : H p = none) : Grow H (upd H p o) := .inr ⟨p, o, h, rfl⟩
theorem de_tup {x1} (h : DAk X es ws) : DE X (.Tuple es x1 pos) .sh (wTup ws) := by
  obtain ⟨t, h1, h2⟩ := h
  refine ⟨_, pe_tup h1, fun C M H n ρ σ P Q R w q => ?_⟩
  refine h2 C M H n ρ σ _ _ R w fun vs H1 ds n1 e1 f1 r1 p => ?_
  refine ⟨by rw [r1.length]; exact p.1, fun a ha => ?_⟩
  have g : Grow H1 (upd H1 a (.tup vs)) := upd_grow ha
  refine q _ _ (.tup ds) n1 (e1.trans g.ext) (f1.grow g) ⟨a, vs, rfl, ⟨fun z => ?_, upd_same⟩, r1.pres g.pres⟩ p.2
  obtain ⟨o, z⟩ := (R.step e1 f1).dom a z
  rw [ha] at z; cases z
theorem de_lst (h : DAk X es ws) : DE X (.List es pos) .fr (wLst ws) := by
  obtain ⟨t, h1, h2⟩ := h
  refine ⟨_, pe_lst h1, fun C M H n ρ σ P Q R w q => ?_⟩
  refine h2 C M H n ρ σ _ _ R w fun vs H1 ds n1 e1 f1 r1 p => ?_
  refine ⟨by rw [r1.length]; exact p.1, fun a ha => ?_⟩
  have g : Grow H1 (upd H1 a (.lst vs)) := upd_grow ha
  exact q _ _ (.lst ds) n1 (e1.trans g.ext) (f1.grow g) (VR.back e1 ⟨a, rfl, ha, vs, upd_same, r1.pres (fresh_pres ha)⟩) p.2

/-! ### built-in functions -/
def CallA (K : PySem.W.Frag) (κ : Kd) (r : List V → Hp → VK → Prop) (f : List D → (D → Prop) → Prop) : Prop := ∀ (U : Addr → Prop) (M : Addr → Prop) (H : Hp) (ds : List D) (vs : List V) (P : D → Prop) (Q : VK), (∀ a, M a → ∃ o, H a = some o) → (∀ a, U a → M a) →
  Paired (fun v d => AtT K U M H d v) vs ds → f ds P → (∀ v H' z, Grow H H' → VR K U M H H' κ v z → P z → Q v H') → r vs H Q
def wCB (f : List D → (D → Prop) → Prop) (ws : DWS) : DW := fun n ρ P => ws n ρ fun ds n1 => f ds fun z => P z n1
theorem cb_ok {r : List V → Hp → VK → Prop} {f : List D → (D → Prop) → Prop} {t : TA} (hA : CallA X.K κ r f) (h2 : ∀ (C : Fm) (M : Addr → Prop) (H : Hp) (n : Nat) (ρ : List Slot) (σ : L2.St) (P : List D → Nat → Prop) (Q : List V → Hp → Prop), Rel X.K C M H n ρ σ → ws n ρ P →
      (∀ vs H' ds n', Ext C.U H H' → FeedC X.K C.F M H' n' → Paired (fun v d => AtT X.K C.V M H' d v) vs ds → P ds n' → Q vs H') → t σ H Q)
    (C : Fm) (M : Addr → Prop) (H : Hp) (n : Nat) (ρ : List Slot) (σ : L2.St) (P : D → Nat → Prop) (Q : VK) (R : Rel X.K C M H n ρ σ) (w : wCB f ws n ρ P)
    (q : ∀ v H' d n', Ext C.U H H' → FeedC X.K C.F M H' n' → VR X.K C.V M H H' κ v d → P d n' → Q v H') : tCB r t σ H Q := by
  refine h2 C M H n ρ σ _ _ R w fun vs H1 ds n1 e1 f1 r1 p => ?_
  have R1 := R.step e1 f1
  refine hA C.V M H1 ds vs _ _ R1.dom R1.vM r1 p fun v H2 z g vr pz => ?_
  exact q v H2 z n1 (e1.trans g.ext) (f1.grow g) (VR.back e1 vr) pz
theorem de_callB {x : Str} {id : String} {p : Pos} {r : List V → Hp → VK → Prop} {f : List D → (D → Prop) → Prop} (hc : CallR X (.builtin id) r) (hA : CallA X.K κ r f) (hg : Gl X x) (hm : X.mg x = none) (hv : bootBuiltins x = some (.builtin id)) (ha : DAd X (e :: es) ws)
    (hn : x ≠ "__name__" := by decide) (hdb : (x == ("__debug__" : Str)) = false := by decide)
    (he : starEach (e :: es) X.env = (false, eval e X.env) :: starEach es X.env := by rfl) (hpl : (backTo pos (starEach es X.env)).any (·.1) = false := by rfl) : DE X (.Call (.Name x p) (e :: es) [] pos) κ (wCB f ws) := by
  obtain ⟨t, h1, h2⟩ := ha
  exact ⟨_, pe_callB hc hg hm hv h1 hn hdb he hpl, fun C M H n ρ σ P Q R w q => cb_ok hA h2 C M H n ρ σ P Q R w q⟩
theorem de_callTy {x : Str} {T : String} {p : Pos} {r : List V → Hp → VK → Prop} {f : List D → (D → Prop) → Prop} (hc : CallR X (.type T) r) (hA : CallA X.K κ r f) (hg : Gl X x) (hm : X.mg x = none) (hv : bootBuiltins x = some (.type T)) (ha : DAd X (e :: es) ws)
    (hn : x ≠ "__name__" := by decide) (hdb : (x == ("__debug__" : Str)) = false := by decide)
    (he : starEach (e :: es) X.env = (false, eval e X.env) :: starEach es X.env := by rfl) (hpl : (backTo pos (starEach es X.env)).any (·.1) = false := by rfl) : DE X (.Call (.Name x p) (e :: es) [] pos) κ (wCB f ws) := by
  obtain ⟨t, h1, h2⟩ := ha
  exact ⟨_, pe_callTy hc hg hm hv h1 hn hdb he hpl, fun C M H n ρ σ P Q R w q => cb_ok hA h2 C M H n ρ σ P Q R w q⟩
end
end Dp

set_option maxHeartbeats 4000000
namespace Dp
open PySem PySem.Spec PyProof.Rows L2

/-! ### calls of the program's own defs -/
def RelA (K : PySem.W.Frag) (F : Option (Addr × Addr)) (U V' M : Addr → Prop) (H : Hp) (n : Nat) (ss : List Slot) (vs : List V) : Prop :=
  (∀ a, M a → ∃ o, H a = some o) ∧ (∀ f, F = some f → U f.1) ∧ (∀ a, U a → V' a) ∧ (∀ a, V' a → M a) ∧ FeedC K F M H n ∧ Paired (ArgOk K F V' M H) vs ss
abbrev W2 := List Slot → Nat → (D → Nat → Prop) → Prop
/-- a def's promise, told by plain things -/
def sp2 (K : PySem.W.Frag) (κ : Kd) (W : W2) (np : Nat) : Sp := fun vs H Q _ => vs.length = np ∧ ∃ (F : Option (Addr × Addr)) (U V' M : Addr → Prop) (n : Nat) (ss : List Slot) (P : D → Nat → Prop), RelA K F U V' M H n ss vs ∧ W ss n P ∧
  ∀ v H' d n', Ext U H H' → FeedC K F M H' n' → VR K V' M H H' κ v d → P d n' → Q v H'
def wSlot (w : DW) : Nat → List Slot → (Slot → Nat → Prop) → Prop := fun n ρ P => w n ρ fun d n1 => P (.sh d) n1
def wSlotB (w : DW) : Nat → List Slot → (Slot → Nat → Prop) → Prop := fun n ρ P => w n ρ fun d n1 => P (.br d) n1
def wFeed (i : Nat) : Nat → List Slot → (Slot → Nat → Prop) → Prop := fun n ρ P => match ρ[i]? with
  | some .fd => P .fd n
  | _ => False
def wsNil : DWA := fun n _ P => P [] n
def wsCons (w : Nat → List Slot → (Slot → Nat → Prop) → Prop) (ws : DWA) : DWA := fun n ρ P => w n ρ fun s n1 => ws n1 ρ fun ss n2 => P (s :: ss) n2
def wCall (W : W2) (was : DWA) : DW := fun n ρ P => was n ρ fun ss n1 => W ss n1 P
section
variable {X : Cx} {a b c e : Expr} {es : List Expr} {κ κa κb : Kd} {wa wb wc : DW} {pos : Pos} {w1 : Nat → List Slot → (Slot → Nat → Prop) → Prop} {was : DWA} {ws : DWS}
theorem da_sh (h : DE X e κ wa) (hk : κ ≠ .tp := by intro z; cases z) : DA1 X e (wSlot wa) := by
  obtain ⟨t, h1, h2⟩ := h
  refine ⟨t, h1, fun C M H n ρ σ P Q R w q => h2 C M H n ρ σ _ _ R w fun v H' d n' e f r p => ?_⟩
  exact q v H' (.sh d) n' e f ⟨⟨v, rfl, r.shOf R.dom hk⟩, rfl⟩ p
theorem da_br (h : DE X e κ wa) : DA1 X e (wSlotB wa) := by
  obtain ⟨t, h1, h2⟩ := h
  refine ⟨t, h1, fun C M H n ρ σ P Q R w q => h2 C M H n ρ σ _ _ R w fun v H' d n' e f r p => ?_⟩
  exact q v H' (.br d) n' e f ⟨⟨v, rfl, r.tpOf R.dom R.vM⟩, rfl⟩ p
theorem da_fd (i : Nat) {x : Str} {pos : Pos} (hN : X.N[i]? = some x := by rfl) (hv : Vis X.env.scope x := by first | exact Or.inl rfl | exact Or.inr (Or.inl rfl) | exact Or.inr (Or.inr rfl)) (hd : (x == ("__debug__" : Str)) = false := by decide)
    (hcd : (x == ("__classdict__" : Str)) = false := by decide) : DA1 X (.Name x pos) (wFeed i) := by
  refine ⟨_, pe_var hN hv hd hcd, fun C M H n ρ σ P Q R w q => ?_⟩
  unfold wFeed at w
  split at w
  · rename_i hd
    obtain ⟨f, e1, h1⟩ := R.sl i _ hd
    exact ⟨.ref f.1, getD_some e1, q _ H .fd n (Ext.refl _ _) R.feed ⟨⟨f, rfl, h1⟩, rfl⟩ w⟩
  · exact w.elim
theorem das_nil : DAs X [] wsNil := ⟨_, pa_nil, fun C M H n ρ σ P Q R w q => q [] H [] n (Ext.refl _ _) R.feed .nil w⟩
theorem das_cons (ha : DA1 X e w1) (hr : DAs X es was) (hs : starEach (e :: es) X.env = (false, eval e X.env) :: starEach es X.env := by rfl) : DAs X (e :: es) (wsCons w1 was) := by
  obtain ⟨t, h1, h2⟩ := ha
  obtain ⟨u, g1, g2⟩ := hr
  refine ⟨_, pa_cons h1 g1 hs, fun C M H n ρ σ P Q R w q => ?_⟩
  refine h2 C M H n ρ σ _ _ R w fun v H1 d n1 e1 f1 r1 p => ?_
  have R1 := R.step e1 f1
  refine g2 C M H1 n1 ρ σ _ _ R1 p fun vs H2 ds n2 e2 f2 r2 p2 => ?_
  exact q (v :: vs) H2 (d :: ds) n2 (e1.trans e2) f2 (.cons ⟨r1.1.pres (R1.pres e2) (fun _ z => z) e2 R.uV, r1.2⟩ r2) p2
theorem de_call {k : Nat} {f : Addr} {fd : FuncData} {ps : List Str} {W : W2} {x : Str} {p : Pos} (G : FnOk X.prog X.w X.K X.mg X.base CX0 k f fd ps (sp2 X.K κ W ps.length)) (hW : ∀ ss n P, W ss n P → ss.length = ps.length)
    (hr : Room k X.A) (hg : Gl X x) (hm : X.mg x = some (.ref f)) (hk : PySem.W.keepIn X.K (.ref f) = true) (hb : Binds X.K fd ps []) (ha : DAs X (e :: es) was)
    (hdb : (x == ("__debug__" : Str)) = false := by decide) (he : starEach (e :: es) X.env = (false, eval e X.env) :: starEach es X.env := by rfl) (hpl : (backTo pos (starEach es X.env)).any (·.1) = false := by rfl) :
    DE X (.Call (.Name x p) (e :: es) [] pos) κ (wCall W was) := by
  obtain ⟨t, h1, h2⟩ := ha
  refine ⟨_, pe_call G hr hg hm hk hb .nil pass0 h1 hdb he hpl, fun C M H n ρ σ P Q R w q => ?_⟩
  refine h2 C M H n ρ σ _ _ R w fun vs H1 ss n1 e1 f1 r1 p => ?_
  have R1 := R.step e1 f1
  show sp2 X.K κ W ps.length (vs ++ []) H1 Q E0
  rw [List.append_nil]
  refine ⟨(Paired.length r1).trans (hW _ _ _ p), C.F, C.U, C.V, M, n1, ss, P, ⟨R1.dom, R1.fU, R1.uV, R1.vM, f1, r1⟩, p, fun v H2 d n2 e2 f2 r2 p2 => ?_⟩
  exact q v H2 d n2 (e1.trans e2) f2 (VR.back e1 r2) p2

/-! ### built-in methods that change nothing -/
def MtA (K : PySem.W.Frag) (κ : Kd) (T : String) (r : V → List V → Hp → VK → Prop) (f : D → List D → (D → Prop) → Prop) : Prop := ∀ (U : Addr → Prop) (M : Addr → Prop) (H : Hp) (d : D) (ds : List D) (x : V) (vs : List V) (P : D → Prop) (Q : VK), (∀ a, M a → ∃ o, H a = some o) → (∀ a, U a → M a) →
  AtT K U M H d x → Paired (fun v d => AtT K U M H d v) vs ds → f d ds P → (∀ v H' z, Grow H H' → VR K U M H H' κ v z → P z → Q v H') → r x vs H Q
/-- what the receiver must be -/
def isT (T : String) (d : D) : Prop := match d with
  | .str _ => T = "str"
  | .int _ => T = "int"
  | .lst _ => T = "list"
  | _ => False
def wBM (T : String) (f : D → List D → (D → Prop) → Prop) (wo : DW) (ws : DWS) : DW := fun n ρ P => wo n ρ fun d n1 => isT T d ∧ ws n1 ρ fun ds n2 => f d ds fun z => P z n2
theorem isT_ok {T : String} {K : PySem.W.Frag} {U : Addr → Prop} {M : Addr → Prop} {H : Hp} {d : D} {x : V} (h : isT T d) (hx : AtT K U M H d x) : tyV K T x H := by
  cases d with
  | str z => obtain ⟨e, _⟩ := hx; subst e; exact h
  | int i => cases (show x = .int i from hx); exact h
  | lst ds => obtain ⟨a, vs, e, _, hq, _⟩ := hx; subst e; exact .inl ⟨h, vs, .inl hq⟩
  | _ => exact (show False from h).elim
theorem de_bm {name : Str} {apos cpos : Pos} {T id : String} {r : V → List V → Hp → VK → Prop} {f : D → List D → (D → Prop) → Prop} (pa : PlainAttrs T) (slot : PySem.Slot T name id) (hty : typeOf (.builtin id) = pure (.type "method_descriptor")) (hm : MtR X id r)
    (hA : MtA X.K κ T r f) (ho : DE X a κa wa) (ha : DAd X (e :: es) ws)
    (hbase : attributeBase a name X.env (eval a X.env) = eval a X.env := by rfl)
    (hfew : ((backTo cpos (starEach (e :: es) X.env)).all (fun x => !x.1) && (backToKw cpos (keywordEach [] X.env)).all (fun x => x.1.isSome)
      && decide ((e :: es).length + ([] : List Keyword).length + (if ([] : List Keyword).isEmpty then 0 else 1) < 30)) = true := by rfl)
    (hline : (apos.endLine == cpos.line) = true := by rfl) (hs : starEach (e :: es) X.env = (false, eval e X.env) :: starEach es X.env := by rfl) (hplain : (backTo cpos (starEach es X.env)).any (·.1) = false := by rfl) :
    DE X (.Call (.Attribute a name apos) (e :: es) [] cpos) κ (wBM T f wa ws) := by
  obtain ⟨t, h1, h2⟩ := ho
  obtain ⟨u, g1, g2⟩ := ha
  refine ⟨_, pe_bm pa slot hty hm h1 g1 hbase hfew hline hs hplain, fun C M H n ρ σ P Q R w q => ?_⟩
  refine h2 C M H n ρ σ _ _ R w fun x H1 d n1 e1 f1 r1 p => ?_
  have R1 := R.step e1 f1
  have tx := r1.tpOf R.dom R.vM
  refine ⟨isT_ok p.1 tx, ?_⟩
  refine g2 C M H1 n1 ρ σ _ _ R1 p.2 fun vs H2 ds n2 e2 f2 r2 p2 => ?_
  have R2' := R1.step e2 f2
  refine hA C.V M H2 d ds x vs _ _ R2'.dom R2'.vM (tx.pres (R1.pres e2) e2 R.uV) r2 p2 fun v H3 z g vr pz => ?_
  exact q v H3 z n2 ((e1.trans e2).trans g.ext) (f2.grow g) (VR.back (e1.trans e2) vr) pz

/-! ### slices -/
def DO (X : Cx) (e : Option Expr) (w : Nat → List Slot → (Option Int → Nat → Prop) → Prop) : Prop := ∃ t, PO X e t ∧ ∀ (C : Fm) (M : Addr → Prop) (H : Hp) (n : Nat) (ρ : List Slot) (σ : L2.St) (P : Option Int → Nat → Prop) (Q : Option Int → Hp → Prop), Rel X.K C M H n ρ σ → w n ρ P →
  (∀ o H' n', Ext C.U H H' → FeedC X.K C.F M H' n' → P o n' → Q o H') → t σ H Q
def wNoPart : Nat → List Slot → (Option Int → Nat → Prop) → Prop := fun n _ P => P none n
def wPart (w : DW) : Nat → List Slot → (Option Int → Nat → Prop) → Prop := fun n ρ P => w n ρ fun d n1 => match d with
  | .int i => P (some i) n1
  | _ => False
theorem do_none : DO X none wNoPart := ⟨_, po_none, fun C M H n ρ σ P Q R w q => q none H n (Ext.refl _ _) R.feed w⟩
theorem int_ok {U : Addr → Prop} {K : PySem.W.Frag} {M : Addr → Prop} {H H' : Hp} {v : V} {i : Int} (h : VR K U M H H' κ v (.int i)) : v = .int i := by
  cases κ with
  | sh => exact h
  | tp => exact h
  | fr => obtain ⟨a, _, _, t⟩ := h; exact (show False from t).elim
theorem do_some (h : DE X e κ wa) : DO X (some e) (wPart wa) := by
  obtain ⟨t, h1, h2⟩ := h
  refine ⟨_, po_some h1, fun C M H n ρ σ P Q R w q => ?_⟩
  refine h2 C M H n ρ σ _ _ R w fun v H1 d n1 e1 f1 r1 p => ?_
  cases d with
  | int i => exact ⟨i, int_ok r1, q _ H1 n1 e1 f1 p⟩
  | _ => exact p.elim
def SlA (K : PySem.W.Frag) (κ : Kd) (r : V → Option Int → Option Int → Hp → VK → Prop) (f : D → Option Int → Option Int → (D → Prop) → Prop) : Prop := ∀ (U : Addr → Prop) (M : Addr → Prop) (H : Hp) (d : D) (x : V) (lo hi : Option Int) (P : D → Prop) (Q : VK), (∀ a, M a → ∃ o, H a = some o) → (∀ a, U a → M a) →
  AtT K U M H d x → f d lo hi P → (∀ v H' z, Grow H H' → VR K U M H H' κ v z → P z → Q v H') → r x lo hi H Q
def wSl (f : D → Option Int → Option Int → (D → Prop) → Prop) (w : DW) (wl wh : Nat → List Slot → (Option Int → Nat → Prop) → Prop) : DW := fun n ρ P => w n ρ fun d n1 => wl n1 ρ fun lo n2 => wh n2 ρ fun hi n3 => f d lo hi fun z => P z n3
theorem de_sl {lo hi : Option Expr} {p2 : Pos} {r : V → Option Int → Option Int → Hp → VK → Prop} {f : D → Option Int → Option Int → (D → Prop) → Prop} {wl wh : Nat → List Slot → (Option Int → Nat → Prop) → Prop} (hr : SlR X r) (hA : SlA X.K κ r f) (he : DE X e κa wa) (hl : DO X lo wl) (hh : DO X hi wh) :
    DE X (.Subscript e (.Slice lo hi none p2) pos) κ (wSl f wa wl wh) := by
  obtain ⟨t, h1, h2⟩ := he
  obtain ⟨u, g1, g2⟩ := hl
  obtain ⟨u', k1, k2⟩ := hh
  refine ⟨_, pe_slice hr h1 g1 k1, fun C M H n ρ σ P Q R w q => ?_⟩
  refine h2 C M H n ρ σ _ _ R w fun v H1 d n1 e1 f1 r1 p => ?_
  have R1 := R.step e1 f1
  have tv := r1.tpOf R.dom R.vM
  refine g2 C M H1 n1 ρ σ _ _ R1 p fun lo H2 n2 e2 f2 p2 => ?_
  have R2' := R1.step e2 f2
  refine k2 C M H2 n2 ρ σ _ _ R2' p2 fun hi H3 n3 e3 f3 p3 => ?_
  have R3 := R2'.step e3 f3
  refine hA C.V M H3 d v lo hi _ _ R3.dom R3.vM ((tv.pres (R1.pres e2) e2 R.uV).pres (R2'.pres e3) e3 R.uV) p3 fun v H4 z g vr pz => ?_
  exact q v H4 z n3 (((e1.trans e2).trans e3).trans g.ext) (f3.grow g) (VR.back ((e1.trans e2).trans e3) vr) pz
end

/-! ### statements -/
structure E2 where
  nx : Nat → List Slot → Prop
  rt : D → Nat → Prop
  bk : Nat → List Slot → Prop := fun _ _ => False
  ct : Nat → List Slot → Prop := fun _ _ => False
abbrev DWStm := E2 → Nat → List Slot → Prop
structure Lifts (K : PySem.W.Frag) (C : Fm) (κ : Kd) (D2 : E2) (E : Ends) : Prop where
  nx : ∀ M H n ρ σ, Rel K C M H n ρ σ → D2.nx n ρ → E.nx σ H
  rt : ∀ v H d n, Ext C.U C.H0 H → FeedC K C.F C.M0 H n → VR K C.V C.M0 C.H0 H κ v d → D2.rt d n → E.rt v H
  bk : ∀ M H n ρ σ, Rel K C M H n ρ σ → D2.bk n ρ → E.bk σ H
  ct : ∀ M H n ρ σ, Rel K C M H n ρ σ → D2.ct n ρ → E.ct σ H
def DS (X : Cx) (κ : Kd) (st : Stmt) (w : DWStm) : Prop := ∃ t, PS X st t ∧ ∀ (C : Fm) (M : Addr → Prop) (H : Hp) (n : Nat) (ρ : List Slot) (σ : L2.St) (D2 : E2) (E : Ends), Rel X.K C M H n ρ σ → Lifts X.K C κ D2 E → w D2 n ρ → t E σ H
def DSs (X : Cx) (κ : Kd) (st : List Stmt) (w : DWStm) : Prop := ∃ t, PSs X st t ∧ ∀ (C : Fm) (M : Addr → Prop) (H : Hp) (n : Nat) (ρ : List Slot) (σ : L2.St) (D2 : E2) (E : Ends), Rel X.K C M H n ρ σ → Lifts X.K C κ D2 E → w D2 n ρ → t E σ H
def wNext : DWStm := fun D2 n ρ => D2.nx n ρ
def wSeq (u v : DWStm) : DWStm := fun D2 n ρ => u { D2 with nx := v D2 } n ρ
def wDrop (w : DW) : DWStm := fun D2 n ρ => w n ρ fun _ n1 => D2.nx n1 ρ
def wRet (w : DW) : DWStm := fun D2 n ρ => w n ρ fun d n1 => D2.rt d n1
def wIfS (t : DWT) (u v : DWStm) : DWStm := fun D2 n ρ => t n ρ fun c n1 => if c = true then u D2 n1 ρ else v D2 n1 ρ
def wSet (i : Nat) (w : DW) : DWStm := fun D2 n ρ => w n ρ fun d n1 => D2.nx n1 (ρ.set i (.sh d))
section
variable {X : Cx} {κ κe : Kd} {st : Stmt} {rest : List Stmt} {u v : DWStm} {wa : DW} {wA : DWT} {e c : Expr} {pos : Pos}
theorem dss_nil : DSs X κ [] wNext := ⟨_, pss_nil, fun C M H n ρ σ D2 E R L w => L.nx M H n ρ σ R w⟩
theorem dss_cons (h1 : DS X κ st u) (h2 : DSs X κ rest v) : DSs X κ (st :: rest) (wSeq u v) := by
  obtain ⟨t, a1, a2⟩ := h1
  obtain ⟨t', b1, b2⟩ := h2
  refine ⟨_, pss_cons a1 b1, fun C M H n ρ σ D2 E R L w => ?_⟩
  exact a2 C M H n ρ σ { D2 with nx := v D2 } { E with nx := t' E } R ⟨fun M H n ρ σ R w => b2 C M H n ρ σ D2 E R L w, L.rt, L.bk, L.ct⟩ w
theorem dss_one (h1 : DS X κ st u) : DSs X κ [st] u := by
  obtain ⟨t, a1, a2⟩ := h1
  exact ⟨t, pss_one a1, a2⟩
theorem ds_expr (h : DE X e κe wa) (hs : swapsWith e none pos.line X.env = pure false := by rfl) : DS X κ (.Expr e pos) (wDrop wa) := by
  obtain ⟨t, a1, a2⟩ := h
  refine ⟨_, ps_expr a1 hs, fun C M H n ρ σ D2 E R L w => ?_⟩
  exact a2 C M H n ρ σ _ _ R w fun v H' d n' e1 f1 r1 p => L.nx M H' n' ρ σ (R.step e1 f1) p
theorem ret_ok {K : PySem.W.Frag} {C : Fm} {M : Addr → Prop} {H H' : Hp} {n n' : Nat} {ρ : List Slot} {σ : L2.St} {D2 : E2} {E : Ends} {d : D} {v : V} (R : Rel K C M H n ρ σ) (L : Lifts K C κ D2 E) (e : Ext C.U H H') (f : FeedC K C.F M H' n') (r : VR K C.V M H H' κ v d) (hk : κ ≠ .tp) (p : D2.rt d n') : E.rt v H' := by
  have less : Pres M H' C.M0 H' := Pres.less R.sub
  refine L.rt v H' d n' (R.ext.trans e) (f.pres less fun _ _ _ z => z) ?_ p
  cases κ with
  | sh => exact At.pres less r
  | tp => exact absurd rfl hk
  | fr =>
    have r' := VR.back (κ := .fr) R.ext r
    obtain ⟨a, e1, h1, h2⟩ := r'
    exact ⟨a, e1, h1, h2.pres (Pres.less fun b z => z.imp (R.sub b) id) fun _ z => z⟩
theorem ds_ret (h : DE X e κ wa) (hk : κ ≠ .tp := by intro z; cases z) : DS X κ (.Return (some e) pos) (wRet wa) := by
  obtain ⟨t, a1, a2⟩ := h
  refine ⟨_, ps_ret a1, fun C M H n ρ σ D2 E R L w => ?_⟩
  exact a2 C M H n ρ σ _ _ R w fun v H' d n' e1 f1 r1 p => ret_ok R L e1 f1 r1 hk p
theorem ds_if {a b : List Stmt} (hc : DT X c wA) (ha : DSs X κ a u) (hb : DSs X κ b v) : DS X κ (.If c a b pos) (wIfS wA u v) := by
  obtain ⟨t, a1, a2⟩ := hc
  obtain ⟨t', b1, b2⟩ := ha
  obtain ⟨t'', c1, c2⟩ := hb
  refine ⟨_, ps_if a1 b1 c1, fun C M H n ρ σ D2 E R L w => ?_⟩
  refine a2 C M H n ρ σ _ _ R w fun b H1 n1 e1 f1 p => ?_
  cases b with
  | true => exact b2 C M H1 n1 ρ σ D2 E (R.step e1 f1) L p
  | false => exact c2 C M H1 n1 ρ σ D2 E (R.step e1 f1) L p
theorem ds_set {i : Nat} {x : Str} {pos' : Pos} (hN : X.N.Nodup) (hi : X.N[i]? = some x) (hx : Loc X.env.scope x) (he : DE X e κe wa) (hk : κe ≠ .tp := by intro z; cases z) (hs : swapsWith e (some (.Name x pos')) pos.line X.env = pure false := by rfl)
    (hf : X.fn x = true ∨ X.env.scope.names.lookup x = some .local := by first | exact .inl rfl | exact .inr rfl | assumption) : DS X κ (.Assign [.Name x pos'] e pos) (wSet i wa) := by
  obtain ⟨t, a1, a2⟩ := he
  refine ⟨_, ps_set hN hi hx a1 hs hf, fun C M H n ρ σ D2 E R L w => ?_⟩
  refine a2 C M H n ρ σ _ _ R w fun v H' d n' e1 f1 r1 p => ?_
  exact L.nx M H' n' _ _ ((R.step e1 f1).set (r1.shOf R.dom hk)) p
end

/-! ### lists and dicts that a def owns -/
section
variable {X : Cx} {κ κe : Kd} {e : Expr} {wa : DW} {pos : Pos}
/-- x = a new list: the def's own from here -/
def wSetO (i : Nat) (w : DW) : DWStm := fun D2 n ρ => w n ρ fun d n1 => D2.nx n1 (ρ.set i (.ow d))
theorem ds_setO {i : Nat} {x : Str} {pos' : Pos} (hN : X.N.Nodup) (hi : X.N[i]? = some x) (hx : Loc X.env.scope x) (he : DE X e .fr wa) (hs : swapsWith e (some (.Name x pos')) pos.line X.env = pure false := by rfl)
    (hf : X.fn x = true ∨ X.env.scope.names.lookup x = some .local := by first | exact .inl rfl | exact .inr rfl | assumption) : DS X κ (.Assign [.Name x pos'] e pos) (wSetO i wa) := by
  obtain ⟨t, a1, a2⟩ := he
  refine ⟨_, ps_set hN hi hx a1 hs hf, fun C M H n ρ σ D2 E R L w => ?_⟩
  refine a2 C M H n ρ σ _ _ R w fun v H' d n' e1 f1 r1 p => ?_
  obtain ⟨a, rfl, h1, h2⟩ := r1
  exact L.nx _ H' n' _ _ (R.setOw e1 f1 h1 h2) p
/-- it is given away -/
def wFrz (i : Nat) (w : DWStm) : DWStm := fun D2 n ρ => ∃ d, ρ[i]? = some (.ow d) ∧ w D2 n (ρ.set i (.sh d))
theorem frz_ok {K : PySem.W.Frag} {C : Fm} {M : Addr → Prop} {H : Hp} {n : Nat} {ρ : List Slot} {σ : L2.St} {i : Nat} {d : D} (R : Rel K C M H n ρ σ) (hi : ρ[i]? = some (.ow d)) : ∃ M', Rel K C M' H n (ρ.set i (.sh d)) σ := by
  obtain ⟨a, e1, _⟩ := R.sl i _ hi
  exact ⟨_, R.freeze hi e1⟩
theorem ds_frz {st : Stmt} {w : DWStm} (i : Nat) (h : DS X κ st w) : DS X κ st (wFrz i w) := by
  obtain ⟨t, a1, a2⟩ := h
  refine ⟨t, a1, fun C M H n ρ σ D2 E R L ⟨d, hd, hw⟩ => ?_⟩
  obtain ⟨M', R'⟩ := frz_ok R hd
  exact a2 C M' H n _ σ D2 E R' L hw
theorem dss_frz {st : List Stmt} {w : DWStm} (i : Nat) (h : DSs X κ st w) : DSs X κ st (wFrz i w) := by
  obtain ⟨t, a1, a2⟩ := h
  refine ⟨t, a1, fun C M H n ρ σ D2 E R L ⟨d, hd, hw⟩ => ?_⟩
  obtain ⟨M', R'⟩ := frz_ok R hd
  exact a2 C M' H n _ σ D2 E R' L hw
/-- return x, x the def's own -/
def wRetO (i : Nat) : DWStm := fun D2 n ρ => ∃ d, ρ[i]? = some (.ow d) ∧ D2.rt d n
theorem ds_retO {x : Str} {p : Pos} (i : Nat) (h : PE X (.Name x p) (tVar i)) : DS X .fr (.Return (some (.Name x p)) pos) (wRetO i) := by
  refine ⟨_, ps_ret h, fun C M H n ρ σ D2 E R L ⟨d, hd, hw⟩ => ?_⟩
  obtain ⟨a, e1, m, nv, t⟩ := R.sl i _ hd
  refine ⟨.ref a, getD_some e1, L.rt _ H d n R.ext (R.feed.pres (Pres.less R.sub) fun _ _ _ z => z) ⟨a, rfl, (R.new i _ a hd rfl e1).2, ?_⟩ hw⟩
  exact t.pres (Pres.less fun b z => z.elim (R.sub b) fun z => by rw [z]; exact m) fun _ z => z
/-- a method that changes what the def owns: what it makes of it, and what it tells -/
def MutA (K : PySem.W.Frag) (r : V → List V → Hp → VK → Prop) (f : D → List D → (D → D → Prop) → Prop) : Prop := ∀ (M : Addr → Prop) (H : Hp) (a : Addr) (d : D) (ds : List D) (vs : List V) (P : D → D → Prop) (Q : VK), M a → Tops K M H a d → Ats K M H ds vs → f d ds P →
  (∀ o e z v, Tops K M (upd H a o) a e → At K M (upd H a o) z v → P e z → Q v (upd H a o)) → r (.ref a) vs H Q
def wOM (i : Nat) (T : String) (f : D → List D → (D → D → Prop) → Prop) (ws : DWS) : DWStm := fun D2 n ρ => ∃ d, ρ[i]? = some (.ow d) ∧ isT T d ∧ ws n ρ fun ds n1 => f d ds fun e _ => D2.nx n1 (ρ.set i (.ow e))
theorem om_pres {M : Addr → Prop} {H : Hp} {a : Addr} {o : HO} (m : M a) : Pres M H M (upd H a o) := ⟨fun b o' q nb => by rw [upd_ne (fun z => nb (by rw [z]; exact m))]; exact q, fun _ z => .inl z⟩
theorem ds_om {x name : Str} {p apos cpos : Pos} {T id : String} {r : V → List V → Hp → VK → Prop} {f : D → List D → (D → D → Prop) → Prop} {es : List Expr} {ws : DWS} (i : Nat) (pa : PlainAttrs T) (slot : PySem.Slot T name id) (hty : typeOf (.builtin id) = pure (.type "method_descriptor"))
    (hm : MtR X id r) (hA : MutA X.K r f) (h : PE X (.Name x p) (tVar i)) (ha : DAk X (e :: es) ws)
    (hbase : attributeBase (.Name x p) name X.env (eval (.Name x p) X.env) = eval (.Name x p) X.env := by rfl)
    (hfew : ((backTo cpos (starEach (e :: es) X.env)).all (fun x => !x.1) && (backToKw cpos (keywordEach [] X.env)).all (fun x => x.1.isSome)
      && decide ((e :: es).length + ([] : List Keyword).length + (if ([] : List Keyword).isEmpty then 0 else 1) < 30)) = true := by rfl)
    (hline : (apos.endLine == cpos.line) = true := by rfl) (hs : starEach (e :: es) X.env = (false, eval e X.env) :: starEach es X.env := by rfl) (hplain : (backTo cpos (starEach es X.env)).any (·.1) = false := by rfl)
    (hsw : swapsWith (.Call (.Attribute (.Name x p) name apos) (e :: es) [] cpos) none pos.line X.env = pure false := by rfl) :
    DS X κ (.Expr (.Call (.Attribute (.Name x p) name apos) (e :: es) [] cpos) pos) (wOM i T f ws) := by
  obtain ⟨t, a1, a2⟩ := ha
  refine ⟨_, ps_expr (pe_bm pa slot hty hm h a1 hbase hfew hline hs hplain) hsw, fun C M H n ρ σ D2 E R L ⟨d, hd, hT, hw⟩ => ?_⟩
  obtain ⟨a, e1, m, nv, tt⟩ := R.sl i _ hd
  refine ⟨.ref a, getD_some e1, isT_ok hT (tt.att nv), ?_⟩
  refine a2 C M H n ρ σ _ _ R hw fun vs H1 ds n1 ee f1 r1 p => ?_
  have R1 := R.step ee f1
  obtain ⟨a', e1', m', nv', tt'⟩ := R1.sl i _ hd
  rw [e1] at e1'
  cases e1'
  exact hA M H1 a d ds vs _ _ m' tt' r1 p fun o d' z v t2 hz pp => L.nx M _ n1 _ σ (R1.mut hd e1 t2) pp
def fApp (d : D) (ds : List D) (P : D → D → Prop) : Prop := ∃ xs y, d = .lst xs ∧ ds = [y] ∧ xs.length < sizeLine ∧ P (.lst (xs ++ [y])) .non
theorem a_app {K : PySem.W.Frag} : MutA K rAppend fApp := by
  intro M H a d ds vs P Q m t hv w q
  obtain ⟨xs, y, rfl, rfl, hl, w⟩ := w
  obtain ⟨us, h1, h2⟩ := t
  obtain ⟨u, r, rfl, hu, hr⟩ := hv
  cases (show r = [] from hr)
  refine ⟨a, us, u, rfl, rfl, h1, by rw [h2.length]; exact hl, q _ (.lst (xs ++ [y])) .non _ ⟨us ++ [u], upd_same, ?_⟩ rfl w⟩
  exact (h2.append (Ats.one hu)).pres (om_pres m)
def fExt (d : D) (ds : List D) (P : D → D → Prop) : Prop := ∃ xs ys, d = .lst xs ∧ ds = [.lst ys] ∧ xs.length + ys.length ≤ sizeLine ∧ P (.lst (xs ++ ys)) .non
theorem a_ext {K : PySem.W.Frag} : MutA K rExtend fExt := by
  intro M H a d ds vs P Q m t hv w q
  obtain ⟨xs, ys, rfl, rfl, hl, w⟩ := w
  obtain ⟨us, h1, h2⟩ := t
  obtain ⟨u, r, rfl, hu, hr⟩ := hv
  cases (show r = [] from hr)
  obtain ⟨b, zs, rfl, hb, hz⟩ := hu
  refine ⟨a, b, us, zs, rfl, rfl, h1, hb.2, by rw [h2.length, hz.length]; exact hl, q _ (.lst (xs ++ ys)) .non _ ⟨us ++ zs, upd_same, ?_⟩ rfl w⟩
  exact (h2.append hz).pres (om_pres m)
end

/-! ### what is walked -/
def Yields (K : PySem.W.Frag) (M : Addr → Prop) (H : Hp) (J : It) (ds : List D) : Prop := ∀ (i : Nat) (M' : Addr → Prop) (H' : Hp), Pres M H M' H' → (∀ a, M' a → ∃ o, H' a = some o) →
  (∀ d, ds[i]? = some d → J.go i H' ∧ ∀ x H2, J.yld i H' x H2 → Grow H' H2 ∧ At K M' H2 d x) ∧ (ds.length ≤ i → J.stop i H')
/-- the same where nothing but U is changed meanwhile -/
def YieldsE (K : PySem.W.Frag) (U M : Addr → Prop) (H : Hp) (J : It) (ds : List D) : Prop := ∀ (i : Nat) (M' : Addr → Prop) (H' : Hp), Pres M H M' H' → Ext U H H' → (∀ a, M' a → ∃ o, H' a = some o) →
  (∀ d, ds[i]? = some d → J.go i H' ∧ ∀ x H2, J.yld i H' x H2 → Grow H' H2 ∧ At K M' H2 d x) ∧ (ds.length ≤ i → J.stop i H')
theorem Yields.e {K : PySem.W.Frag} {U M : Addr → Prop} {H : Hp} {J : It} {ds : List D} (h : Yields K M H J ds) : YieldsE K U M H J ds := fun i M' H' p _ d => h i M' H' p d
def DIc (X : Cx) (tg iter : Expr) (w : DWS) : Prop := ∃ wi, PI X tg iter wi ∧ ∀ (C : Fm) (M : Addr → Prop) (H : Hp) (n : Nat) (ρ : List Slot) (σ : L2.St) (P : List D → Nat → Prop) (R : It → Hp → Prop), Rel X.K C M H n ρ σ → w n ρ P →
  (∀ J H' ds n', Ext C.U H H' → FeedC X.K C.F M H' n' → YieldsE X.K C.U M H' J ds → P ds n' → R J H') → wi σ H R
def DI (X : Cx) (tg iter : Expr) (w : DWS) : Prop := ∃ wi, PI X tg iter wi ∧ ∀ (C : Fm) (M : Addr → Prop) (H : Hp) (n : Nat) (ρ : List Slot) (σ : L2.St) (P : List D → Nat → Prop) (R : It → Hp → Prop), Rel X.K C M H n ρ σ → w n ρ P →
  (∀ J H' ds n', Ext C.U H H' → FeedC X.K C.F M H' n' → Yields X.K M H' J ds → P ds n' → R J H') → wi σ H R
/-- the signs of a text -/
def signs (x : Str) : List D := x.cps.toList.map fun c => .str ⟨#[c]⟩
def wSeqOf (w : DW) : DWS := fun n ρ P => w n ρ fun d n1 => match d with
  | .lst ds => P ds n1
  | .tup ds => P ds n1
  | .str x => P (signs x) n1
  | _ => False
theorem yields_list {K : PySem.W.Frag} {M : Addr → Prop} {H : Hp} {a : Addr} {vs : List V} {ds : List D} (h : NdL M H a vs) (hs : Ats K M H ds vs) : Yields K M H (Itl K a) ds := by
  intro i M' H' p _
  have hq : SqL K H' a vs := (h.pres p).sq
  refine ⟨fun d hd => ?_, fun hl => ⟨vs, hq, by rw [hs.length]; exact hl⟩⟩
  obtain ⟨v, e, hv⟩ := (hs.pres p).get hd
  refine ⟨⟨vs, v, hq, e⟩, fun x H2 y => ?_⟩
  obtain ⟨e2, y⟩ := y
  subst e2
  have : some v = some x := e.symm.trans (y vs hq)
  cases this
  exact ⟨.refl, hv⟩
theorem yields_tup {K : PySem.W.Frag} {M : Addr → Prop} {H : Hp} {a : Addr} {vs : List V} {ds : List D} (h : NdT M H a vs) (hs : Ats K M H ds vs) : Yields K M H (Itt K a) ds := by
  intro i M' H' p _
  have hq : SqT K H' a vs := (h.pres p).sq
  refine ⟨fun d hd => ?_, fun hl => ⟨vs, hq, by rw [hs.length]; exact hl⟩⟩
  obtain ⟨v, e, hv⟩ := (hs.pres p).get hd
  refine ⟨⟨vs, v, hq, e⟩, fun x H2 y => ?_⟩
  obtain ⟨e2, y⟩ := y
  subst e2
  have : some v = some x := e.symm.trans (y vs hq)
  cases this
  exact ⟨.refl, hv⟩
theorem yields_str {K : PySem.W.Frag} {M : Addr → Prop} {H : Hp} {z : Str} : Yields K M H (Its z) (signs z) := by
  intro i M' H' p _
  refine ⟨fun d hd => ?_, fun hl => ?_⟩
  · unfold signs at hd
    rw [List.getElem?_map] at hd
    have hi : i < z.cps.size := by
      cases q : z.cps.toList[i]? with
      | none => rw [q] at hd; cases hd
      | some c => simpa using (List.getElem?_eq_some_iff.mp q).1
    refine ⟨hi, fun x H2 y => ?_⟩
    obtain ⟨e2, c, hc, rfl⟩ := y
    subst e2
    have : z.cps.toList[i]? = some c := by simpa using hc
    rw [this] at hd
    have hd' : D.str ⟨#[c]⟩ = d := Option.some.inj hd
    subst hd'
    exact ⟨.refl, rfl, by rw [sizeLine_eq]; show 1 ≤ 16777216; decide⟩
  · show z.cps.size ≤ i
    unfold signs at hl
    simpa using hl
def rngD (lo : Int) (n : Nat) : List D := (List.range n).map fun (i : Nat) => .int (lo + (i : Int))
theorem yields_range {K : PySem.W.Frag} {M : Addr → Prop} {H : Hp} {lo : Int} {m : Nat} : Yields K M H (Itr lo m) (rngD lo m) := by
  intro i M' H' p _
  refine ⟨fun d hd => ?_, fun hl => ?_⟩
  · unfold rngD at hd
    rw [List.getElem?_map] at hd
    have hi : i < m := by
      cases q : (List.range m)[i]? with
      | none => rw [q] at hd; cases hd
      | some c => simpa using (List.getElem?_eq_some_iff.mp q).1
    rw [List.getElem?_range hi] at hd
    have hd' : D.int (lo + i) = d := Option.some.inj hd
    subst hd'
    refine ⟨hi, fun x H2 y => ?_⟩
    obtain ⟨e2, e3⟩ := y
    subst e2
    exact ⟨.refl, e3⟩
  · show m ≤ i
    unfold rngD at hl
    simpa using hl
section
variable {X : Cx} {tg e e2 : Expr} {es : List Expr} {κ : Kd} {wa : DW} {ws : DWS} {p pos : Pos}
theorem di_any (h : DE X e κ wa) (hk : κ ≠ .tp := by intro z; cases z) : DI X tg e (wSeqOf wa) := by
  obtain ⟨t, a1, a2⟩ := h
  refine ⟨_, pi_any a1, fun C M H n ρ σ P Rr R w q => ?_⟩
  refine a2 C M H n ρ σ _ _ R w fun v H1 d n1 e1 f1 r1 p => ?_
  have hv := r1.shOf R.dom hk
  cases d with
  | lst ds =>
    obtain ⟨a, vs, e, hn, hs⟩ := hv
    exact .inl ⟨a, e, ⟨vs, hn.sq⟩, q _ H1 ds n1 e1 f1 (yields_list hn hs) p⟩
  | tup ds =>
    obtain ⟨a, vs, e, hn, hs⟩ := hv
    exact .inr (.inl ⟨a, e, ⟨vs, hn.sq⟩, q _ H1 ds n1 e1 f1 (yields_tup hn hs) p⟩)
  | str z => exact .inr (.inr ⟨z, hv.1, q _ H1 _ n1 e1 f1 yields_str p⟩)
  | _ => exact p.elim
def wRng1 (ws : DWS) : DWS := fun n ρ P => ws n ρ fun ds n1 => ∃ j : Int, ds = [.int j] ∧ (-(2 ^ 62) ≤ j ∧ j < 2 ^ 62) ∧ P (rngD 0 j.toNat) n1
theorem di_range1 (hg : Gl X "range") (hm : X.mg "range" = none) (ha : DAd X [e] ws) (hs : starEach [e] X.env = [(false, eval e X.env)] := by rfl) : DI X tg (.Call (.Name "range" p) [e] [] pos) (wRng1 ws) := by
  obtain ⟨t, a1, a2⟩ := ha
  refine ⟨_, pi_range1 hg hm a1 hs, fun C M H n ρ σ P Rr R w q => ?_⟩
  refine a2 C M H n ρ σ _ _ R w fun vs H1 ds n1 e1 f1 r1 p => ?_
  obtain ⟨j, rfl, hj, p⟩ := p
  cases r1 with
  | cons r rr =>
    cases rr
    have hv : _ = V.int j := r
    exact ⟨j, by rw [hv], hj.1, hj.2, q _ H1 _ n1 e1 f1 yields_range p⟩
theorem DI.c (h : DI X tg e ws) : DIc X tg e ws := by
  obtain ⟨wi, a1, a2⟩ := h
  exact ⟨wi, a1, fun C M H n ρ σ P Rr R w q => a2 C M H n ρ σ P Rr R w fun J H' ds n' e1 f1 y p => q J H' ds n' e1 f1 y.e p⟩
/-- what is only read, walked within an expression -/
theorem dic_any (h : DE X e κ wa) : DIc X tg e (wSeqOf wa) := by
  obtain ⟨t, a1, a2⟩ := h
  refine ⟨_, pi_any a1, fun C M H n ρ σ P Rr R w q => ?_⟩
  refine a2 C M H n ρ σ _ _ R w fun v H1 d n1 e1 f1 r1 p => ?_
  have hv : AtT X.K C.V M H1 d v := r1.tpOf R.dom R.vM
  cases d with
  | lst ds =>
    obtain ⟨a, vs, e, nv, hr, hs⟩ := hv
    refine .inl ⟨a, e, ⟨vs, .inl hr⟩, q _ H1 ds n1 e1 f1 (fun i M' H' pr ex _ => ?_) p⟩
    have hq : SqL X.K H' a vs := by
      rcases hr with hr | ⟨o, hr⟩
      · exact .inl (.inl (ex.keep hr fun z => nv (R.uV a z)))
      · exact .inl (.inr ⟨o, ex.keep hr fun z => nv (R.uV a z)⟩)
    refine ⟨fun d hd => ?_, fun hl => ⟨vs, hq, by rw [hs.length]; exact hl⟩⟩
    obtain ⟨v, e, hv⟩ := (hs.pres pr).get hd
    refine ⟨⟨vs, v, hq, e⟩, fun x H2 y => ?_⟩
    obtain ⟨e2, y⟩ := y
    subst e2
    have : some v = some x := e.symm.trans (y vs hq)
    cases this
    exact ⟨.refl, hv⟩
  | tup ds =>
    obtain ⟨a, vs, e, hn, hs⟩ := hv
    exact .inr (.inl ⟨a, e, ⟨vs, hn.sq⟩, q _ H1 ds n1 e1 f1 (yields_tup hn hs).e p⟩)
  | str z => exact .inr (.inr ⟨z, hv.1, q _ H1 _ n1 e1 f1 yields_str.e p⟩)
  | _ => exact p.elim
end
end Dp

set_option maxHeartbeats 4000000
namespace Dp
open PySem PySem.Spec PyProof.Rows L2

/-! ### targets -/
abbrev BW := D → List Slot → (List Slot → Prop) → Prop
def DG (X : Cx) (tg : Expr) (b : BW) : Prop := ∃ g, PG X tg g ∧ ∀ (C : Fm) (M : Addr → Prop) (H : Hp) (n : Nat) (ρ : List Slot) (σ : L2.St) (d : D) (v : V) (P : List Slot → Prop) (Q : L2.St → Hp → Prop), Rel X.K C M H n ρ σ → At X.K M H d v → b d ρ P →
  (∀ ρ' σ', Rel X.K C M H n ρ' σ' → P ρ' → Q σ' H) → g v σ H Q
def bName (i : Nat) : BW := fun d ρ P => P (ρ.set i (.sh d))
theorem dg_name {X : Cx} {i : Nat} {x : Str} {pos : Pos} (hN : X.N.Nodup) (hi : X.N[i]? = some x) (hx : Loc X.env.scope x) (hf : X.fn x = true ∨ X.env.scope.names.lookup x = some .local := by first | exact .inl rfl | exact .inr rfl | assumption) : DG X (.Name x pos) (bName i) :=
  ⟨_, pg_name hN hi hx hf, fun C M H n ρ σ d v P Q R h w q => q _ _ (R.set h) w⟩

/-! ### for -/
def loopF (b : BW) (body : DWStm) (D2 : E2) : List D → Nat → List Slot → Prop
  | [], n, ρ => D2.nx n ρ
  | d :: ds, n, ρ => b d ρ fun ρ1 => body { D2 with nx := loopF b body D2 ds, ct := loopF b body D2 ds, bk := D2.nx } n ρ1
def wFor (src : DWS) (b : BW) (body : DWStm) : DWStm := fun D2 n ρ => src n ρ fun ds n1 => loopF b body D2 ds n1 ρ
theorem Rel.unpin {K : PySem.W.Frag} {C : Fm} {p : (Addr → Prop) × Hp} {M : Addr → Prop} {H : Hp} {n : Nat} {ρ : List Slot} {σ : L2.St} (R : Rel K { C with pins := p :: C.pins } M H n ρ σ) : Rel K C M H n ρ σ :=
  ⟨R.len, R.sub, R.dom, R.ext, R.fU, R.uV, R.vM, R.feed, R.sl, fun q hq => R.pin q (List.mem_cons_of_mem _ hq), R.br0, R.new, R.two, R.kept⟩
theorem Rel.pinned {K : PySem.W.Frag} {C : Fm} {M : Addr → Prop} {H : Hp} {n : Nat} {ρ : List Slot} {σ : L2.St} (R : Rel K C M H n ρ σ) : Rel K { C with pins := (M, H) :: C.pins } M H n ρ σ :=
  ⟨R.len, R.sub, R.dom, R.ext, R.fU, R.uV, R.vM, R.feed, R.sl, fun q hq => (List.mem_cons.mp hq).elim (fun e => e ▸ Pres.refl M H) (R.pin q), R.br0, R.new, R.two, R.kept⟩
section
variable {X : Cx} {κ : Kd} {tg iter : Expr} {body : List Stmt} {src : DWS} {b : BW} {wb : DWStm} {pos : Pos}
theorem ds_for (hp : PassesOwn (model X.prog X.w) X.A X.env X.xe) (hc : X.calm = true) (hi : DI X tg iter src) (hg : DG X tg b) (hb : DSs X κ body wb)
    (hs : ∀ x, foldedSetIterable iter X.env x = pure x := by intro _; rfl) : DS X κ (.For tg iter body [] pos) (wFor src b wb) := by
  obtain ⟨wi, a1, a2⟩ := hi
  obtain ⟨g, g1, g2⟩ := hg
  obtain ⟨tb, b1, b2⟩ := hb
  refine ⟨_, ps_for hp hc a1 g1 b1 hs, fun C M H n ρ σ D2 E R L w => ?_⟩
  refine a2 C M H n ρ σ _ _ R w fun J H1 ds n1 e1 f1 y w1 => ?_
  have R1 := R.step e1 f1
  refine ⟨fun i m σ' H' => m = ds.length - i ∧ i ≤ ds.length ∧ ∃ M' n' ρ', Rel X.K { C with pins := (M, H1) :: C.pins } M' H' n' ρ' σ' ∧ loopF b wb D2 (ds.drop i) n' ρ', ⟨ds.length, by simp, Nat.zero_le _, M, n1, ρ, R1.pinned, w1⟩, ?_⟩
  rintro i m σ' H' ⟨rfl, hi, M', n', ρ', R', w'⟩
  have pr : Pres M H1 M' H' := R'.pin (M, H1) List.mem_cons_self
  by_cases hlt : i < ds.length
  · have ed : ds.drop i = ds[i] :: ds.drop (i + 1) := List.drop_eq_getElem_cons hlt
    rw [ed] at w'
    obtain ⟨go, yl⟩ := (y i M' H' pr R'.dom).1 ds[i] (List.getElem?_eq_getElem hlt)
    refine .inr ⟨go, fun σ2 H2 => ∃ M2 n2 ρ2, Rel X.K { C with pins := (M, H1) :: C.pins } M2 H2 n2 ρ2 σ2 ∧ loopF b wb D2 (ds.drop (i + 1)) n2 ρ2, fun σ2 H2 ⟨M2, n2, ρ2, R2', w2⟩ => ⟨ds.length - (i + 1), by omega, rfl, hlt, M2, n2, ρ2, R2', w2⟩, fun x H2 hy => ?_⟩
    obtain ⟨gr, hx⟩ := yl x H2 hy
    have R2' := R'.step gr.ext (R'.feed.grow gr)
    refine g2 _ M' H2 n' ρ' σ' ds[i] x _ _ R2' hx w' fun ρ3 σ3 R3 w3 => ?_
    refine b2 _ M' H2 n' ρ3 σ3 { D2 with nx := loopF b wb D2 (ds.drop (i + 1)), ct := loopF b wb D2 (ds.drop (i + 1)), bk := D2.nx } _ R3 ⟨fun M4 H4 n4 ρ4 σ4 R4 w4 => ⟨M4, n4, ρ4, R4, w4⟩, L.rt, fun M4 H4 n4 ρ4 σ4 R4 w4 => L.nx M4 H4 n4 ρ4 σ4 R4.unpin w4, fun M4 H4 n4 ρ4 σ4 R4 w4 => ⟨M4, n4, ρ4, R4, w4⟩⟩ w3
  · have e : i = ds.length := by omega
    subst e
    rw [List.drop_length] at w'
    exact .inl ⟨(y _ M' H' pr R'.dom).2 (Nat.le_refl _), L.nx M' H' n' ρ' σ' R'.unpin w'⟩
end

/-! ### comprehensions -/
def loopC (b : BW) (tt : DWT) (te : DW) (P : List D → Nat → Prop) : List D → List D → Nat → List Slot → Prop
  | [], acc, n, _ => P acc n
  | d :: ds, acc, n, ρ => b d ρ fun ρ1 => tt n ρ1 fun c n1 => if c = true then te n1 ρ1 fun y n2 => loopC b tt te P ds (acc ++ [y]) n2 ρ1 else loopC b tt te P ds acc n1 ρ1
/-- what a block within may do with a name: what is owned may be read -/
def lowS : Slot → Slot
  | .ow d => .br d
  | .lt _ d => .br d
  | s => s
theorem lowS_owns (s : Slot) : (lowS s).owns = false := by cases s <;> rfl
theorem liftS_owns {js : List (Option Nat)} {ρ : List Slot} {i : Nat} {s : Slot} (h : (js.map fun o => match o with | some i => lowS ((ρ[i]?).getD .no) | none => Slot.no)[i]? = some s) : s.owns = false := by
  rw [List.getElem?_map] at h
  cases q : js[i]? with
  | none => rw [q] at h; cases h
  | some o =>
    rw [q] at h
    cases o with
    | none =>
      have e : Slot.no = s := Option.some.inj h
      rw [← e]; rfl
    | some j =>
      have e : lowS ((ρ[j]?).getD .no) = s := Option.some.inj h
      rw [← e]; exact lowS_owns _
def liftS (js : List (Option Nat)) (ρ : List Slot) : List Slot := js.map fun o => match o with
  | some i => lowS ((ρ[i]?).getD .no)
  | none => .no
def wComp (js : List (Option Nat)) (src : DWS) (b : BW) (tt : DWT) (te : DW) : DW := fun n ρ P => src n ρ fun ds n1 => ds.length ≤ 10000000 ∧ loopC b tt te (fun acc n2 => P (.lst acc) n2) ds [] n1 (liftS js ρ)
def DIf (X : Cx) (ifs : List Expr) (w : DWT) : Prop := ∃ t, PIf X ifs t ∧ ∀ (C : Fm) (M : Addr → Prop) (H : Hp) (n : Nat) (ρ : List Slot) (σ : L2.St) (P : Bool → Nat → Prop) (Q : Bool → Hp → Prop), Rel X.K C M H n ρ σ → w n ρ P →
  (∀ b H' n', Ext C.U H H' → FeedC X.K C.F M H' n' → P b n' → Q b H') → t σ H Q
def wYes : DWT := fun n _ P => P true n
theorem dif_nil {X : Cx} : DIf X [] wYes := ⟨_, pif_nil, fun C M H n ρ σ P Q R w q => q true H n (Ext.refl _ _) R.feed w⟩
theorem dif_one {X : Cx} {c : Expr} {w : DWT} (h : DT X c w) : DIf X [c] w := by
  obtain ⟨t, h1, h2⟩ := h
  exact ⟨t, pif_one h1, h2⟩
theorem lift_from {js : List (Option Nat)} {ρ : List Slot} {σ : L2.St} {i : Nat} {s : Slot} (hs : (liftS js ρ)[i]? = some s) : s = .no ∨ ∃ (j : Nat) (s' : Slot), ρ[j]? = some s' ∧ s = lowS s' ∧ ((liftSt js σ)[i]?).getD none = (σ[j]?).getD none := by
  unfold liftS at hs
  unfold liftSt
  rw [List.getElem?_map] at hs ⊢
  cases q : js[i]? with
  | none => rw [q] at hs; cases hs
  | some o =>
    rw [q] at hs
    cases o with
    | none => exact .inl (Option.some.inj hs).symm
    | some j =>
      have e : lowS ((ρ[j]?).getD .no) = s := Option.some.inj hs
      cases q2 : ρ[j]? with
      | none => rw [q2] at e; exact .inl e.symm
      | some s' =>
        rw [q2] at e
        exact .inr ⟨j, s', q2, e.symm, rfl⟩
theorem lift_rel {K : PySem.W.Frag} {F : Option (Addr × Addr)} {U U' M M' : Addr → Prop} {H H' : Hp} {js : List (Option Nat)} {ρ : List Slot} {σ : L2.St} (hsl : ∀ (i : Nat) (s : Slot), ρ[i]? = some s → SlotOk K F U M H s ((σ[i]?).getD none))
    (pr : Pres M H M' H') (br : ∀ d v, AtT K U M H d v → AtT K U' M' H' d v) : ∀ (i : Nat) (s : Slot), (liftS js ρ)[i]? = some s → SlotOk K F U' M' H' s (((liftSt js σ)[i]?).getD none) := by
  intro i s hs
  rcases lift_from (σ := σ) hs with rfl | ⟨j, s', q, rfl, e⟩
  · trivial
  · rw [e]
    have h1 := hsl j s' q
    cases s' with
    | no => trivial
    | sh d => obtain ⟨v, e1, h2⟩ := h1; exact ⟨v, e1, h2.pres pr⟩
    | br d => obtain ⟨v, e1, h2⟩ := h1; exact ⟨v, e1, br d v h2⟩
    | fd => exact h1
    | ow d => obtain ⟨a, e1, _, nv, t⟩ := h1; exact ⟨.ref a, e1, br d _ (t.att nv)⟩
    | lt a d => obtain ⟨e1, _, nv, t⟩ := h1; exact ⟨.ref a, e1, br d _ (t.att nv)⟩
theorem lift_br {K : PySem.W.Frag} {F : Option (Addr × Addr)} {U M : Addr → Prop} {H : Hp} {js : List (Option Nat)} {ρ : List Slot} {σ : L2.St} (hsl : ∀ (i : Nat) (s : Slot), ρ[i]? = some s → SlotOk K F U M H s ((σ[i]?).getD none)) {i : Nat} {d : D} {a : Addr}
    (hs : (liftS js ρ)[i]? = some (.br d)) (ha : ((liftSt js σ)[i]?).getD none = some (.ref a)) : ∃ o, H a = some o := by
  rcases lift_from (σ := σ) hs with z | ⟨j, s', q, z, e⟩
  · cases z
  · rw [e] at ha
    have h1 := hsl j s' q
    rw [ha] at h1
    cases s' with
    | br d => obtain ⟨v, e1, h2⟩ := h1; cases e1; exact h2.lies
    | ow d => obtain ⟨b, e1, _, nv, t⟩ := h1; cases e1; exact (t.att nv).lies
    | lt b d => obtain ⟨e1, _, nv, t⟩ := h1; cases e1; exact (t.att nv).lies
    | no => cases z
    | sh d => cases z
    | fd => cases z
section
variable {X : Cx} {κe : Kd} {tg elt iter : Expr} {ifs : List Expr} {sc : Scope} {pos : Pos} {src : DWS} {b : BW} {tt : DWT} {te : DW}
theorem de_comp (hc : X.calm = true) (N' : List Str) (js : List (Option Nat)) (hi : DIc X tg iter src) (hg : ∀ cl C s H fp, DG (compCx X sc N' cl C s H fp) tg b) (ht : ∀ cl C s H fp, DIf (compCx X sc N' cl C s H fp) ifs tt) (he : ∀ cl C s H fp, DE (compCx X sc N' cl C s H fp) elt κe te)
    (hB : compB sc X.env.scope X.N N' js = true) (hk : κe ≠ .tp := by intro z; cases z)
    (hs : ∀ x, foldedSetIterable iter X.env x = pure x := by intro _; rfl) : DE X (.ListComp elt [⟨tg, iter, ifs, 0⟩] sc pos) .fr (wComp js src b tt te) := by
  obtain ⟨wi, a1, a2⟩ := hi
  refine ⟨_, pe_comp hc N' js a1 hB hs, fun C M H n ρ σ P Q R w q => ?_⟩
  refine a2 C M H n ρ σ _ _ R w fun J H1 ds n1 e1 f1 y w1 => ?_
  obtain ⟨hlen, w1⟩ := w1
  have R1 := R.step e1 f1
  intro l hl hkl cl Ca s0 H0 fp
  obtain ⟨g, g1, g2⟩ := hg cl Ca s0 H0 fp
  obtain ⟨tc, c1, c2⟩ := ht cl Ca s0 H0 fp
  obtain ⟨tx, x1, x2⟩ := he cl Ca s0 H0 fp
  have noU : ¬ C.U l := fun z => by
    obtain ⟨o, z⟩ := R1.udom l z
    rw [hl] at z; cases z
  generalize hM' : (fun b => M b ∨ b = l) = M'
  have M'l : M' l := by rw [← hM']; exact .inr rfl
  have M'of : ∀ b, M b → M' b := fun b z => by rw [← hM']; exact .inl z
  have ofM' : ∀ b, M' b → M b ∨ b = l := fun b z => by rw [← hM'] at z; exact z
  have inV : ∀ b, C.V b ∨ b = l → M' b := fun b z => z.elim (fun z => M'of b (R1.vM b z)) fun z => by rw [z]; exact M'l
  have lenj : js.length = N'.length := capB_len (CompOk.of hB).cap
  refine ⟨g, tc, tx, fun i m σ' H' => m = ds.length - i ∧ i ≤ ds.length ∧ ∃ n' ρ' acc vs, Rel X.K ⟨M', C.F, C.U, fun b => C.V b ∨ b = l, H1, [], []⟩ M' H' n' ρ' σ' ∧ H' l = some (.lst vs) ∧ Ats X.K M' H' acc vs ∧ acc.length ≤ i ∧ Pres M H1 M' H' ∧
      loopC b tt te (fun acc n2 => P (.lst acc) n2) (ds.drop i) acc n' ρ', g1, c1, x1, ⟨ds.length, by simp, Nat.zero_le _, n1, liftS js ρ, [], [], ?_⟩, ?_⟩
  · have gr : Grow H1 (upd H1 l (.lst [])) := upd_grow hl
    have pr : Pres M H1 M' (upd H1 l (.lst [])) := ⟨fun b o e _ => gr.all b o e, fun b z => (ofM' b z).elim .inl fun z => .inr (by rw [z]; exact hl)⟩
    refine ⟨⟨?_, fun a z => z, fun a z => ?_, gr.ext, R1.fU, fun a z => .inl (R1.uV a z), inV, f1.pres pr fun f o _ e => gr.all f.1 o e, ?_, fun p hp => absurd hp (by simp), fun i d a q z => lift_br R1.sl q z, fun i s a q o _ => absurd o (by rw [liftS_owns q]; decide), fun i j s t a q o _ _ _ _ => absurd o (by rw [liftS_owns q]; decide), fun p hp => absurd hp (by simp)⟩, upd_same, rfl, Nat.zero_le _, pr, w1⟩
    · unfold liftS liftSt
      rw [List.length_map, List.length_map]
    · rcases ofM' a z with z | z
      · obtain ⟨o, z⟩ := R1.dom a z
        exact ⟨o, gr.all a o z⟩
      · subst z
        exact ⟨_, upd_same⟩
    · refine lift_rel R1.sl pr fun d v h => h.same pr (fun a o _ e => gr.all a o e) fun a e n1 z => z.elim n1 fun z => ?_
      subst e
      obtain ⟨o, w⟩ := h.lies
      rw [z, hl] at w
      cases w
  · rintro i m σ' H' ⟨rfl, hi, n', ρ', acc, vs, R', hlv, hac, hal, pr, w'⟩
    by_cases hlt : i < ds.length
    · have ed : ds.drop i = ds[i] :: ds.drop (i + 1) := List.drop_eq_getElem_cons hlt
      rw [ed] at w'
      obtain ⟨go, yl⟩ := (y i M' H' pr R'.ext R'.dom).1 ds[i] (List.getElem?_eq_getElem hlt)
      refine .inr ⟨go, fun x H2 hy => ?_⟩
      obtain ⟨gr, hx⟩ := yl x H2 hy
      have R2' := R'.step gr.ext (R'.feed.grow gr)
      refine g2 _ M' H2 n' ρ' σ' ds[i] x _ _ R2' hx w' fun ρ3 σ3 R3 w3 => ?_
      refine c2 _ M' H2 n' ρ3 σ3 _ _ R3 w3 fun c H4 n4 e4 f4 w4 => ?_
      have R4 := R3.step e4 f4
      have p4 : Pres M' H' M' H4 := gr.pres.trans (R3.pres e4)
      have l4 : H4 l = some (.lst vs) := e4.keep (gr.all _ _ hlv) noU
      cases c with
      | false => exact ⟨ds.length - (i + 1), by omega, rfl, hlt, n4, ρ3, acc, vs, R4, l4, hac.pres p4, by omega, pr.trans p4, w4⟩
      | true =>
        refine x2 _ M' H4 n4 ρ3 σ3 _ _ R4 w4 fun yv H5 d5 n5 e5 f5 r5 w5 => ?_
        have R5 := R4.step e5 f5
        have p5 : Pres M' H4 M' H5 := R4.pres e5
        have l5 : H5 l = some (.lst vs) := e5.keep l4 noU
        have hy5 := r5.shOf R4.dom hk
        have a5 := (hac.pres p4).pres p5
        have pu : Pres M' H5 M' (upd H5 l (.lst (vs ++ [yv]))) := ⟨fun b o e nb => by rw [upd_ne (fun z => nb (by rw [z]; exact M'l))]; exact e, fun _ z => .inl z⟩
        have hvl : vs.length = acc.length := hac.length
        refine ⟨vs, l5, by rw [sizeLine_eq]; omega, ds.length - (i + 1), by omega, rfl, hlt, n5, ρ3, acc ++ [d5], vs ++ [yv], ?_, upd_same, (a5.append (Ats.one hy5)).pres pu, by rw [List.length_append, List.length_singleton]; omega, (pr.trans p4).trans (p5.trans pu), w5⟩
        refine ⟨R5.len, R5.sub, fun a z => ?_, fun b o e => ?_, R5.fU, R5.uV, R5.vM, ?_, fun j s hs => ?_, fun p hp => absurd hp (by simp), R5.br0, R5.new, R5.two, fun p hp => absurd hp (by simp)⟩
        · by_cases ha : a = l
          · subst ha; exact ⟨_, upd_same⟩
          · rw [upd_ne ha]; exact R5.dom a z
        · obtain ⟨o', q1, q2⟩ := R5.ext b o e
          by_cases hb : b = l
          · subst hb
            have e' : H1 b = some o := e
            rw [hl] at e'; cases e'
          · exact ⟨o', by rw [upd_ne hb]; exact q1, q2⟩
        · refine f5.pres pu fun f o hf e => ?_
          rw [upd_ne (fun z => noU (by rw [← z]; exact R1.fU f hf))]
          exact e
        · have hs5 := R5.sl j s hs
          cases s with
          | no => trivial
          | sh d => obtain ⟨v, e1, h2⟩ := hs5; exact ⟨v, e1, h2.pres pu⟩
          | br d =>
            obtain ⟨v, e1, h2⟩ := hs5
            refine ⟨v, e1, h2.same pu (fun a o z e => ?_) fun _ _ z => z⟩
            subst z
            obtain ⟨o3, w⟩ := R5.br0 j d a hs e1
            have hal : a ≠ l := fun z => by
              have w' : H1 a = some o3 := w
              rw [z, hl] at w'; cases w'
            rw [upd_ne hal]; exact e
          | ow d =>
            obtain ⟨a, e1, h2, _⟩ := hs5
            exact absurd h2 (R5.new j _ a hs rfl e1).1
          | lt a d =>
            obtain ⟨e1, h2, _⟩ := hs5
            exact absurd h2 (R5.new j _ a hs rfl e1).1
          | fd => exact hs5
    · have e : i = ds.length := by omega
      subst e
      rw [List.drop_length] at w'
      refine .inl ⟨(y _ M' H' pr R'.ext R'.dom).2 (Nat.le_refl _), ?_⟩
      have eb : Ext C.U H1 H' := R'.ext
      have less : Pres M' H' M H' := Pres.less M'of
      refine q _ H' (.lst acc) n' (e1.trans eb) (R'.feed.pres less fun _ _ _ z => z) (VR.back e1 ?_) w'
      exact ⟨l, rfl, hl, vs, hlv, by rw [hM']; exact hac⟩
end

/-! ### a def keeps its promise -/
theorem rel_start {K : PySem.W.Frag} {F : Option (Addr × Addr)} {U V' M : Addr → Prop} {H : Hp} {n : Nat} {ss : List Slot} {vs : List V} {N : List Str} (h : RelA K F U V' M H n ss vs) (hl : vs.length ≤ N.length) :
    Rel K ⟨M, F, U, V', H, [], []⟩ M H n (ss ++ List.replicate (N.length - ss.length) .no) (L2.start N vs) := by
  obtain ⟨dom, fU, uV, vM, fd, pa⟩ := h
  have el : vs.length = ss.length := Paired.length pa
  have go : ∀ {vs : List V} {ss : List Slot} {i : Nat} {s : Slot}, Paired (ArgOk K F V' M H) vs ss → ss[i]? = some s → ∃ v, vs[i]? = some v ∧ ArgOk K F V' M H v s := by
    intro vs ss i s pa
    induction pa generalizing i with
    | nil => intro e; simp at e
    | cons r t ih =>
      intro e
      cases i with
      | zero => simp at e; subst e; exact ⟨_, rfl, r⟩
      | succ i =>
        obtain ⟨v, e1, h1⟩ := ih (i := i) (by simpa using e)
        exact ⟨v, by simpa using e1, h1⟩
  have at_ : ∀ (i : Nat) (s : Slot), (ss ++ List.replicate (N.length - ss.length) Slot.no)[i]? = some s → s = .no ∨ ∃ v, ((L2.start N vs)[i]?).getD none = some v ∧ ArgOk K F V' M H v s := by
    intro i s hs
    by_cases hi : i < ss.length
    · rw [List.getElem?_append_left hi] at hs
      obtain ⟨v, e1, h1⟩ := go pa hs
      refine .inr ⟨v, ?_, h1⟩
      unfold L2.start
      rw [List.getElem?_append_left (by rw [List.length_map, el]; exact hi), List.getElem?_map, e1]
      rfl
    · rw [List.getElem?_append_right (by omega), List.getElem?_replicate] at hs
      split at hs
      · exact .inl (Option.some.inj hs).symm
      · cases hs
  refine ⟨?_, fun a z => z, dom, Ext.refl _ _, fU, uV, vM, fd, fun i s hs => ?_, fun p hp => absurd hp (by simp), fun i d a hs ha => ?_, fun i s a hs o _ => ?_, fun i j s t a hs o _ _ _ _ => ?_, fun p hp => absurd hp (by simp)⟩
  · unfold L2.start
    simp only [List.length_append, List.length_map, List.length_replicate]
    omega
  · rcases at_ i s hs with rfl | ⟨v, e, h⟩
    · trivial
    · rw [e]; exact h.1
  · rcases at_ i _ hs with z | ⟨v, e, h⟩
    · cases z
    · rw [e] at ha
      cases ha
      obtain ⟨v, e1, h1⟩ := h.1
      cases e1
      exact h1.lies
  · rcases at_ i s hs with rfl | ⟨v, e, h⟩
    · cases o
    · rw [h.2] at o; cases o
  · rcases at_ i s hs with rfl | ⟨v, e, h⟩
    · cases o
    · rw [h.2] at o; cases o
theorem fn2 {P : Program} {w : World} {K : PySem.W.Frag} {mg : Str → Option Value} {base : Heap} {x qual : Str} {st : Stmt} {f : Addr} {fd : FuncData} {N ps : List Str} {k : Nat} {κ : Kd} {W : W2} {wb : DWStm} (F : Fun K x qual st f fd) (S : FnScope N ps (defScope st)) (hNp : ps.length ≤ N.length)
    (hb : ∀ (cdv : Value) (A : Around) (outer : List Env) (s : Shared) (H : Hp) (E : XK), Room k (A.deeper (envOfC qual (defScope st) s.heap.objs.size f cdv)) → DSs (cxOf CX0 P w K mg base N qual (defScope st) f cdv A outer s H E).nox κ (defBody st) wb)
    (hW : ∀ ss n Pd, ss.length = ps.length → W ss n Pd → wb { nx := fun n _ => κ = .sh ∧ Pd .non n, rt := Pd } n (ss ++ List.replicate (N.length - ps.length) .no)) :
    FnOk P w K mg base CX0 (k + 1) f fd ps (sp2 K κ W ps.length) := by
  refine F.ok S (fun vs H Q E h => h.1) (fun cdv A outer s H vs Q E hr h => ?_)
  obtain ⟨hl, F0, U, V', M, n, ss, Pd, ra, hw, q⟩ := h
  obtain ⟨t, t1, t2⟩ := hb cdv A outer s H E hr
  refine ⟨t, t1, ?_⟩
  have el : vs.length = ss.length := Paired.length ra.2.2.2.2.2
  have R := rel_start (N := N) ra (by omega)
  refine t2 ⟨M, F0, U, V', H, [], []⟩ M H n _ _ { nx := fun n _ => κ = .sh ∧ Pd .non n, rt := Pd } _ R ⟨fun M1 H1 n1 ρ1 σ1 R1 p => ?_, fun v H1 d n1 e1 f1 r1 p => q v H1 d n1 e1 f1 r1 p, fun _ _ _ _ _ _ z => z.elim, fun _ _ _ _ _ _ z => z.elim⟩ ?_
  · obtain ⟨hk, p⟩ := p
    subst hk
    exact q .non H1 .non n1 R1.ext (R1.feed.pres (Pres.less R1.sub) fun _ _ _ z => z) rfl p
  · have e : ss.length = ps.length := by omega
    have h1 := hW ss n Pd e hw
    rw [← e] at h1
    exact h1
end Dp

set_option maxHeartbeats 4000000
namespace L2
open PySem PySem.Spec PyProof.Rows
section
variable {X : Cx}
theorem Inv.rdl {pins : List (Addr × Obj)} {σ : L2.St} {H : Hp} {s : Shared} {l : Addr} {xs : List V} (I : Inv X pins σ H s) (h : Rd H l (.lst xs)) : xs.length ≤ sizeLine ∧ ∃ (its : List Value) (n : Nat), Vals xs its ∧ xs.length = its.length ∧ s.heap.get? l = some { cls := .type "list", data := .seq its.toArray n } := by
  obtain ⟨z, its, n, r, e⟩ := h.ok I.hok
  exact ⟨z, its, n, r, r.length, e⟩
theorem op_catR : OpR X (binaryOp .Add) (fun x y H Q => ∃ l b xs zs, x = .ref l ∧ y = .ref b ∧ Rd H l (.lst xs) ∧ Rd H b (.lst zs) ∧ xs.length + zs.length ≤ sizeLine ∧ ∀ p, H p = none → Q (.ref p) (upd H p (.lst (xs ++ zs)))) := by
  intro pins s σ H x y v u Q I rx ry h
  obtain ⟨l, b, xs, zs, rfl, rfl, hH, hB, hz, q⟩ := h
  cases rx
  cases ry
  obtain ⟨z, its, n, r, hl, e⟩ := I.rdl hH
  obtain ⟨z2, its2, n2, r2, hl2, e2⟩ := I.rdl hB
  refine PySem.P.add_list e e2 ?_ (by rw [List.size_toArray, List.size_toArray]; omega)
  have ea : its.toArray ++ its2.toArray = (its ++ its2).toArray := by simp
  rw [ea]
  exact ⟨.ref _, _, I.lnew (t' := s.toks) (r.append r2) (by rw [List.length_append]; omega), rfl, q _ I.fresh⟩
end
end L2
namespace Dp
open PySem PySem.Spec PyProof.Rows L2
section
variable {K : PySem.W.Frag}

/-! ### what the operations do to plain things -/
theorem AtT.int {U M : Addr → Prop} {H : Hp} {i : Int} {v : V} (h : AtT K U M H (.int i) v) : v = .int i := h
theorem AtT.bl {U M : Addr → Prop} {H : Hp} {i : Bool} {v : V} (h : AtT K U M H (.bl i) v) : v = .bl i := h
theorem AtT.str {U M : Addr → Prop} {H : Hp} {x : Str} {v : V} (h : AtT K U M H (.str x) v) : v = .str x ∧ x.length ≤ sizeLine := h
theorem AtT.tup {U M : Addr → Prop} {H : Hp} {ds : List D} {v : V} (h : AtT K U M H (.tup ds) v) : ∃ a vs, v = .ref a ∧ NdT M H a vs ∧ Ats K M H ds vs := h
/-- two ints in, a value out -/
def fII (g : Int → Int → (D → Prop) → Prop) (d e : D) (P : D → Prop) : Prop := match d, e with
  | .int i, .int j => g i j P
  | _, _ => False
theorem fII_inv {g : Int → Int → (D → Prop) → Prop} {d e : D} {P : D → Prop} (w : fII g d e P) : ∃ i j, d = .int i ∧ e = .int j ∧ g i j P := by
  unfold fII at w
  split at w
  · exact ⟨_, _, rfl, rfl, w⟩
  · exact w.elim
def f2 (g : Int → Int → D) : D → D → (D → Prop) → Prop := fII fun i j P => P (g i j)
def f2c (C : Int → Int → Prop) (g : Int → Int → D) : D → D → (D → Prop) → Prop := fII fun i j P => C i j ∧ P (g i j)
theorem a_ints {g : Int → Int → Int} : OpA K .sh (rI0 fun i j => .int (g i j)) (f2 fun i j => .int (g i j)) := by
  intro U M H d e x y P Q dom vM hx hy w q
  obtain ⟨i, j, rfl, rfl, w⟩ := fII_inv w
  exact ⟨i, j, hx, hy, q _ H (.int (g i j)) .refl rfl w⟩
theorem a_intb {g : Int → Int → Bool} : OpA K .sh (rI0 fun i j => .bl (g i j)) (f2 fun i j => .bl (g i j)) := by
  intro U M H d e x y P Q dom vM hx hy w q
  obtain ⟨i, j, rfl, rfl, w⟩ := fII_inv w
  exact ⟨i, j, hx, hy, q _ H (.bl (g i j)) .refl rfl w⟩
theorem a_intc {C : Int → Int → Prop} {g : Int → Int → Int} : OpA K .sh (rI C fun i j => .int (g i j)) (f2c C fun i j => .int (g i j)) := by
  intro U M H d e x y P Q dom vM hx hy w q
  obtain ⟨i, j, rfl, rfl, w⟩ := fII_inv w
  exact ⟨i, j, hx, hy, w.1, q _ H (.int (g i j)) .refl rfl w.2⟩
/-- texts -/
def fSS (g : Str → Str → (D → Prop) → Prop) (d e : D) (P : D → Prop) : Prop := match d, e with
  | .str i, .str j => g i j P
  | _, _ => False
theorem fSS_inv {g : Str → Str → (D → Prop) → Prop} {d e : D} {P : D → Prop} (w : fSS g d e P) : ∃ i j, d = .str i ∧ e = .str j ∧ g i j P := by
  unfold fSS at w
  split at w
  · exact ⟨_, _, rfl, rfl, w⟩
  · exact w.elim
theorem a_strb {g : Str → Str → Bool} : OpA K .sh (fun x y H Q => ∃ i j, x = .str i ∧ y = .str j ∧ Q (.bl (g i j)) H) (fSS fun i j P => P (.bl (g i j))) := by
  intro U M H d e x y P Q dom vM hx hy w q
  obtain ⟨i, j, rfl, rfl, w⟩ := fSS_inv w
  exact ⟨i, j, hx.1, hy.1, q _ H (.bl (g i j)) .refl rfl w⟩
theorem a_cat_str : OpA K .sh (fun x y H Q => ∃ i j, x = .str i ∧ y = .str j ∧ i.length + j.length ≤ sizeLine ∧ Q (.str (i ++ j)) H) (fSS fun i j P => i.length + j.length ≤ sizeLine ∧ P (.str (i ++ j))) := by
  intro U M H d e x y P Q dom vM hx hy w q
  obtain ⟨i, j, rfl, rfl, w⟩ := fSS_inv w
  exact ⟨i, j, hx.1, hy.1, w.1, q _ H (.str (i ++ j)) .refl ⟨rfl, by rw [show (i ++ j).length = i.length + j.length from Str.length_append i j]; exact w.1⟩ w.2⟩
/-- tuples, the left one not empty -/
def fTT (g : List D → List D → (D → Prop) → Prop) (d e : D) (P : D → Prop) : Prop := match d, e with
  | .tup i, .tup j => g i j P
  | _, _ => False
def fLL (g : List D → List D → (D → Prop) → Prop) (d e : D) (P : D → Prop) : Prop := match d, e with
  | .lst i, .lst j => g i j P
  | _, _ => False
theorem fTT_inv {g : List D → List D → (D → Prop) → Prop} {d e : D} {P : D → Prop} (w : fTT g d e P) : ∃ i j, d = .tup i ∧ e = .tup j ∧ g i j P := by
  unfold fTT at w
  split at w
  · exact ⟨_, _, rfl, rfl, w⟩
  · exact w.elim
theorem fLL_inv {g : List D → List D → (D → Prop) → Prop} {d e : D} {P : D → Prop} (w : fLL g d e P) : ∃ i j, d = .lst i ∧ e = .lst j ∧ g i j P := by
  unfold fLL at w
  split at w
  · exact ⟨_, _, rfl, rfl, w⟩
  · exact w.elim
theorem fresh_sh {M : Addr → Prop} {H : Hp} {p : Addr} {vs : List V} {ds : List D} (dom : ∀ a, M a → ∃ o, H a = some o) (hp : H p = none) (h : Ats K M H ds vs) : At K M (upd H p (.tup vs)) (.tup ds) (.ref p) := by
  refine ⟨p, vs, rfl, ⟨fun z => ?_, upd_same⟩, h.pres (upd_grow hp).pres⟩
  obtain ⟨o, z⟩ := dom p z
  rw [hp] at z; cases z
theorem fresh_fr {U M : Addr → Prop} {H : Hp} {p : Addr} {vs : List V} {ds : List D} (hp : H p = none) (h : Ats K M H ds vs) : VR K U M H (upd H p (.lst vs)) .fr (.ref p) (.lst ds) :=
  ⟨p, rfl, hp, vs, upd_same, h.pres (fresh_pres hp)⟩
theorem a_cat_tup : OpA K .sh (rCatT K) (fTT fun i j P => i ≠ [] ∧ i.length + j.length ≤ sizeLine ∧ P (.tup (i ++ j))) := by
  intro U M H d e x y P Q dom vM hx hy w q
  obtain ⟨i, j, rfl, rfl, w⟩ := fTT_inv w
  obtain ⟨a, vs, rfl, ha, hs⟩ := hx.tup
  obtain ⟨b, us, rfl, hb, ht⟩ := hy.tup
  have l1 := hs.length
  have l2 := ht.length
  refine ⟨a, b, vs, us, rfl, rfl, ha.sq, hb.sq, fun z => w.1 ?_, by rw [l1, l2]; exact w.2.1, fun z => ?_, fun z p hp => ?_⟩
  · rw [z] at l1; exact List.length_eq_zero_iff.mp l1.symm
  · rw [z] at l2
    have : j = [] := List.length_eq_zero_iff.mp l2.symm
    subst this
    exact q _ H (.tup i) .refl ⟨a, vs, rfl, ha, hs⟩ (by have := w.2.2; rw [List.append_nil] at this; exact this)
  · exact q _ _ (.tup (i ++ j)) (upd_grow hp) (fresh_sh dom hp (hs.append ht)) w.2.2
theorem a_cat_lst : OpA K .fr (fun x y H Q => ∃ l b xs zs, x = .ref l ∧ y = .ref b ∧ Rd H l (.lst xs) ∧ Rd H b (.lst zs) ∧ xs.length + zs.length ≤ sizeLine ∧ ∀ p, H p = none → Q (.ref p) (upd H p (.lst (xs ++ zs)))) (fLL fun i j P => i.length + j.length ≤ sizeLine ∧ P (.lst (i ++ j))) := by
  intro U M H d e x y P Q dom vM hx hy w q
  obtain ⟨i, j, rfl, rfl, w⟩ := fLL_inv w
  obtain ⟨a, vs, rfl, _, ha, hs⟩ := hx
  obtain ⟨b, us, rfl, _, hb, ht⟩ := hy
  exact ⟨a, b, vs, us, rfl, rfl, ha, hb, by rw [hs.length, ht.length]; exact w.1, fun p hp => q _ _ (.lst (i ++ j)) (upd_grow hp) (fresh_fr hp (hs.append ht)) w.2⟩
/-- == of two truths, of two numbers, of two texts -/
def fEq (neg : Bool) (d e : D) (P : D → Prop) : Prop := match d, e with
  | .bl i, .bl j => P (.bl (if neg then !(i == j) else i == j))
  | .int i, .int j => P (.bl (if neg then !(i == j) else i == j))
  | .str i, .str j => P (.bl (if neg then !(i == j) else i == j))
  | _, _ => False
theorem fEq_inv {neg : Bool} {d e : D} {P : D → Prop} (w : fEq neg d e P) : (∃ i j, d = .bl i ∧ e = .bl j ∧ P (.bl (if neg then !(i == j) else i == j))) ∨ (∃ i j, d = .int i ∧ e = .int j ∧ P (.bl (if neg then !(i == j) else i == j))) ∨ ∃ i j, d = .str i ∧ e = .str j ∧ P (.bl (if neg then !(i == j) else i == j)) := by
  unfold fEq at w
  split at w
  · exact .inl ⟨_, _, rfl, rfl, w⟩
  · exact .inr (.inl ⟨_, _, rfl, rfl, w⟩)
  · exact .inr (.inr ⟨_, _, rfl, rfl, w⟩)
  · exact w.elim
theorem a_eq : OpA K .sh rEq (fEq false) := by
  intro U M H d e x y P Q dom vM hx hy w q
  rcases fEq_inv w with ⟨i, j, rfl, rfl, w⟩ | ⟨i, j, rfl, rfl, w⟩ | ⟨i, j, rfl, rfl, w⟩
  · rw [hx.bl, hy.bl]; exact ⟨rfl, q _ H _ .refl (by rw [dec_bl]; rfl) w⟩
  · rw [hx.int, hy.int]; exact ⟨rfl, q _ H _ .refl (by rw [dec_int]; rfl) w⟩
  · rw [hx.str.1, hy.str.1]; exact ⟨rfl, q _ H _ .refl (by rw [dec_str]; rfl) w⟩
theorem a_ne : OpA K .sh rNe (fEq true) := by
  intro U M H d e x y P Q dom vM hx hy w q
  rcases fEq_inv w with ⟨i, j, rfl, rfl, w⟩ | ⟨i, j, rfl, rfl, w⟩ | ⟨i, j, rfl, rfl, w⟩
  · rw [hx.bl, hy.bl]; exact ⟨rfl, q _ H _ .refl (by rw [dec_bl]; rfl) w⟩
  · rw [hx.int, hy.int]; exact ⟨rfl, q _ H _ .refl (by rw [dec_int]; rfl) w⟩
  · rw [hx.str.1, hy.str.1]; exact ⟨rfl, q _ H _ .refl (by rw [dec_str]; rfl) w⟩
/-- x is None -/
def isNon : D → Bool
  | .non => true
  | _ => false
theorem isNon_ok {U M : Addr → Prop} {H : Hp} {d : D} {x : V} (h : AtT K U M H d x) : decide (x = .non) = isNon d := by
  cases d with
  | non => rw [show x = .non from h]; rfl
  | bl b => rw [h.bl]; rfl
  | int i => rw [h.int]; rfl
  | str z => rw [h.str.1]; rfl
  | tup ds => obtain ⟨a, vs, rfl, _⟩ := h.tup; rfl
  | lst ds => obtain ⟨a, vs, rfl, _⟩ := h; rfl
  | dic ks ds => obtain ⟨a, vs, rfl, _⟩ := h; rfl
/-- an item by its place -/
def fIx (d e : D) (P : D → Prop) : Prop := match d, e with
  | .lst ds, .int i => ∃ z, atI ds i = some z ∧ P z
  | .tup ds, .int i => ∃ z, atI ds i = some z ∧ P z
  | .str x, .int i => ∃ c, atI x.cps.toList i = some c ∧ P (.str ⟨#[c]⟩)
  | _, _ => False
theorem fIx_inv {d e : D} {P : D → Prop} (w : fIx d e P) : (∃ ds i z, d = .lst ds ∧ e = .int i ∧ atI ds i = some z ∧ P z) ∨ (∃ ds i z, d = .tup ds ∧ e = .int i ∧ atI ds i = some z ∧ P z) ∨ ∃ x i c, d = .str x ∧ e = .int i ∧ atI x.cps.toList i = some c ∧ P (.str ⟨#[c]⟩) := by
  unfold fIx at w
  split at w
  · obtain ⟨z, h1, h2⟩ := w; exact .inl ⟨_, _, z, rfl, rfl, h1, h2⟩
  · obtain ⟨z, h1, h2⟩ := w; exact .inr (.inl ⟨_, _, z, rfl, rfl, h1, h2⟩)
  · obtain ⟨z, h1, h2⟩ := w; exact .inr (.inr ⟨_, _, z, rfl, rfl, h1, h2⟩)
  · exact w.elim
theorem Ats.atI {M : Addr → Prop} {H : Hp} {ds : List D} {vs : List V} {i : Int} {z : D} (h : Ats K M H ds vs) (e : atI ds i = some z) : ∃ v, L2.atI vs i = some v ∧ At K M H z v := by
  unfold L2.atI at e ⊢
  rw [h.length]
  cases q : ixN ds.length i with
  | none => rw [q] at e; cases e
  | some j =>
    rw [q] at e
    exact h.get e
theorem a_ix : OpA K .sh (rIx K) fIx := by
  intro U M H d e x y P Q dom vM hx hy w q
  rcases fIx_inv w with ⟨ds, i, z, rfl, rfl, hz, w⟩ | ⟨ds, i, z, rfl, rfl, hz, w⟩ | ⟨x, i, c, rfl, rfl, hc, w⟩
  · obtain ⟨a, vs, rfl, _, ha, hs⟩ := hx
    obtain ⟨v, hv, hAt⟩ := hs.atI hz
    exact .inl ⟨a, vs, i, v, rfl, hy, .inl ha, hv, q v H z .refl hAt w⟩
  · obtain ⟨a, vs, rfl, ha, hs⟩ := hx.tup
    obtain ⟨v, hv, hAt⟩ := hs.atI hz
    exact .inr (.inl ⟨a, vs, i, v, rfl, hy, ha.sq, hv, q v H z .refl hAt w⟩)
  · exact .inr (.inr ⟨x, i, c, hx.str.1, hy, hx.str.2, hc, q _ H (.str ⟨#[c]⟩) .refl ⟨rfl, by rw [sizeLine_eq]; show 1 ≤ 16777216; decide⟩ w⟩)
/-! ### slices -/
def cutD {α : Type} (xs : List α) (lo hi : Option Int) : List α := (xs.drop (HT.sIx xs.length 0 lo)).take (HT.sIx xs.length xs.length hi - HT.sIx xs.length 0 lo)
def fSlS (d : D) (lo hi : Option Int) (P : D → Prop) : Prop := match d with
  | .str z => P (.str (Txt.slice z lo hi))
  | _ => False
theorem a_sl_str : SlA K .sh (fun x lo hi H Q => ∃ z, x = .str z ∧ z.length ≤ sizeLine ∧ Q (.str (Txt.slice z lo hi)) H) fSlS := by
  intro U M H d x lo hi P Q dom vM hx w q
  unfold fSlS at w
  split at w
  · rename_i z
    exact ⟨z, hx.str.1, hx.str.2, q _ H (.str (Txt.slice z lo hi)) .refl ⟨rfl, Nat.le_trans (Txt.slice_le z lo hi) hx.str.2⟩ w⟩
  · exact w.elim
/-! ### built-in functions -/
theorem pair1 {R : V → D → Prop} {vs : List V} {d : D} (h : Paired R vs [d]) : ∃ v, vs = [v] ∧ R v d := by
  cases h with
  | cons r t => cases t; exact ⟨_, rfl, r⟩
def lenD : D → Option Nat
  | .str x => some x.length
  | .tup xs => some xs.length
  | .lst xs => some xs.length
  | _ => none
def fLen (ds : List D) (P : D → Prop) : Prop := ∃ d n, ds = [d] ∧ lenD d = some n ∧ P (.int (n : Int))
theorem a_len : CallA K .sh (fun xs H Q => ∃ x n, xs = [x] ∧ LenV K x H n ∧ Q (.int n) H) fLen := by
  intro U M H ds vs P Q dom vM hp w q
  obtain ⟨d, n, rfl, hn, w⟩ := w
  obtain ⟨v, rfl, hx⟩ := pair1 hp
  refine ⟨v, n, rfl, ?_, q _ H (.int (n : Int)) .refl rfl w⟩
  cases d with
  | str z => cases hn; rw [hx.str.1]; exact ⟨hx.str.2, rfl⟩
  | tup xs =>
    cases hn
    obtain ⟨a, us, rfl, ha, hs⟩ := hx.tup
    exact .inr ⟨us, ha.sq, hs.length.symm⟩
  | lst xs =>
    cases hn
    obtain ⟨a, us, rfl, _, ha, hs⟩ := hx
    exact .inl ⟨us, .inl ha, hs.length.symm⟩
  | _ => cases hn
def allB : List D → Option (List Bool)
  | [] => some []
  | .bl b :: r => (allB r).map (b :: ·)
  | _ :: _ => none
theorem allB_ok {M : Addr → Prop} {H : Hp} : ∀ {ds : List D} {vs : List V} {bs : List Bool}, allB ds = some bs → Ats K M H ds vs → vs = bs.map V.bl
  | [], vs, bs, e, h => by cases e; exact h
  | .bl b :: r, vs, bs, e, h => by
    obtain ⟨v, r', e1, h1, h2⟩ := h
    unfold allB at e
    obtain ⟨bs', e2, rfl⟩ := Option.map_eq_some_iff.mp e
    rw [e1, allB_ok e2 h2, show v = .bl b from h1]
    rfl
  | .non :: r, vs, bs, e, h => by unfold allB at e; cases e
  | .int _ :: r, vs, bs, e, h => by unfold allB at e; cases e
  | .str _ :: r, vs, bs, e, h => by unfold allB at e; cases e
  | .tup _ :: r, vs, bs, e, h => by unfold allB at e; cases e
  | .lst _ :: r, vs, bs, e, h => by unfold allB at e; cases e
  | .dic _ _ :: r, vs, bs, e, h => by unfold allB at e; cases e
def fAll (ds : List D) (P : D → Prop) : Prop := ∃ xs bs, ds = [.lst xs] ∧ allB xs = some bs ∧ P (.bl (bs.all id))
theorem a_all : CallA K .sh (fun xs H Q => ∃ (p : Addr) (bs : List Bool), xs = [.ref p] ∧ SqL K H p (bs.map V.bl) ∧ Q (.bl (bs.all id)) H) fAll := by
  intro U M H ds vs P Q dom vM hp w q
  obtain ⟨xs, bs, rfl, e, w⟩ := w
  obtain ⟨v, rfl, hx⟩ := pair1 hp
  obtain ⟨a, us, rfl, _, ha, hs⟩ := hx
  have := allB_ok e hs
  subst this
  exact ⟨a, bs, rfl, .inl ha, q _ H (.bl (bs.all id)) .refl rfl w⟩
def allS : List D → Option (List Str)
  | [] => some []
  | .str b :: r => (allS r).map (b :: ·)
  | _ :: _ => none
theorem allS_ok {M : Addr → Prop} {H : Hp} : ∀ {ds : List D} {vs : List V} {bs : List Str}, allS ds = some bs → Ats K M H ds vs → vs = bs.map V.str
  | [], vs, bs, e, h => by cases e; exact h
  | .str b :: r, vs, bs, e, h => by
    obtain ⟨v, r', e1, h1, h2⟩ := h
    unfold allS at e
    obtain ⟨bs', e2, rfl⟩ := Option.map_eq_some_iff.mp e
    rw [e1, allS_ok e2 h2, h1.1]
    rfl
  | .non :: r, vs, bs, e, h => by unfold allS at e; cases e
  | .int _ :: r, vs, bs, e, h => by unfold allS at e; cases e
  | .bl _ :: r, vs, bs, e, h => by unfold allS at e; cases e
  | .tup _ :: r, vs, bs, e, h => by unfold allS at e; cases e
  | .lst _ :: r, vs, bs, e, h => by unfold allS at e; cases e
  | .dic _ _ :: r, vs, bs, e, h => by unfold allS at e; cases e
/-- sep.join(xs) -/
def fJoin (d : D) (ds : List D) (P : D → Prop) : Prop := ∃ (z : Str) (xs : List D) (ys : List Str), d = .str z ∧ ds = [.lst xs] ∧ allS xs = some ys ∧ (ys.map (·.length)).sum + ys.length * z.length ≤ 16777216 ∧ (Txt.join z ys).length ≤ 16777216 ∧ P (.str (Txt.join z ys))
theorem a_join : MtA K .sh "str" (fun x xs H Q => ∃ (z : Str) (p : Addr) (ys : List Str), x = .str z ∧ xs = [.ref p] ∧ SqL K H p (ys.map V.str) ∧ (ys.map (·.length)).sum + ys.length * z.length ≤ 16777216 ∧ Q (.str (Txt.join z ys)) H) fJoin := by
  intro U M H d ds x vs P Q dom vM hx hp w q
  obtain ⟨z, xs, ys, rfl, rfl, e, h1, h2, w⟩ := w
  obtain ⟨v, rfl, hy⟩ := pair1 hp
  obtain ⟨a, us, rfl, _, ha, hs⟩ := hy
  have := allS_ok e hs
  subst this
  exact ⟨z, a, ys, hx.str.1, rfl, .inl ha, h1, q _ H (.str (Txt.join z ys)) .refl ⟨rfl, by rw [sizeLine_eq]; exact h2⟩ w⟩
def fInt1 (ds : List D) (P : D → Prop) : Prop := match ds with
  | [.int i] => P (.int i)
  | [.bl k] => P (.int (if k then 1 else 0))
  | _ => False
theorem a_int1 : CallA K .sh (fun xs H Q => (∃ i, xs = [.int i] ∧ Q (.int i) H) ∨ ∃ k, xs = [.bl k] ∧ Q (.int (if k then 1 else 0)) H) fInt1 := by
  intro U M H ds vs P Q dom vM hp w q
  unfold fInt1 at w
  split at w
  · rename_i i
    obtain ⟨v, rfl, hx⟩ := pair1 hp
    rw [hx.int]; exact .inl ⟨i, rfl, q _ H (.int i) .refl rfl w⟩
  · rename_i k
    obtain ⟨v, rfl, hx⟩ := pair1 hp
    rw [hx.bl]; exact .inr ⟨k, rfl, q _ H (.int (if k then 1 else 0)) .refl rfl w⟩
  · exact w.elim
def fList1 (ds : List D) (P : D → Prop) : Prop := match ds with
  | [.lst xs] => P (.lst xs)
  | [.tup xs] => P (.lst xs)
  | _ => False
theorem a_list1 : CallA K .fr (fun xs H Q => ∃ p ys, xs = [.ref p] ∧ (SqL K H p ys ∨ SqT K H p ys) ∧ ∀ l, H l = none → Q (.ref l) (upd H l (.lst ys))) fList1 := by
  intro U M H ds vs P Q dom vM hp w q
  unfold fList1 at w
  split at w
  · obtain ⟨v, rfl, hx⟩ := pair1 hp
    obtain ⟨a, us, rfl, _, ha, hs⟩ := hx
    exact ⟨a, us, rfl, .inl (.inl ha), fun l hl => q _ _ _ (upd_grow hl) (fresh_fr hl hs) w⟩
  · obtain ⟨v, rfl, hx⟩ := pair1 hp
    obtain ⟨a, us, rfl, ha, hs⟩ := hx.tup
    exact ⟨a, us, rfl, .inr ha.sq, fun l hl => q _ _ _ (upd_grow hl) (fresh_fr hl hs) w⟩
  · exact w.elim
end

/-! ### isinstance(x, T) -/
def tyD : D → String
  | .non => "NoneType"
  | .bl _ => "bool"
  | .int _ => "int"
  | .str _ => "str"
  | .tup _ => "tuple"
  | .lst _ => "list"
  | .dic _ _ => "dict"
/-- is a value of the kind t one of T, as far as these kinds go -/
def isiD (t T : String) : Bool := t == T || (t == "bool" && T == "int")
def wIsi (T : String) (wa : DW) : DW := fun n ρ P => wa n ρ fun d n1 => P (.bl (isiD (tyD d) T)) n1
/-- the looks at T that the module's part decides -/
structure KitT (K : PySem.W.Frag) (T : String) : Prop where
  ans : ∀ t ∈ ["NoneType", "bool", "int", "str", "tuple", "list", "dict"], PySem.W.kitOne K (.type t) (.type T) = some (isiD t T)
theorem tyOf_ok {K : PySem.W.Frag} {M U : Addr → Prop} {H : Hp} {d : D} {x : V} (h : AtT K U M H d x) : TyOf K H x (.type (tyD d)) := by
  cases d with
  | non => cases (show x = .non from h); exact .non
  | bl b => cases h.bl; exact .bl b
  | int i => cases h.int; exact .int i
  | str z => cases h.str.1; exact .str z
  | tup ds =>
    obtain ⟨a, vs, rfl, ha, hs⟩ := h.tup
    exact .tup ha.2
  | lst ds =>
    obtain ⟨a, vs, rfl, _, ha, hs⟩ := h
    rcases ha with ha | ⟨o, ha⟩
    · exact .lst ha
    · exact .frz ha
  | dic ks ds =>
    obtain ⟨a, vs, rfl, _, ha, _⟩ := h
    exact .dK ha
theorem tyD_mem (d : D) : tyD d ∈ ["NoneType", "bool", "int", "str", "tuple", "list", "dict"] := by cases d <;> simp [tyD]
theorem de_isi {X : Cx} {a : Expr} {κ : Kd} {wa : DW} {T : String} {Tn : Str} {p p2 pos : Pos} (kt : KitT X.K T) (ha : DE X a κ wa) (hg : Gl X "isinstance") (hm : X.mg "isinstance" = none) (hgT : Gl X Tn) (hmT : X.mg Tn = none) (hvT : bootBuiltins Tn = some (.type T))
    (hnT : Tn ≠ "__name__" := by decide) (hdT : (Tn == ("__debug__" : Str)) = false := by decide)
    (he : starEach [a, .Name Tn p2] X.env = (false, eval a X.env) :: starEach [.Name Tn p2] X.env := by rfl) (he2 : starEach [.Name Tn p2] X.env = [(false, eval (.Name Tn p2) X.env)] := by rfl)
    (hpl : (backTo pos (starEach [.Name Tn p2] X.env)).any (·.1) = false := by rfl) : DE X (.Call (.Name "isinstance" p) [a, .Name Tn p2] [] pos) .sh (wIsi T wa) := by
  obtain ⟨t, h1, h2⟩ := ha
  have pT : PE X (.Name Tn p2) (tC (.ty T)) := pe_bltn hgT hmT hvT (v := .ty T) rfl hnT hdT
  refine ⟨_, pe_callB call_isinst hg hm (by decide +kernel) (pa_cons h1 (pa_cons pT pa_nil he2) he) (by decide) (by decide) he hpl, fun C M H n ρ σ P Q R w q => ?_⟩
  refine h2 C M H n ρ σ _ _ R w fun v H1 d n1 e1 f1 r1 p => ?_
  exact ⟨v, T, _, _, rfl, tyOf_ok (r1.tpOf R.dom R.vM), kt.ans _ (tyD_mem d), q _ H1 (.bl (isiD (tyD d) T)) n1 e1 f1 rfl p⟩

section
variable {K : PySem.W.Frag} {X : Cx}
/-! ### operations of several kinds -/
def fAddU (d e : D) (P : D → Prop) : Prop := match d, e with
  | .int i, .int j => P (.int (i + j))
  | .str i, .str j => i.length + j.length ≤ sizeLine ∧ P (.str (i ++ j))
  | .tup i, .tup j => i ≠ [] ∧ i.length + j.length ≤ sizeLine ∧ P (.tup (i ++ j))
  | .lst i, .lst j => i.length + j.length ≤ sizeLine ∧ P (.lst (i ++ j))
  | _, _ => False
def rCatR : R2 := fun x y H Q => ∃ l b xs zs, x = .ref l ∧ y = .ref b ∧ Rd H l (.lst xs) ∧ Rd H b (.lst zs) ∧ xs.length + zs.length ≤ sizeLine ∧ ∀ p, H p = none → Q (.ref p) (upd H p (.lst (xs ++ zs)))
def rCatS : R2 := fun x y H Q => ∃ i j, x = .str i ∧ y = .str j ∧ i.length + j.length ≤ sizeLine ∧ Q (.str (i ++ j)) H
def rStrB (g : Str → Str → Bool) : R2 := fun x y H Q => ∃ i j, x = .str i ∧ y = .str j ∧ Q (.bl (g i j)) H
def rAddU (K : PySem.W.Frag) : R2 := fun x y H Q => (rI0 fun i j => .int (i + j)) x y H Q ∨ rCatS x y H Q ∨ rCatT K x y H Q ∨ rCatR x y H Q
theorem op_addU : OpR X (binaryOp .Add) (rAddU X.K) := op_add.or ((show OpR X (binaryOp .Add) rCatS from op_add_str).or (op_catT.or (show OpR X (binaryOp .Add) rCatR from op_catR)))
theorem a_addU : OpA X.K .sh (rAddU X.K) fAddU := fun U M H d e x y P Q dom vM hx hy w q => by
  unfold fAddU at w
  split at w
  · exact .inl (a_ints (K := X.K) (g := fun i j => i + j) U M H (.int _) (.int _) x y P Q dom vM hx hy w q)
  · exact .inr (.inl (a_cat_str (K := X.K) U M H (.str _) (.str _) x y P Q dom vM hx hy w q))
  · exact .inr (.inr (.inl (a_cat_tup (K := X.K) U M H (.tup _) (.tup _) x y P Q dom vM hx hy w q)))
  · exact .inr (.inr (.inr (a_cat_lst (K := X.K) U M H (.lst _) (.lst _) x y P Q dom vM hx hy w fun v H' z g r p => q v H' z g (r.shOf dom (by intro z; cases z)) p)))
  · exact w.elim
def fLtU (d e : D) (P : D → Prop) : Prop := match d, e with
  | .int i, .int j => P (.bl (decide (i < j)))
  | .str i, .str j => P (.bl (decide (i.cps.toList < j.cps.toList)))
  | _, _ => False
def rLtU : R2 := fun x y H Q => (rI0 fun i j => .bl (decide (i < j))) x y H Q ∨ rStrB (fun i j => decide (i.cps.toList < j.cps.toList)) x y H Q
theorem op_ltU : OpR X (compareOp .Lt) rLtU := op_lt.or op_lt_str
theorem a_ltU : OpA X.K .sh rLtU fLtU := fun U M H d e x y P Q dom vM hx hy w q => by
  unfold fLtU at w
  split at w
  · exact .inl (a_intb (K := X.K) (g := fun i j => decide (i < j)) U M H (.int _) (.int _) x y P Q dom vM hx hy w q)
  · exact .inr (a_strb (K := X.K) (g := fun i j => decide (i.cps.toList < j.cps.toList)) U M H (.str _) (.str _) x y P Q dom vM hx hy w q)
  · exact w.elim
def fLeU (d e : D) (P : D → Prop) : Prop := match d, e with
  | .int i, .int j => P (.bl (decide (i ≤ j)))
  | .str i, .str j => P (.bl (!(decide (j.cps.toList < i.cps.toList))))
  | _, _ => False
def rLeU : R2 := fun x y H Q => (rI0 fun i j => .bl (decide (i ≤ j))) x y H Q ∨ rStrB (fun i j => !(decide (j.cps.toList < i.cps.toList))) x y H Q
theorem op_leU : OpR X (compareOp .LtE) rLeU := op_le.or op_le_str
theorem a_leU : OpA X.K .sh rLeU fLeU := fun U M H d e x y P Q dom vM hx hy w q => by
  unfold fLeU at w
  split at w
  · exact .inl (a_intb (K := X.K) (g := fun i j => decide (i ≤ j)) U M H (.int _) (.int _) x y P Q dom vM hx hy w q)
  · exact .inr (a_strb (K := X.K) (g := fun i j => !(decide (j.cps.toList < i.cps.toList))) U M H (.str _) (.str _) x y P Q dom vM hx hy w q)
  · exact w.elim
def rGtU : R2 := rI0 fun i j => .bl (decide (j < i))
theorem op_gtU : OpR X (compareOp .Gt) rGtU := op_gt
theorem a_gtU : OpA X.K .sh rGtU (f2 fun i j => .bl (decide (j < i))) := a_intb
def rGeU : R2 := rI0 fun i j => .bl (decide (j ≤ i))
theorem op_geU : OpR X (compareOp .GtE) rGeU := op_ge
theorem a_geU : OpA X.K .sh rGeU (f2 fun i j => .bl (decide (j ≤ i))) := a_intb
def rInU : R2 := rStrB fun i j => !(Builtin.Str.occurrences j i 0 j.length 1).isEmpty
theorem op_inU : OpR X (compareOp .In) rInU := op_in_str
theorem a_inU : OpA X.K .sh rInU (fSS fun i j P => P (.bl (!(Builtin.Str.occurrences j i 0 j.length 1).isEmpty))) := a_strb
def rSlU : V → Option Int → Option Int → Hp → VK → Prop := fun x lo hi H Q => ∃ z, x = .str z ∧ z.length ≤ sizeLine ∧ Q (.str (Txt.slice z lo hi)) H
theorem sl_U : SlR X rSlU := sl_str
theorem a_slU : SlA X.K .sh rSlU fSlS := a_sl_str
/-- -x -/
def wNeg (w : DW) : DW := fun n ρ P => w n ρ fun d n1 => ∃ i, d = .int i ∧ P (.int (-i)) n1
theorem de_neg {a : Expr} {κ : Kd} {wa : DW} {pos : Pos} (h : DE X a κ wa) : DE X (.UnaryOp .USub a pos) .sh (wNeg wa) := by
  obtain ⟨t, h1, h2⟩ := h
  refine ⟨_, pe_un un_neg h1, fun C M H n ρ σ P Q R w q => ?_⟩
  refine h2 C M H n ρ σ _ _ R w fun v H1 d n1 e1 f1 r1 p => ?_
  obtain ⟨i, rfl, p⟩ := p
  exact ⟨i, int_ok r1, q _ H1 (.int (-i)) n1 e1 f1 rfl p⟩
/-- an own def that keeps its promise, as its callers want it -/
def Got (P : Program) (w : World) (K : PySem.W.Frag) (mg : Str → Option Value) (base : Heap) (x : Str) (k : Nat) (ps : List Str) (κ : Kd) (W : W2) : Prop :=
  ∃ f fd, FnOk P w K mg base CX0 k f fd ps (sp2 K κ W ps.length) ∧ mg x = some (.ref f) ∧ PySem.W.keepIn K (.ref f) = true ∧ Binds K fd ps [] ∧ ∀ ss n P, W ss n P → ss.length = ps.length
theorem de_callG {e : Expr} {es : List Expr} {k : Nat} {ps : List Str} {κ : Kd} {W : W2} {x : Str} {p pos : Pos} {was : DWA} (G : Got X.prog X.w X.K X.mg X.base x k ps κ W)
    (hr : Room k X.A) (hg : Gl X x) (ha : DAs X (e :: es) was)
    (hdb : (x == ("__debug__" : Str)) = false := by decide) (he : starEach (e :: es) X.env = (false, eval e X.env) :: starEach es X.env := by rfl) (hpl : (backTo pos (starEach es X.env)).any (·.1) = false := by rfl) :
    DE X (.Call (.Name x p) (e :: es) [] pos) κ (wCall W was) := by
  obtain ⟨f, fd, G, hm, hk, hb, hW⟩ := G
  exact de_call G hW hr hg hm hk hb ha hdb he hpl
/-- a def whose value hangs on its arguments alone -/
def pureW (np : Nat) (g : List D → D) : W2 := fun ss n P => ∃ ds : List D, ds.length = np ∧ ss = ds.map .sh ∧ P (g ds) n
theorem pureW_len {np : Nat} {g : List D → D} {ss : List Slot} {n : Nat} {P : D → Nat → Prop} (h : pureW np g ss n P) : ss.length = np := by
  obtain ⟨ds, e, rfl, _⟩ := h
  rw [List.length_map]; exact e
theorem kit_int : KitT K "int" := ⟨fun t ht => by
  simp only [List.mem_cons, List.not_mem_nil, or_false] at ht
  rcases ht with rfl | rfl | rfl | rfl | rfl | rfl | rfl <;> kernel_rfl⟩
theorem kit_bool : KitT K "bool" := ⟨fun t ht => by
  simp only [List.mem_cons, List.not_mem_nil, or_false] at ht
  rcases ht with rfl | rfl | rfl | rfl | rfl | rfl | rfl <;> kernel_rfl⟩
theorem kit_str : KitT K "str" := ⟨fun t ht => by
  simp only [List.mem_cons, List.not_mem_nil, or_false] at ht
  rcases ht with rfl | rfl | rfl | rfl | rfl | rfl | rfl <;> kernel_rfl⟩
theorem kit_tuple : KitT K "tuple" := ⟨fun t ht => by
  simp only [List.mem_cons, List.not_mem_nil, or_false] at ht
  rcases ht with rfl | rfl | rfl | rfl | rfl | rfl | rfl <;> kernel_rfl⟩
theorem kit_list : KitT K "list" := ⟨fun t ht => by
  simp only [List.mem_cons, List.not_mem_nil, or_false] at ht
  rcases ht with rfl | rfl | rfl | rfl | rfl | rfl | rfl <;> kernel_rfl⟩
end
end Dp

set_option maxHeartbeats 4000000
namespace Dp
open PySem PySem.Spec PyProof.Rows L2
/-- a comprehension whose element hangs on the item alone -/
theorem loopC_pure {i : Nat} {te : DW} {P : List D → Nat → Prop} {g : D → D} (I : List Slot → Prop) (hI : ∀ d ρ, I ρ → I (ρ.set i (.sh d))) :
    ∀ (ds acc : List D) (n : Nat) (ρ : List Slot), (∀ d ∈ ds, ∀ ρ n P', I ρ → P' (g d) n → te n (ρ.set i (.sh d)) P') → I ρ → P (acc ++ ds.map g) n → loopC (bName i) wYes te P ds acc n ρ
  | [], acc, n, ρ, _, _, h => by
    rw [List.map_nil, List.append_nil] at h
    exact h
  | d :: ds, acc, n, ρ, ht, hρ, h => by
    refine ht d List.mem_cons_self ρ n _ hρ ?_
    refine loopC_pure I hI ds (acc ++ [g d]) n _ (fun d hd => ht d (List.mem_cons_of_mem _ hd)) (hI d ρ hρ) ?_
    rw [List.append_assoc]
    exact h
theorem allB_map {α : Type} (p : α → Bool) : ∀ l : List α, allB (l.map fun c => .bl (p c)) = some (l.map p)
  | [] => rfl
  | a :: l => by
    rw [List.map_cons, List.map_cons]
    unfold allB
    rw [allB_map p l]
    rfl
/-- a truth and a second one -/
theorem chain_bl {b1 b2 : Bool} {P : D → Nat → Prop} {n : Nat} {k : (D → Nat → Prop) → Prop} (hk : b1 = true → P (.bl b2) n → k P) (h : P (.bl (b1 && b2)) n) : (match (.bl b1 : D) with | .bl true => k P | .bl false => P (.bl false) n | _ => False) := by
  cases b1 with
  | false => exact h
  | true => exact hk rfl h
theorem fLen_str {x : Str} {P : D → Prop} : fLen [.str x] P = P (.int (x.length : Int)) := propext ⟨fun ⟨d, n, e, h, p⟩ => by cases e; cases h; exact p, fun p => ⟨_, _, rfl, rfl, p⟩⟩
theorem fLen_tup {x : List D} {P : D → Prop} : fLen [.tup x] P = P (.int (x.length : Int)) := propext ⟨fun ⟨d, n, e, h, p⟩ => by cases e; cases h; exact p, fun p => ⟨_, _, rfl, rfl, p⟩⟩
theorem fLen_lst {x : List D} {P : D → Prop} : fLen [.lst x] P = P (.int (x.length : Int)) := propext ⟨fun ⟨d, n, e, h, p⟩ => by cases e; cases h; exact p, fun p => ⟨_, _, rfl, rfl, p⟩⟩
/-- what may be said of a def that keeps its promise -/
theorem got_of {P : Program} {w : World} {K : PySem.W.Frag} {mg : Str → Option Value} {base : Heap} {x : Str} {st : Stmt} {f : Addr} {fd : FuncData} {k : Nat} {ps : List Str} {κ : Kd} {W : W2} (F : Fun K x x st f fd) (m : mg x = some (.ref f)) (b : Binds K fd ps [])
    (hW : ∀ ss n P, W ss n P → ss.length = ps.length) (ok : FnOk P w K mg base CX0 k f fd ps (sp2 K κ W ps.length)) : Got P w K mg base x k ps κ W := ⟨f, fd, ok, m, F.kp, b, hW⟩
end Dp

set_option maxHeartbeats 4000000
namespace Dp
open PySem PySem.Spec PyProof.Rows L2
/-! ### the law's own frame: a source of draws is made of the script, then plain things alone are met -/
def spTop (K : PySem.W.Frag) : Sp := fun vs H Q _ => ∃ a ns, vs = [V.ref a] ∧ (List.length (α := Int) ns ≤ 63 ∧ SqL K H a (ns.map V.int)) ∧ ∀ H', Q (.bl true) H'
def spFeed (K : PySem.W.Frag) : Sp := fun vs H Q _ => ∃ a ns, vs = [V.ref a] ∧ (List.length (α := Int) ns ≤ 63 ∧ SqL K H a (ns.map V.int)) ∧
  ∀ (c f : Addr) (H' : Hp), c ≠ f → H' c = some (.lst (ns.map V.int)) → H' f = some (.lst [.ref c, .int 0, .int 0]) → Q (.ref f) H'
theorem cut63 {ns : List Int} (h : ns.length ≤ 63) : cutV (ns.map V.int) none (some 63) = ns.map V.int := by
  have e : HT.sIx (ns.map V.int).length (ns.map V.int).length (some 63) = ns.length := by
    rw [show (63 : Int) = ((63 : Nat) : Int) from rfl, HT.sIx_nat, List.length_map, Nat.min_eq_right h]
  unfold cutV
  rw [e, HT.sIx_none, List.drop_zero, Nat.sub_zero]
  exact List.take_of_length_le (by rw [List.length_map]; exact Nat.le_refl _)
/-- a loop by what holds with so many turns to go, whatever the items are -/
theorem loopF_inv {b : BW} {body : DWStm} {D2 : E2} (I : Nat → Nat → List Slot → Prop) (hend : ∀ n ρ, I 0 n ρ → D2.nx n ρ)
    (hstep : ∀ (k : Nat) (d : D) (n : Nat) (ρ : List Slot) (nx : Nat → List Slot → Prop), I (k + 1) n ρ → (∀ n' ρ', I k n' ρ' → nx n' ρ') → b d ρ fun ρ1 => body { D2 with nx := nx, ct := nx, bk := D2.nx } n ρ1) :
    ∀ (ds : List D) (n : Nat) (ρ : List Slot), I ds.length n ρ → loopF b body D2 ds n ρ
  | [], n, ρ, h => hend n ρ h
  | d :: ds, n, ρ, h => hstep ds.length d n ρ (loopF b body D2 ds) h fun n' ρ' h' => loopF_inv I hend hstep ds n' ρ' h'
/-- the same, of items that are told -/
theorem loopF_mem {b : BW} {body : DWStm} {D2 : E2} (I : Nat → Nat → List Slot → Prop) (hend : ∀ n ρ, I 0 n ρ → D2.nx n ρ) :
    ∀ (ds : List D) (n : Nat) (ρ : List Slot) (_ : ∀ (k : Nat) (d : D) (n : Nat) (ρ : List Slot) (nx : Nat → List Slot → Prop), d ∈ ds → I (k + 1) n ρ → (∀ n' ρ', I k n' ρ' → nx n' ρ') → b d ρ fun ρ1 => body { D2 with nx := nx, ct := nx, bk := D2.nx } n ρ1),
      I ds.length n ρ → loopF b body D2 ds n ρ
  | [], n, ρ, _, h => hend n ρ h
  | d :: ds, n, ρ, hs, h => hs ds.length d n ρ (loopF b body D2 ds) List.mem_cons_self h fun n' ρ' h' => loopF_mem I hend ds n' ρ' (fun k d n ρ nx hm => hs k d n ρ nx (List.mem_cons_of_mem _ hm)) h'
theorem fnLaw {P : Program} {w : World} {K : PySem.W.Frag} {mg : Str → Option Value} {base : Heap} {st s1 : Stmt} {rest : List Stmt} {f : Addr} {fd : FuncData} {Nr : List Str} {k n0 : Nat} {wb : DWStm} (F : Fun K "law" "law" st f fd)
    (S : FnScope ("_law_script" :: "_law_feed_here" :: Nr) ["_law_script"] (defScope st)) (hbd : defBody st = s1 :: rest) (hn0 : n0 ≤ 2 ^ 60)
    (h1 : ∀ (cdv : Value) (A : Around) (outer : List Env) (s : Shared) (H : Hp) (E : XK), Room k (A.deeper (envOfC "law" (defScope st) s.heap.objs.size f cdv)) →
      PS (cxOf CX0 P w K mg base ("_law_script" :: "_law_feed_here" :: Nr) "law" (defScope st) f cdv A outer s H E).nox s1 (tAsg (tCall (spFeed K) [] E0 (tCons (tVar 0) tNil)) (gName 1)))
    (h2 : ∀ (cdv : Value) (A : Around) (outer : List Env) (s : Shared) (H : Hp) (E : XK), Room k (A.deeper (envOfC "law" (defScope st) s.heap.objs.size f cdv)) →
      DSs (cxOf CX0 P w K mg base ("_law_script" :: "_law_feed_here" :: Nr) "law" (defScope st) f cdv A outer s H E).nox .sh rest wb)
    (hW : wb { nx := fun _ _ => False, rt := fun d _ => d = .bl true } n0 (.no :: .fd :: List.replicate Nr.length .no)) : FnOk P w K mg base CX0 (k + 1) f fd ["_law_script"] (spTop K) := by
  refine F.ok S (fun vs H Q E h => ?_) (fun cdv A outer s H vs Q E hr h => ?_)
  · obtain ⟨a, ns, rfl, _⟩ := h
    rfl
  · obtain ⟨a, ns, rfl, ⟨hl, hS⟩, q⟩ := h
    obtain ⟨t, t1, t2⟩ := h2 cdv A outer s H E hr
    refine ⟨tSeq (tAsg (tCall (spFeed K) [] E0 (tCons (tVar 0) tNil)) (gName 1)) t, by rw [hbd]; exact pss_cons (h1 cdv A outer s H E hr) t1, ?_⟩
    refine ⟨_, rfl, a, ns, rfl, ⟨hl, hS⟩, fun c g H' hcg hc hg => ?_⟩
    have at_ : ∀ (i : Nat) (sl : Slot), (Slot.no :: Slot.fd :: List.replicate Nr.length Slot.no)[i]? = some sl → Slot.no = sl ∨ (Slot.fd = sl ∧ i = 1) := by
      intro i sl hs
      match i, hs with
      | 0, hs => exact .inl (Option.some.inj hs)
      | 1, hs => exact .inr ⟨Option.some.inj hs, rfl⟩
      | i + 2, hs =>
        rw [List.getElem?_cons_succ, List.getElem?_cons_succ, List.getElem?_replicate] at hs
        split at hs
        · exact .inl (Option.some.inj hs)
        · cases hs
    have R : Rel K ⟨fun b => b = g, some (g, c), fun b => b = g, fun b => b = g, H', [], []⟩ (fun b => b = g) H' n0 (.no :: .fd :: List.replicate Nr.length .no) ((start ("_law_script" :: "_law_feed_here" :: Nr) [V.ref a]).set 1 (some (.ref g))) := by
      refine ⟨by simp [L2.start], fun _ z => z, fun b z => ⟨_, (congrArg H' z).trans hg⟩, Ext.refl _ _, fun b z => by rw [← Option.some.inj z], fun _ z => z, fun _ z => z, fun b z => ?_, fun i sl hs => ?_, fun p hp => absurd hp (by simp), fun i d b hs _ => ?_, fun i sl b hs o _ => ?_, fun i j sl t b hs o _ _ _ _ => ?_, fun p hp => absurd hp (by simp)⟩
      · have e : (g, c) = b := Option.some.inj z
        subst e
        exact ⟨0, 0, ns, hg, hcg, ⟨hcg, hc⟩, hl, by decide, by omega⟩
      · rcases at_ i sl hs with e | ⟨e, rfl⟩
        · rw [← e]; trivial
        · rw [← e]
          exact ⟨(g, c), by simp [L2.start], rfl⟩
      · rcases at_ i _ hs with e | ⟨e, _⟩ <;> cases e
      · rcases at_ i sl hs with e | ⟨e, _⟩ <;> (rw [← e] at o; cases o)
      · rcases at_ i sl hs with e | ⟨e, _⟩ <;> (rw [← e] at o; cases o)
    refine t2 _ _ H' n0 _ _ { nx := fun _ _ => False, rt := fun d _ => d = .bl true } _ R ⟨fun _ _ _ _ _ _ z => z.elim, fun v H2 d n' _ _ r p => ?_, fun _ _ _ _ _ _ z => z.elim, fun _ _ _ _ _ _ z => z.elim⟩ hW
    have e : d = .bl true := p
    subst e
    have e2 : v = .bl true := r
    subst e2
    exact q H2
end Dp

set_option maxHeartbeats 4000000
namespace K01
open PySem PySem.Spec PyProof.Rows L2 Dp
def top (i : Nat) : Stmt := PySem.Challenge.pw_thinnet_k01_names_and_times.main.body.getD i (.Pass ⟨0, 0, 0, 0⟩)
abbrev s__law_next : Stmt := top 10
/-- a draw below m -/
def Wnext : W2 := fun ss n P => ∃ m : Int, ss = [.fd, .sh (.int m)] ∧ 1 ≤ m ∧ m < 1073741824 ∧ 1 ≤ n ∧ ∀ r : Int, 0 ≤ r → r < m → P (.int r) (n - 1)
section
variable {P : Program} {w : World} {K : PySem.W.Frag} {mg : Str → Option Value} {base : Heap}
/-! ### the draws -/
theorem sc__law_next : FnScope ["_law_feed_here", "_law_many", "_law_digit", "_law_at", "_law_cell", "_law_first"] ["_law_feed_here", "_law_many"] (defScope s__law_next) := ⟨rfl, rfl, rfl, by decide +kernel, rfl, by decide +kernel, by decide +kernel⟩
theorem ok_next {f : Addr} {fd : FuncData} (F : Fun K "_law_next" "_law_next" s__law_next f fd) (ml : mg "len" = none) : FnOk P w K mg base CX0 1 f fd ["_law_feed_here", "_law_many"] (sp2 K .sh Wnext 2) := by
  refine F.ok sc__law_next (fun vs H Q E h => h.1) (fun cdv A outer s H vs Q E hr h => ?_)
  obtain ⟨hl, F0, U, V', M, n, ss, Pd, ra, ⟨m, rfl, hm1, hm2, hn, hP⟩, q⟩ := h
  obtain ⟨dom, fU, uV, vM, fd0, pa⟩ := ra
  cases pa with
  | cons r1 pa =>
  cases pa with
  | cons r2 pa =>
  cases pa
  obtain ⟨⟨f0, c⟩, e0, hF⟩ := r1.1
  cases e0
  obtain ⟨v2, e2, h2⟩ := r2.1
  cases e2
  cases (show _ = V.int m from h2)
  obtain ⟨a, r, cells, hf, hcf, hc, hcl, ha0, han⟩ := fd0 (f0, c) hF
  have fin : ∀ (a' r' z : Int) (H' : Hp), (∀ b o, H b = some o → b ≠ f0 → H' b = some o) → H' f0 = some (.lst [.ref c, .int a', .int r']) → 0 ≤ a' → a' ≤ a + 1 → 0 ≤ z → z < m → Q (.int z) H' := by
    intro a' r' z H' hk hf' h0 h1 hz0 hz1
    refine q (.int z) H' (.int z) (n - 1) (fun b o e => ?_) (fun g hg => ?_) rfl (hP z hz0 hz1)
    · by_cases hb : b = f0
      · subst hb
        exact ⟨_, hf', fun nu => absurd (fU (b, c) hF) nu⟩
      · exact ⟨o, hk b o e hb, fun _ => rfl⟩
    · have : g = (f0, c) := Option.some.inj (hg.symm.trans hF)
      subst this
      exact ⟨a', r', cells, hf', hcf, ⟨hc.1, hk c _ hc.2 hcf⟩, hcl, h0, by omega⟩
  have hu : (A.deeper (envOfC "_law_next" (defScope s__law_next) s.heap.objs.size f cdv)).units < cLine := hr.units0
  have hsq : ∀ {H' : Hp} {xs : List V}, H' f0 = some (.lst xs) → SqL K H' f0 xs := fun h => SqL.of h
  have ed : ∀ z : Int, 0 ≤ z % m ∧ z % m < m := fun z => ⟨Int.emod_nonneg _ (by omega), Int.emod_lt_of_pos _ (by omega)⟩
  refine ⟨_, pss_cons (ps_if (pt_cmpR op_gt (pe_ix ix_list (pv 0) pe_int (fun _ _ => rfl)) pe_int (nomark _))
      (pss_cons (ps_set (i := 2) sc__law_next.nd rfl (Or.inl rfl) (pe_op op_mod (pe_ix ix_list (pv 0) pe_int (fun _ _ => rfl)) (pv 1)))
      (pss_cons (ps_asg (pe_op op_fdiv (pe_ix ix_list (pv 0) pe_int (fun _ _ => rfl)) (pv 1)) (pg_sub (pv 0) pe_int set_list))
      (pss_one (ps_ret (pv 2))))) pss_nil)
    (pss_cons (ps_set (i := 3) sc__law_next.nd rfl (Or.inl rfl) (pe_ix ix_list (pv 0) pe_int (fun _ _ => rfl)))
    (pss_cons (ps_asg (pe_op op_add (pv 3) pe_int) (pg_sub (pv 0) pe_int set_list))
    (pss_cons (ps_set (i := 4) sc__law_next.nd rfl (Or.inl rfl) (pe_ifExp (pt_cmpR (op_ne_nil hu) (pe_ix ix_list (pv 0) pe_int (fun _ _ => rfl)) (pe_lst pa_nil) (nomark _))
      (pe_ix ix_list (pe_ix ix_list (pv 0) pe_int (fun _ _ => rfl)) (pe_op op_mod (pv 3) (pe_callB call_len rfl ml PySem.boot_len (pa_cons (pe_ix ix_list (pv 0) pe_int (fun _ _ => rfl)) pa_nil))) (fun _ _ => rfl)) pe_int))
    (pss_cons (ps_if (PW.pt (pw_and (pt_cmpR op_ge (pv 4) (pe_op op_pow pe_int pe_int) (nomark _)) (pw_and1 (pt_cmpR op_lt (pv 3) (pe_callB call_len rfl ml PySem.boot_len (pa_cons (pe_ix ix_list (pv 0) pe_int (fun _ _ => rfl)) pa_nil)) (nomark _)))))
      (pss_cons (ps_asg (pe_op op_fdiv (pv 4) (pv 1)) (pg_sub (pv 0) pe_int set_list))
      (pss_one (ps_ret (pe_op op_mod (pv 4) (pv 1))))) pss_nil)
    (pss_cons (ps_set (i := 5) sc__law_next.nd rfl (Or.inl rfl) (pe_op op_mod (pe_op op_mul (pe_op op_add (pe_op op_add (pe_op op_add (pe_op op_mod (pv 4) pe_int) (pe_op op_mul (pe_op op_mul pe_int (pv 3)) (pv 3))) (pe_op op_mul pe_int (pv 3))) pe_int) pe_int) pe_int))
    (pss_one (ps_ret (pe_op op_mod (pe_op op_fdiv (pe_op op_mod (pe_op op_mul (pe_op op_add (pv 5) (pe_op op_mul pe_int (pv 3))) pe_int) pe_int) pe_int) (pv 1))))))))), ?_⟩
  -- if feed[2] > 0
  refine ⟨_, rfl, f0, _, 2, _, rfl, rfl, hsq hf, rfl, _, _, rfl, rfl, _, rfl, ?_⟩
  refine ite2 (fun c1 => ?_) (fun c1 => ?_)
  · refine ⟨_, rfl, f0, _, 2, _, rfl, rfl, hsq hf, rfl, _, rfl, _, _, rfl, rfl, (by show (0 : Int) < m; omega), ?_⟩
    refine ⟨_, rfl, f0, _, 2, _, rfl, rfl, hsq hf, rfl, _, rfl, _, _, rfl, rfl, ⟨(by show (0 : Int) < m; omega), hm2⟩, _, rfl, f0, _, 2, 2, rfl, rfl, hf, rfl, ?_⟩
    refine ⟨_, rfl, ?_⟩
    exact fin a _ _ _ (fun b o e hb => by rw [upd_ne hb]; exact e) upd_same ha0 (by omega) (ed _).1 (ed _).2
  · -- at = feed[1]; feed[1] = at + 1
    refine ⟨_, rfl, f0, _, 1, _, rfl, rfl, hsq hf, rfl, ?_⟩
    refine ⟨_, rfl, _, _, rfl, rfl, _, rfl, f0, _, 1, 1, rfl, rfl, hf, rfl, ?_⟩
    generalize hH1 : upd H f0 (.lst ([V.ref c, V.int a, V.int r].set 1 (V.int (a + 1)))) = H1
    have f1 : H1 f0 = some (.lst [.ref c, .int (a + 1), .int r]) := by rw [← hH1]; exact upd_same
    have k1 : ∀ b o, H b = some o → b ≠ f0 → H1 b = some o := fun b o e hb => by rw [← hH1, upd_ne hb]; exact e
    have c1' : H1 c = some (.lst (cells.map V.int)) := k1 c _ hc.2 hcf
    -- cell
    have rest : ∀ (z : Int) (H2 : Hp), (∀ b o, H1 b = some o → H2 b = some o) →
        (tSeq (tIfS (tAnd (tTest (tOp (rI0 fun i j => V.bl (decide (j ≤ i))) (tVar 4) (tOp (rI CPow fun i j => V.int (i ^ j.toNat)) (tC (V.int 10)) (tC (V.int 18))))) (tTest (tOp (rI0 fun i j => V.bl (decide (i < j))) (tVar 3) (tCB (fun xs H Q => ∃ x n, xs = [x] ∧ LenV K x H n ∧ Q (V.int n) H) (tCons (tOp (rIxL K) (tVar 0) (tC (V.int 0))) tNil))))) (tSeq (tAsg (tOp (rI CDiv fun i j => V.int (i / j)) (tVar 4) (tVar 1)) (gSub (tVar 0) (tC (V.int 2)) rSetL)) (tRet (tOp (rI (fun _ j => 0 < j) fun i j => V.int (i % j)) (tVar 4) (tVar 1)))) tNext) (tSeq (tAsg (tOp (rI (fun _ j => 0 < j) fun i j => V.int (i % j)) (tOp (rI CMul fun i j => V.int (i * j)) (tOp (rI0 fun i j => V.int (i + j)) (tOp (rI0 fun i j => V.int (i + j)) (tOp (rI0 fun i j => V.int (i + j)) (tOp (rI (fun _ j => 0 < j) fun i j => V.int (i % j)) (tVar 4) (tC (V.int 1000003))) (tOp (rI CMul fun i j => V.int (i * j)) (tOp (rI CMul fun i j => V.int (i * j)) (tC (V.int 41)) (tVar 3)) (tVar 3))) (tOp (rI CMul fun i j => V.int (i * j)) (tC (V.int 17)) (tVar 3))) (tC (V.int 3))) (tC (V.int 51749))) (tC (V.int 999917))) (gName 5)) (tRet (tOp (rI (fun _ j => 0 < j) fun i j => V.int (i % j)) (tOp (rI CDiv fun i j => V.int (i / j)) (tOp (rI (fun _ j => 0 < j) fun i j => V.int (i % j)) (tOp (rI CMul fun i j => V.int (i * j)) (tOp (rI0 fun i j => V.int (i + j)) (tVar 5) (tOp (rI CMul fun i j => V.int (i * j)) (tC (V.int 8111)) (tVar 3))) (tC (V.int 39373))) (tC (V.int 2097143))) (tC (V.int 3))) (tVar 1)))))
          { nx := fun _ H' => Q .non H', rt := Q } [some (.ref f0), some (.int m), none, some (.int a), some (.int z), none] H2 := by
      intro z H2 k2
      have f2 := k2 _ _ f1
      have c2 := k2 _ _ c1'
      have lastWay : ∀ H3 : Hp, H3 = H2 → (tSeq (tAsg (tOp (rI (fun _ j => 0 < j) fun i j => V.int (i % j)) (tOp (rI CMul fun i j => V.int (i * j)) (tOp (rI0 fun i j => V.int (i + j)) (tOp (rI0 fun i j => V.int (i + j)) (tOp (rI0 fun i j => V.int (i + j)) (tOp (rI (fun _ j => 0 < j) fun i j => V.int (i % j)) (tVar 4) (tC (V.int 1000003))) (tOp (rI CMul fun i j => V.int (i * j)) (tOp (rI CMul fun i j => V.int (i * j)) (tC (V.int 41)) (tVar 3)) (tVar 3))) (tOp (rI CMul fun i j => V.int (i * j)) (tC (V.int 17)) (tVar 3))) (tC (V.int 3))) (tC (V.int 51749))) (tC (V.int 999917))) (gName 5)) (tRet (tOp (rI (fun _ j => 0 < j) fun i j => V.int (i % j)) (tOp (rI CDiv fun i j => V.int (i / j)) (tOp (rI (fun _ j => 0 < j) fun i j => V.int (i % j)) (tOp (rI CMul fun i j => V.int (i * j)) (tOp (rI0 fun i j => V.int (i + j)) (tVar 5) (tOp (rI CMul fun i j => V.int (i * j)) (tC (V.int 8111)) (tVar 3))) (tC (V.int 39373))) (tC (V.int 2097143))) (tC (V.int 3))) (tVar 1))))
          { nx := fun _ H' => Q .non H', rt := Q } [some (.ref f0), some (.int m), none, some (.int a), some (.int z), none] H3 := by
        intro H3 e3
        subst e3
        have hb : CMul (41 * a) a := .inr ⟨by omega, by omega⟩
        refine ⟨_, rfl, _, _, rfl, rfl, (by show (0 : Int) < 1000003; decide), _, rfl, _, _, rfl, rfl, .inl ⟨by decide, by decide⟩, _, rfl, _, _, rfl, rfl, hb, _, _, rfl, rfl, _, rfl, _, _, rfl, rfl, .inl ⟨by decide, by decide⟩, _, _, rfl, rfl, _, _, rfl, rfl, _, _, rfl, rfl, .inr ⟨by decide, by decide⟩, _, _, rfl, rfl, (by show (0 : Int) < 999917; decide), ?_⟩
        refine ⟨_, rfl, _, rfl, _, _, rfl, rfl, .inl ⟨by decide, by decide⟩, _, _, rfl, rfl, _, _, rfl, rfl, .inr ⟨by decide, by decide⟩, _, _, rfl, rfl, (by show (0 : Int) < 2097143; decide), _, _, rfl, rfl, ⟨by decide, by decide⟩, _, rfl, _, _, rfl, rfl, (by show (0 : Int) < m; omega), ?_⟩
        exact fin (a + 1) r _ _ (fun b o e hb => k2 b o (k1 b o e hb)) f2 (by omega) (by omega) (ed _).1 (ed _).2
      refine ⟨_, rfl, _, _, rfl, rfl, ⟨by decide, by decide, by decide⟩, _, _, rfl, rfl, _, rfl, ?_⟩
      refine ite2 (fun c3 => ?_) (fun c3 => ?_)
      · refine ⟨_, rfl, _, rfl, f0, _, 0, _, rfl, rfl, hsq f2, rfl, _, _, rfl, .inl ⟨_, SqL.of c2, rfl⟩, _, _, rfl, rfl, _, rfl, ?_⟩
        refine ite2 (fun c4 => ?_) (fun c4 => lastWay H2 rfl)
        refine ⟨_, rfl, _, rfl, _, _, rfl, rfl, ⟨(by show (0 : Int) < m; omega), hm2⟩, _, rfl, f0, _, 2, 2, rfl, rfl, f2, rfl, ?_⟩
        refine ⟨_, rfl, _, rfl, _, _, rfl, rfl, (by show (0 : Int) < m; omega), ?_⟩
        exact fin (a + 1) _ _ _ (fun b o e hb => by rw [upd_ne hb]; exact k2 b o (k1 b o e hb)) upd_same (by omega) (by omega) (ed _).1 (ed _).2
      · refine ite2 (fun c4 => absurd c4 (by simp)) (fun _ => lastWay H2 rfl)
    refine ⟨_, rfl, f0, _, 0, _, rfl, rfl, hsq f1, rfl, (by show 0 ≤ sizeLine; decide), fun p hp => ?_⟩
    have kp : ∀ b o, H1 b = some o → upd H1 p (.lst []) b = some o := fun b o e => by rw [upd_ne (ne_of_none e hp)]; exact e
    refine ⟨c, p, _, rfl, rfl, SqL.of (kp _ _ c1'), SqL.of upd_same, _, rfl, ?_⟩
    cases cells with
    | nil => exact iteF (rest 0 _ kp)
    | cons z0 cs =>
      refine iteT ?_
      have hlen : (((z0 :: cs).map V.int).length : Int) = (cs.length : Int) + 1 := by simp
      have hpos : (0 : Int) < (((z0 :: cs).map V.int).length : Int) := by omega
      obtain ⟨z, hz⟩ : ∃ z, atI ((z0 :: cs).map V.int) (a % (((z0 :: cs).map V.int).length : Int)) = some (.int z) := by
        have h1 := Int.emod_nonneg a (show (((z0 :: cs).map V.int).length : Int) ≠ 0 by omega)
        have h2 := Int.emod_lt_of_pos a hpos
        generalize a % (((z0 :: cs).map V.int).length : Int) = j at h1 h2
        obtain ⟨k, rfl⟩ : ∃ k : Nat, j = (k : Int) := ⟨j.toNat, by omega⟩
        have hk : k < (z0 :: cs).length := by rw [List.length_map] at h2; omega
        refine ⟨(z0 :: cs)[k], atI_nat ?_⟩
        rw [List.getElem?_map, List.getElem?_eq_getElem hk]
        rfl
      refine ⟨_, rfl, f0, _, 0, _, rfl, rfl, hsq (kp _ _ f1), rfl, _, rfl, _, rfl, f0, _, 0, _, rfl, rfl, hsq (kp _ _ f1), rfl, _, _, rfl, .inl ⟨_, SqL.of (kp _ _ c1'), rfl⟩, _, _, rfl, rfl, hpos, c, _, _, _, rfl, rfl, SqL.of (kp _ _ c1'), hz, ?_⟩
      exact rest z _ kp
end
end K01

set_option maxHeartbeats 4000000
namespace K01
open PySem PySem.Spec PyProof.Rows L2 Dp
local macro_rules | `(tactic| walk_at "rd") => `(tactic| simp only [wSeq, wIfS, wOrT, wAndT, wNotT, wTest, wChain, wOp, wCB, wCons, wNil, wC, wVar, wVarT, wIsi, wRet, wNext, wSet, wAnd, wOr, wNot, wIf, wTup, wLst, wCall, wSlot, wFeed, wsNil, wsCons, wComp, wSeqOf, wYes, wBM, wSl, wNoPart, wPart, wNeg, wFor, wRng1, wDrop,
  fLen_str, fLen_tup, fLen_lst, fLeU, fLtU, f2, f2c, fII, fSS, fEq, fAddU, fSlS, isT, tyD, isiD, liftS, List.map_cons, List.map_nil, List.getElem?_cons_zero, List.getElem?_cons_succ, List.cons_append, List.nil_append, List.length_cons, List.length_nil, Option.getD_some, Option.getD_none, List.set_cons_zero, List.set_cons_succ, List.replicate_succ, List.replicate_zero, Nat.sub_self, Nat.reduceSub, Nat.reduceAdd, Nat.zero_add, Nat.add_zero, Bool.not_true, Bool.not_false, if_true, if_false, Bool.false_eq_true, reduceIte, String.reduceBEq, Bool.or_false, Bool.or_true, Bool.false_or, Bool.true_or, Bool.and_true, Bool.and_false, Bool.true_and, Bool.false_and])
abbrev s_is_whole : Stmt := top 3
abbrev s_is_number : Stmt := top 4
abbrev s_is_tuple_of : Stmt := top 5
abbrev s_is_name : Stmt := top 6
abbrev s_is_times : Stmt := top 7
abbrev s__law_feed : Stmt := top 9
abbrev s__law_whole : Stmt := top 11
abbrev s__law_text : Stmt := top 12
abbrev s__law_number : Stmt := top 13
abbrev s__law_told : Stmt := top 14
abbrev s__law_name_due : Stmt := top 15
abbrev s__law_times_due : Stmt := top 16
abbrev s_law : Stmt := top 17
/-- the module's names -/
structure Txt (K : PySem.W.Frag) (mg : Str → Option Value) : Prop where
  n_isinstance : mg "isinstance" = none
  n_int : mg "int" = none
  n_bool : mg "bool" = none
  n_str : mg "str" = none
  n_tuple : mg "tuple" = none
  n_list : mg "list" = none
  n_len : mg "len" = none
  n_all : mg "all" = none
  n_range : mg "range" = none
  g_MOST_SIGNS : ∃ t, mg "MOST_SIGNS" = some (.int 8 t)
  g_MOST_NUMBER : ∃ t, mg "MOST_NUMBER" = some (.int 1000000 t)
section
variable {P : Program} {w : World} {K : PySem.W.Frag} {mg : Str → Option Value} {base : Heap}
theorem sc_is_whole : FnScope ["thing"] ["thing"] (defScope s_is_whole) := ⟨rfl, rfl, rfl, by decide +kernel, rfl, by decide +kernel, by decide +kernel⟩
theorem sc_is_number : FnScope ["thing"] ["thing"] (defScope s_is_number) := ⟨rfl, rfl, rfl, by decide +kernel, rfl, by decide +kernel, by decide +kernel⟩
theorem sc_is_tuple_of : FnScope ["count", "thing"] ["count", "thing"] (defScope s_is_tuple_of) := ⟨rfl, rfl, rfl, by decide +kernel, rfl, by decide +kernel, by decide +kernel⟩
theorem sc_is_name : FnScope ["thing"] ["thing"] (defScope s_is_name) := ⟨rfl, rfl, rfl, by decide +kernel, rfl, by decide +kernel, by decide +kernel⟩
theorem sc_is_times : FnScope ["thing"] ["thing"] (defScope s_is_times) := ⟨rfl, rfl, rfl, by decide +kernel, rfl, by decide +kernel, by decide +kernel⟩
def isWhole : D → Bool
  | .int _ => true
  | _ => false
theorem ok_is_whole {f : Addr} {fd : FuncData} (T : Txt K mg) (F : Fun K "is_whole" "is_whole" s_is_whole f fd) : FnOk P w K mg base CX0 1 f fd ["thing"] (sp2 K .sh (pureW 1 fun ds => .bl (isWhole (ds.getD 0 .non))) 1) := by
  refine fn2 F sc_is_whole (by decide) (fun cdv A outer s H E hr => (dss_one (ds_ret (de_and (de_isi kit_int (dv 0) rfl T.n_isinstance rfl T.n_int (by decide +kernel)) (de_one (de_not (de_isi kit_bool (dv 0) rfl T.n_isinstance rfl T.n_bool (by decide +kernel)))))))) ?_
  rintro ss n Pd hl ⟨ds, hd, rfl, p⟩
  match ds, hd with
  | [d], _ => cases d <;> exact p
abbrev Wwhole : W2 := pureW 1 fun ds => .bl (isWhole (ds.getD 0 .non))
def isNumber : D → Bool
  | .int i => decide (1 ≤ i) && decide (i ≤ 1000000)
  | _ => false
abbrev Wnumber : W2 := pureW 1 fun ds => .bl (isNumber (ds.getD 0 .non))
theorem ok_is_number {f : Addr} {fd : FuncData} (T : Txt K mg) (G_is_whole : Got P w K mg base "is_whole" 1 ["thing"] .sh Wwhole) (F : Fun K "is_number" "is_number" s_is_number f fd) : FnOk P w K mg base CX0 2 f fd ["thing"] (sp2 K .sh Wnumber 1) := by
  obtain ⟨t, gN⟩ := T.g_MOST_NUMBER
  refine fn2 F sc_is_number (by decide) (fun cdv A outer s H E hr => (dss_one (ds_ret (de_and (de_callG G_is_whole (hr.mono (by decide)) rfl (das_cons (da_sh (dv 0)) das_nil)) (de_one (de_chain op_leU a_leU op_leU a_leU dc_int (dv 0) (dc_gint rfl gN))))))) ?_
  rintro ss n Pd hl ⟨ds, hd, rfl, p⟩
  match ds, hd with
  | [d], _ =>
    refine ⟨[d], rfl, rfl, ?_⟩
    cases d with
    | int i =>
      walk_at "rd"
      simp only [isWhole, List.getD_cons_zero]
      by_cases h1 : 1 ≤ i
      · simpa [isNumber, h1] using p
      · simpa [isNumber, h1] using p
    | _ => exact p
def isTupleOf (k : Int) : D → Bool
  | .tup xs => ((xs.length : Int) == k)
  | _ => false
abbrev WtupleOf : W2 := fun ss n P => ∃ k d, ss = [.sh (.int k), .sh d] ∧ P (.bl (isTupleOf k d)) n
theorem ok_is_tuple_of {f : Addr} {fd : FuncData} (T : Txt K mg) (F : Fun K "is_tuple_of" "is_tuple_of" s_is_tuple_of f fd) : FnOk P w K mg base CX0 1 f fd ["count", "thing"] (sp2 K .sh WtupleOf 2) := by
  refine fn2 F sc_is_tuple_of (by decide) (fun cdv A outer s H E hr => (dss_one (ds_ret (de_and (de_isi kit_tuple (dv 1) rfl T.n_isinstance rfl T.n_tuple (by decide +kernel)) (de_one (de_cmp op_eq a_eq (de_callB call_len a_len rfl T.n_len PySem.boot_len (dad_cons (dv 1) dad_nil)) (dv 0) (nomark _))))))) ?_
  rintro ss n Pd hl ⟨k, d, rfl, p⟩
  cases d with
  | tup xs => exact ⟨_, _, rfl, rfl, p⟩
  | _ => exact p
/-- a sign as is_name looks at it -/
def smallP (c : Nat) : Bool := (!(decide ([c] < ("a" : Str).cps.toList))) && (!(decide (("z" : Str).cps.toList < [c])))
def nameP : D → Bool
  | .str x => (decide ((1 : Int) ≤ (x.length : Int)) && decide ((x.length : Int) ≤ 8)) && x.cps.toList.all smallP
  | _ => false
abbrev Wname : W2 := pureW 1 fun ds => .bl (nameP (ds.getD 0 .non))
theorem ok_is_name {f : Addr} {fd : FuncData} (T : Txt K mg) (F : Fun K "is_name" "is_name" s_is_name f fd) : FnOk P w K mg base CX0 1 f fd ["thing"] (sp2 K .sh Wname 1) := by
  obtain ⟨t, gS⟩ := T.g_MOST_SIGNS
  refine fn2 F sc_is_name (by decide) (fun cdv A outer s H E hr => (dss_cons (ds_if (DTW.dt (dw_or (dt_not (dt_val (de_isi kit_str (dv 0) rfl T.n_isinstance rfl T.n_str (by decide +kernel)))) (dw_or1 (dt_not (dt_chain op_leU a_leU op_leU a_leU dc_int (de_callB call_len a_len rfl T.n_len PySem.boot_len (dad_cons (dv 0) dad_nil)) (dc_gint rfl gS)))))) (dss_one (ds_ret dc_bl)) dss_nil)
  (dss_one (ds_ret (de_callB (call_all rfl) a_all rfl T.n_all PyProof.Rows.boot_all (dad_cons (de_comp rfl [("sign" : Str)] [none] (dic_any (dv 0)) (fun _ _ _ _ _ => (dg_name (i := 0) (show List.Nodup [("sign" : Str)] by decide +kernel) rfl (Or.inl rfl))) (fun _ _ _ _ _ => dif_nil) (fun _ _ _ _ _ => (de_chain op_leU a_leU op_leU a_leU dc_str (dv 0) dc_str)) (by kernel_rfl)) dad_nil)))))) ?_
  rintro ss n Pd hl ⟨ds, hd, rfl, p⟩
  match ds, hd with
  | [d], _ =>
    cases d with
    | str x =>
      walk_at "rd"
      by_cases h1 : (1 : Int) ≤ (x.length : Int)
      · by_cases h2 : (x.length : Int) ≤ 8
        · simp only [decide_eq_true h1, decide_eq_true h2, Bool.not_true, Bool.false_eq_true, if_false]
          refine ⟨by unfold Dp.signs; rw [List.length_map]; show x.cps.toList.length ≤ _; have : x.cps.toList.length = x.length := Array.length_toList; omega, ?_⟩
          refine loopC_pure (g := fun d => match d with | .str z => .bl ((!(decide (z.cps.toList < ("a" : Str).cps.toList))) && (!(decide (("z" : Str).cps.toList < z.cps.toList)))) | _ => .non) (fun ρ => ρ = [.no] ∨ ∃ d, ρ = [.sh d]) ?_ _ _ _ _ ?_ (.inl rfl) ?_
          · rintro d ρ (rfl | ⟨e, rfl⟩) <;> exact .inr ⟨d, rfl⟩
          · rintro d hd ρ m P' hρ h
            obtain ⟨c, hc, rfl⟩ := List.mem_map.mp hd
            have e : ρ.set 0 (Slot.sh (D.str ⟨#[c]⟩)) = [.sh (.str ⟨#[c]⟩)] := by rcases hρ with rfl | ⟨e, rfl⟩ <;> rfl
            rw [e]
            walk_at "rd"
            exact chain_bl (k := fun P => P (.bl _) m) (fun _ h => h) h
          · rw [List.nil_append]
            unfold Dp.signs
            rw [List.map_map]
            refine ⟨_, _, rfl, allB_map (fun c : Nat => smallP c) x.cps.toList, ?_⟩
            have e : (x.cps.toList.map fun c => smallP c).all id = nameP (.str x) := by
              rw [List.all_map]
              simp only [nameP, decide_eq_true h1, decide_eq_true h2, Bool.true_and]
              rfl
            rw [e]
            exact p
        · simp only [decide_eq_true h1, decide_eq_false h2, Bool.not_false, if_true]
          have e : nameP (.str x) = false := by simp only [nameP, decide_eq_false h2, Bool.and_false, Bool.false_and]
          have p' : Pd (.bl (nameP (.str x))) n := p
          rw [e] at p'
          exact p'
      · simp only [decide_eq_false h1, Bool.not_false, if_true]
        have e : nameP (.str x) = false := by simp only [nameP, decide_eq_false h1, Bool.false_and]
        have p' : Pd (.bl (nameP (.str x))) n := p
        rw [e] at p'
        exact p'
    | _ => exact p
end
end K01

set_option maxHeartbeats 4000000
namespace K01
open PySem PySem.Spec PyProof.Rows L2 Dp
local macro_rules | `(tactic| walk_at "rd") => `(tactic| simp only [wSeq, wIfS, wOrT, wAndT, wNotT, wTest, wChain, wOp, wCB, wCons, wNil, wC, wVar, wVarT, wIsi, wRet, wNext, wSet, wAnd, wOr, wNot, wIf, wTup, wLst, wCall, wSlot, wFeed, wsNil, wsCons, wComp, wSeqOf, wYes, wBM, wSl, wNoPart, wPart, wNeg, wFor, wRng1, wDrop,
  fLen_str, fLen_tup, fLen_lst, fLeU, fLtU, f2, f2c, fII, fSS, fEq, fAddU, fSlS, isT, tyD, isiD, liftS, List.map_cons, List.map_nil, List.getElem?_cons_zero, List.getElem?_cons_succ, List.cons_append, List.nil_append, List.length_cons, List.length_nil, Option.getD_some, Option.getD_none, List.set_cons_zero, List.set_cons_succ, List.replicate_succ, List.replicate_zero, Nat.sub_self, Nat.reduceSub, Nat.reduceAdd, Nat.zero_add, Nat.add_zero, Bool.not_true, Bool.not_false, if_true, if_false, Bool.false_eq_true, reduceIte, String.reduceBEq, Bool.or_false, Bool.or_true, Bool.false_or, Bool.true_or, Bool.and_true, Bool.and_false, Bool.true_and, Bool.false_and])
section
variable {P : Program} {w : World} {K : PySem.W.Frag} {mg : Str → Option Value} {base : Heap}
def geB : D → D → Bool
  | .int i, .int j => decide (j ≤ i)
  | _, _ => false
def timesP : D → Bool
  | .tup [a, b] => (isNumber a && isNumber b) && geB a b
  | _ => false
abbrev Wtimes : W2 := pureW 1 fun ds => .bl (timesP (ds.getD 0 .non))
theorem isNumber_int {d : D} (h : isNumber d = true) : ∃ i, d = .int i := by
  cases d with
  | int i => exact ⟨i, rfl⟩
  | _ => cases h
theorem ok_is_times {f : Addr} {fd : FuncData} (T : Txt K mg) (G_is_tuple_of : Got P w K mg base "is_tuple_of" 1 ["count", "thing"] .sh WtupleOf) (G_is_number : Got P w K mg base "is_number" 2 ["thing"] .sh Wnumber) (F : Fun K "is_times" "is_times" s_is_times f fd) : FnOk P w K mg base CX0 3 f fd ["thing"] (sp2 K .sh Wtimes 1) := by
  refine fn2 F sc_is_times (by decide) (fun cdv A outer s H E hr => (dss_cons (ds_if (dt_not (dt_val (de_callG G_is_tuple_of (hr.mono (by decide)) rfl (das_cons (da_sh dc_int) (das_cons (da_sh (dv 0)) das_nil))))) (dss_one (ds_ret dc_bl)) dss_nil)
  (dss_cons (ds_if (DTW.dt (dw_or (dt_not (dt_val (de_callG G_is_number (hr.mono (by decide)) rfl (das_cons (da_sh (de_ix ix_seq a_ix (dv 0) dc_int)) das_nil)))) (dw_or1 (dt_not (dt_val (de_callG G_is_number (hr.mono (by decide)) rfl (das_cons (da_sh (de_ix ix_seq a_ix (dv 0) dc_int)) das_nil))))))) (dss_one (ds_ret dc_bl)) dss_nil)
  (dss_one (ds_ret (de_cmp op_geU a_geU (de_ix ix_seq a_ix (dv 0) dc_int) (de_ix ix_seq a_ix (dv 0) dc_int) (nomark _))))))) ?_
  rintro ss n Pd hl ⟨ds, hd, rfl, p⟩
  match ds, hd with
  | [d], _ =>
    refine ⟨2, d, rfl, ?_⟩
    cases d with
    | tup xs =>
      match xs, p with
      | [], p => exact p
      | [a], p => exact p
      | a :: b :: c :: r, p =>
        have e : isTupleOf 2 (.tup (a :: b :: c :: r)) = false := by
          simp only [isTupleOf, List.length_cons, beq_eq_false_iff_ne, ne_eq]
          omega
        walk_at "rd"
        simp only [e, Bool.not_false, if_true]
        exact p
      | [a, b], p =>
        walk_at "rd"
        have e : isTupleOf 2 (.tup [a, b]) = true := rfl
        simp only [e, Bool.not_true, Bool.false_eq_true, if_false]
        refine ⟨a, rfl, [a], rfl, rfl, ?_⟩
        have p' : Pd (.bl ((isNumber a && isNumber b) && geB a b)) n := p
        simp only [List.getD_cons_zero]
        cases ha : isNumber a with
        | false =>
          rw [ha] at p'
          exact p'
        | true =>
          simp only [Bool.not_true, Bool.false_eq_true, if_false]
          refine ⟨b, rfl, [b], rfl, rfl, ?_⟩
          simp only [List.getD_cons_zero]
          cases hb : isNumber b with
          | false =>
            rw [ha, hb] at p'
            exact p'
          | true =>
            rw [ha, hb] at p'
            obtain ⟨i, rfl⟩ := isNumber_int ha
            obtain ⟨j, rfl⟩ := isNumber_int hb
            simp only [Bool.not_true, Bool.false_eq_true, if_false]
            exact ⟨_, rfl, _, rfl, p'⟩
    | _ => exact p
theorem sc__law_whole : FnScope ["_law_thing", "_law_least", "_law_most"] ["_law_thing", "_law_least", "_law_most"] (defScope s__law_whole) := ⟨rfl, rfl, rfl, by decide +kernel, rfl, by decide +kernel, by decide +kernel⟩
def wholeB (l m : Int) : D → Bool
  | .int i => decide (l ≤ i) && decide (i ≤ m)
  | _ => false
abbrev Wlwhole : W2 := fun ss n P => ∃ d l m, ss = [.sh d, .sh (.int l), .sh (.int m)] ∧ P (.bl (wholeB l m d)) n
theorem ok__law_whole {f : Addr} {fd : FuncData} (T : Txt K mg) (F : Fun K "_law_whole" "_law_whole" s__law_whole f fd) : FnOk P w K mg base CX0 1 f fd ["_law_thing", "_law_least", "_law_most"] (sp2 K .sh Wlwhole 3) := by
  refine fn2 F sc__law_whole (by decide) (fun cdv A outer s H E hr => (dss_one (ds_ret (de_and (de_isi kit_int (dv 0) rfl T.n_isinstance rfl T.n_int (by decide +kernel)) (de_and (de_not (de_isi kit_bool (dv 0) rfl T.n_isinstance rfl T.n_bool (by decide +kernel))) (de_one (de_chain op_leU a_leU op_leU a_leU (dv 1) (dv 0) (dv 2)))))))) ?_
  rintro ss n Pd hl ⟨d, l, m, rfl, p⟩
  cases d with
  | int i => exact chain_bl (k := fun P => P (.bl _) n) (fun _ h => h) p
  | _ => exact p
theorem sc__law_told : FnScope ["_law_found", "_law_due"] ["_law_found", "_law_due"] (defScope s__law_told) := ⟨rfl, rfl, rfl, by decide +kernel, rfl, by decide +kernel, by decide +kernel⟩
abbrev Wtold : W2 := fun ss n P => ∃ b c, ss = [.sh (.bl b), .sh (.bl c)] ∧ P (.bl (b == c)) n
theorem ok__law_told {f : Addr} {fd : FuncData} (T : Txt K mg) (F : Fun K "_law_told" "_law_told" s__law_told f fd) : FnOk P w K mg base CX0 1 f fd ["_law_found", "_law_due"] (sp2 K .sh Wtold 2) := by
  refine fn2 F sc__law_told (by decide) (fun cdv A outer s H E hr => (dss_one (ds_ret (de_and (de_isi kit_bool (dv 0) rfl T.n_isinstance rfl T.n_bool (by decide +kernel)) (de_one (de_cmp op_eq a_eq (dv 0) (dv 1) (nomark _))))))) ?_
  rintro ss n Pd hl ⟨b, c, rfl, p⟩
  exact p
theorem sc__law_name_due : FnScope ["_law_thing"] ["_law_thing"] (defScope s__law_name_due) := ⟨rfl, rfl, rfl, by decide +kernel, rfl, by decide +kernel, by decide +kernel⟩
def letters : Str := "abcdefghijklmnopqrstuvwxyz"
def nameD : D → Bool
  | .str x => (decide ((0 : Int) < (x.length : Int)) && decide ((x.length : Int) < 9)) && x.cps.toList.all fun c => decide (c ∈ letters.cps.toList)
  | _ => false
abbrev WnameD : W2 := pureW 1 fun ds => .bl (nameD (ds.getD 0 .non))
theorem ok__law_name_due {f : Addr} {fd : FuncData} (T : Txt K mg) (F : Fun K "_law_name_due" "_law_name_due" s__law_name_due f fd) : FnOk P w K mg base CX0 1 f fd ["_law_thing"] (sp2 K .sh WnameD 1) := by
  refine fn2 F sc__law_name_due (by decide) (fun cdv A outer s H E hr => (dss_cons (ds_if (DTW.dt (dw_or (dt_not (dt_val (de_isi kit_str (dv 0) rfl T.n_isinstance rfl T.n_str (by decide +kernel)))) (dw_or1 (dt_not (dt_chain op_ltU a_ltU op_ltU a_ltU dc_int (de_callB call_len a_len rfl T.n_len PySem.boot_len (dad_cons (dv 0) dad_nil)) dc_int))))) (dss_one (ds_ret dc_bl)) dss_nil)
  (dss_one (ds_ret (de_callB (call_all rfl) a_all rfl T.n_all PyProof.Rows.boot_all (dad_cons (de_comp rfl [("_law_sign" : Str)] [none] (dic_any (dv 0)) (fun _ _ _ _ _ => (dg_name (i := 0) (show List.Nodup [("_law_sign" : Str)] by decide +kernel) rfl (Or.inl rfl))) (fun _ _ _ _ _ => dif_nil) (fun _ _ _ _ _ => (de_cmp op_inU a_inU (dv 0) dc_str (by with_unfolding_all rfl))) (by kernel_rfl)) dad_nil)))))) ?_
  rintro ss n Pd hl ⟨ds, hd, rfl, p⟩
  match ds, hd with
  | [d], _ =>
    cases d with
    | str x =>
      walk_at "rd"
      by_cases h1 : (0 : Int) < (x.length : Int)
      · by_cases h2 : (x.length : Int) < 9
        · simp only [decide_eq_true h1, decide_eq_true h2, Bool.not_true, Bool.false_eq_true, if_false]
          refine ⟨by unfold Dp.signs; rw [List.length_map]; show x.cps.toList.length ≤ _; have : x.cps.toList.length = x.length := Array.length_toList; omega, ?_⟩
          refine loopC_pure (g := fun d => match d with | .str z => .bl (!(Builtin.Str.occurrences letters z 0 letters.length 1).isEmpty) | _ => .non) (fun ρ => ρ = [.no] ∨ ∃ d, ρ = [.sh d]) ?_ _ _ _ _ ?_ (.inl rfl) ?_
          · rintro d ρ (rfl | ⟨e, rfl⟩) <;> exact .inr ⟨d, rfl⟩
          · rintro d hd ρ m P' hρ h
            obtain ⟨c, hc, rfl⟩ := List.mem_map.mp hd
            have e : ρ.set 0 (Slot.sh (D.str ⟨#[c]⟩)) = [.sh (.str ⟨#[c]⟩)] := by rcases hρ with rfl | ⟨e, rfl⟩ <;> rfl
            rw [e]
            exact h
          · rw [List.nil_append]
            unfold Dp.signs
            rw [List.map_map]
            refine ⟨_, _, rfl, allB_map (fun c : Nat => !(Builtin.Str.occurrences letters ⟨#[c]⟩ 0 letters.length 1).isEmpty) x.cps.toList, ?_⟩
            have e : (x.cps.toList.map fun c => !(Builtin.Str.occurrences letters ⟨#[c]⟩ 0 letters.length 1).isEmpty).all id = nameD (.str x) := by
              rw [List.all_map]
              simp only [nameD, decide_eq_true h1, decide_eq_true h2, Bool.true_and]
              congr 1
              funext c
              exact PySem.StrLaws.found_one letters c
            rw [e]
            exact p
        · simp only [decide_eq_true h1, decide_eq_false h2, Bool.not_false, if_true]
          have e : nameD (.str x) = false := by simp only [nameD, decide_eq_false h2, Bool.and_false, Bool.false_and]
          have p' : Pd (.bl (nameD (.str x))) n := p
          rw [e] at p'
          exact p'
      · simp only [decide_eq_false h1, Bool.not_false, if_true]
        have e : nameD (.str x) = false := by simp only [nameD, decide_eq_false h1, Bool.false_and]
        have p' : Pd (.bl (nameD (.str x))) n := p
        rw [e] at p'
        exact p'
    | _ => exact p
/-- the two looks at a text are one -/
theorem small_same (c : Nat) : smallP c = decide (c ∈ letters.cps.toList) := by
  have ea : ("a" : Str).cps.toList = [97] := by decide +kernel
  have ez : ("z" : Str).cps.toList = [122] := by decide +kernel
  have el : letters.cps.toList = [97, 98, 99, 100, 101, 102, 103, 104, 105, 106, 107, 108, 109, 110, 111, 112, 113, 114, 115, 116, 117, 118, 119, 120, 121, 122] := by decide +kernel
  unfold smallP
  rw [ea, ez, el, Bool.eq_iff_iff]
  simp only [Bool.and_eq_true, Bool.not_eq_true', decide_eq_false_iff_not, decide_eq_true_eq, List.cons_lt_cons_iff, List.not_lt_nil, and_false, or_false, List.mem_cons, List.not_mem_nil]
  omega
theorem name_same (d : D) : nameP d = nameD d := by
  cases d with
  | str x =>
    have e1 : decide ((1 : Int) ≤ (x.length : Int)) = decide ((0 : Int) < (x.length : Int)) := rfl
    have e2 : decide ((x.length : Int) ≤ 8) = decide ((x.length : Int) < 9) := by
      rw [Bool.eq_iff_iff, decide_eq_true_eq, decide_eq_true_eq]
      omega
    have e3 : smallP = fun c => decide (c ∈ letters.cps.toList) := funext small_same
    simp only [nameP, nameD]
    rw [e1, e2, e3]
  | _ => rfl
theorem sc__law_times_due : FnScope ["_law_thing"] ["_law_thing"] (defScope s__law_times_due) := ⟨rfl, rfl, rfl, by decide +kernel, rfl, by decide +kernel, by decide +kernel⟩
theorem ok__law_times_due {f : Addr} {fd : FuncData} (T : Txt K mg) (G__law_whole : Got P w K mg base "_law_whole" 1 ["_law_thing", "_law_least", "_law_most"] .sh Wlwhole) (F : Fun K "_law_times_due" "_law_times_due" s__law_times_due f fd) : FnOk P w K mg base CX0 2 f fd ["_law_thing"] (sp2 K .sh Wtimes 1) := by
  refine fn2 F sc__law_times_due (by decide) (fun cdv A outer s H E hr => (dss_cons (ds_if (DTW.dt (dw_or (dt_not (dt_val (de_isi kit_tuple (dv 0) rfl T.n_isinstance rfl T.n_tuple (by decide +kernel)))) (dw_or1 (dt_cmp op_ne a_ne (de_callB call_len a_len rfl T.n_len PySem.boot_len (dad_cons (dv 0) dad_nil)) dc_int (nomark _))))) (dss_one (ds_ret dc_bl)) dss_nil)
  (dss_one (ds_ret (de_and (de_callB (call_all rfl) a_all rfl T.n_all PyProof.Rows.boot_all (dad_cons (de_comp rfl [("_law_one" : Str)] [none] (dic_any (dv 0)) (fun _ _ _ _ _ => (dg_name (i := 0) (show List.Nodup [("_law_one" : Str)] by decide +kernel) rfl (Or.inl rfl))) (fun _ _ _ _ _ => dif_nil) (fun _ _ _ _ _ => (de_callG G__law_whole (hr.mono (by decide)) rfl (das_cons (da_sh (dv 0)) (das_cons (da_sh dc_int) (das_cons (da_sh (de_op op_pow a_intc dc_int dc_int)) das_nil))))) (by kernel_rfl)) dad_nil)) (de_one (de_cmp op_geU a_geU (de_ix ix_seq a_ix (dv 0) dc_int) (de_ix ix_seq a_ix (dv 0) dc_int) (nomark _)))))))) ?_
  rintro ss n Pd hl ⟨ds, hd, rfl, p⟩
  match ds, hd with
  | [d], _ =>
    cases d with
    | tup xs =>
      match xs, p with
      | [], p => exact ⟨_, _, rfl, rfl, p⟩
      | [a], p => exact ⟨_, _, rfl, rfl, p⟩
      | a :: b :: c :: r, p =>
        walk_at "rd"
        have e : ((((a :: b :: c :: r).length : Nat) : Int) == 2) = false := by
          simp only [List.length_cons, beq_eq_false_iff_ne, ne_eq]
          omega
        simp only [List.length_cons] at e
        simp only [e, Bool.not_false, if_true]
        exact p
      | [a, b], p =>
        walk_at "rd"
        have e : ((((0 + 1 + 1 : Nat)) : Int) == 2) = true := rfl
        refine (show (if (!((2 : Int) == 2)) = true then _ else _) from ?_)
        refine iteF ⟨by decide, ?_⟩
        refine loopC_pure (g := fun d => .bl (wholeB 1 (10 ^ 6) d)) (fun ρ => ρ = [.no] ∨ ∃ d, ρ = [.sh d]) ?_ _ _ _ _ ?_ (.inl rfl) ?_
        · rintro d ρ (rfl | ⟨e, rfl⟩) <;> exact .inr ⟨d, rfl⟩
        · rintro d hd ρ m P' hρ h
          have e : ρ.set 0 (Slot.sh d) = [.sh d] := by rcases hρ with rfl | ⟨e, rfl⟩ <;> rfl
          rw [e]
          exact ⟨⟨by decide, by decide, by decide⟩, d, 1, 10 ^ 6, rfl, h⟩
        · refine ⟨_, _, rfl, allB_map (fun d => wholeB 1 (10 ^ 6) d) [a, b], ?_⟩
          have ew : ∀ d, wholeB 1 (10 ^ 6) d = isNumber d := fun d => by cases d <;> rfl
          have p' : Pd (.bl ((isNumber a && isNumber b) && geB a b)) n := p
          simp only [List.map_cons, List.map_nil, List.all_cons, List.all_nil, id_eq, Bool.and_true, ew]
          cases ha : isNumber a with
          | false =>
            rw [ha] at p'
            exact p'
          | true =>
            cases hb : isNumber b with
            | false =>
              rw [ha, hb] at p'
              exact p'
            | true =>
              rw [ha, hb] at p'
              obtain ⟨i, rfl⟩ := isNumber_int ha
              obtain ⟨j, rfl⟩ := isNumber_int hb
              exact ⟨_, rfl, _, rfl, p'⟩
    | _ => exact p
end
end K01

set_option maxHeartbeats 4000000
namespace K01
open PySem PySem.Spec PyProof.Rows L2 Dp
local macro_rules | `(tactic| walk_at "rd") => `(tactic| simp only [wSeq, wIfS, wOrT, wAndT, wNotT, wTest, wChain, wOp, wCB, wCons, wNil, wC, wVar, wVarT, wIsi, wRet, wNext, wSet, wAnd, wOr, wNot, wIf, wTup, wLst, wCall, wSlot, wFeed, wsNil, wsCons, wComp, wSeqOf, wYes, wBM, wSl, wNoPart, wPart, wNeg, wFor, wRng1, wDrop,
  fLen_str, fLen_tup, fLen_lst, fLeU, fLtU, f2, f2c, fII, fSS, fEq, fAddU, fSlS, isT, tyD, isiD, liftS, List.map_cons, List.map_nil, List.getElem?_cons_zero, List.getElem?_cons_succ, List.cons_append, List.nil_append, List.length_cons, List.length_nil, Option.getD_some, Option.getD_none, List.set_cons_zero, List.set_cons_succ, List.replicate_succ, List.replicate_zero, Nat.sub_self, Nat.reduceSub, Nat.reduceAdd, Nat.zero_add, Nat.add_zero, Bool.not_true, Bool.not_false, if_true, if_false, Bool.false_eq_true, reduceIte, String.reduceBEq, Bool.or_false, Bool.or_true, Bool.false_or, Bool.true_or, Bool.and_true, Bool.and_false, Bool.true_and, Bool.false_and])
section
variable {P : Program} {w : World} {K : PySem.W.Frag} {mg : Str → Option Value} {base : Heap}
/-- an item at a place that lies in the list -/
theorem atI_in {α : Type} {xs : List α} {r : Int} (h0 : 0 ≤ r) (h1 : r < (xs.length : Int)) : ∃ z, atI xs r = some z ∧ z ∈ xs := by
  obtain ⟨k, rfl⟩ : ∃ k : Nat, r = (k : Int) := ⟨r.toNat, by omega⟩
  have hk : k < xs.length := by omega
  exact ⟨xs[k], atI_nat (List.getElem?_eq_getElem hk), List.getElem_mem hk⟩
theorem sc__law_number : FnScope ["_law_feed_here", "_law_most", "_law_near"] ["_law_feed_here"] (defScope s__law_number) := ⟨rfl, rfl, rfl, by decide +kernel, rfl, by decide +kernel, by decide +kernel⟩
/-- any number; k draws -/
def Wint (k : Nat) : W2 := fun ss n P => ss = [.fd] ∧ k ≤ n ∧ ∀ (i : Int) (n' : Nat), n - k ≤ n' → P (.int i) n'
theorem ok__law_number {f : Addr} {fd : FuncData} (G__law_next : Got P w K mg base "_law_next" 1 ["_law_feed_here", "_law_many"] .sh Wnext) (F : Fun K "_law_number" "_law_number" s__law_number f fd) : FnOk P w K mg base CX0 2 f fd ["_law_feed_here"] (sp2 K .sh (Wint 3) 1) := by
  refine fn2 F sc__law_number (by decide) (fun cdv A outer s H E hr => (dss_cons (ds_set (i := 1) sc__law_number.nd rfl (Or.inl rfl) (de_op op_pow a_intc dc_int dc_int))
  (dss_cons (ds_set (i := 2) sc__law_number.nd rfl (Or.inl rfl) (de_ix ix_seq a_ix (de_lst (dak_cons dc_int (dak_cons dc_int (dak_cons dc_int (dak_cons (de_op op_sub a_ints (dv 1) dc_int) (dak_cons (dv 1) (dak_cons (de_op op_addU a_addU (dv 1) dc_int) (dak_cons (de_neg dc_int) (dak_cons (de_neg (dv 1)) dak_nil))))))))) (de_callG G__law_next (hr.mono (by decide)) rfl (das_cons (da_fd 0) (das_cons (da_sh dc_int) das_nil)))))
  (dss_one (ds_ret (de_ix ix_seq a_ix (de_lst (dak_cons (dv 2) (dak_cons (dv 2) (dak_cons (de_callG G__law_next (hr.mono (by decide)) rfl (das_cons (da_fd 0) (das_cons (da_sh (de_op op_addU a_addU (dv 1) dc_int)) das_nil))) dak_nil)))) (de_callG G__law_next (hr.mono (by decide)) rfl (das_cons (da_fd 0) (das_cons (da_sh dc_int) das_nil))))))))) ?_
  rintro ss n Pd hl ⟨rfl, hn, p⟩
  walk_at "rd"
  refine ⟨⟨by decide, by decide, by decide⟩, _, rfl, _, rfl, by decide, 8, rfl, by decide, by decide, by omega, fun r h0 h1 => ?_⟩
  obtain ⟨z, hz, hm⟩ := atI_in (xs := [D.int 0, .int 1, .int 2, .int (10 ^ (6 : Int).toNat - 1), .int (10 ^ (6 : Int).toNat), .int (10 ^ (6 : Int).toNat + 1), .int (-1), .int (-(10 ^ (6 : Int).toNat))]) h0 h1
  refine ⟨z, hz, ?_⟩
  have hi : ∃ i, z = .int i := by
    simp only [List.mem_cons, List.not_mem_nil, or_false] at hm
    rcases hm with rfl | rfl | rfl | rfl | rfl | rfl | rfl | rfl <;> exact ⟨_, rfl⟩
  obtain ⟨i, rfl⟩ := hi
  refine ⟨_, rfl, by decide, by decide, by omega, fun r2 h2 h3 => ⟨by decide, 3, rfl, by decide, by decide, by omega, fun r4 h4 h5 => ?_⟩⟩
  obtain ⟨z, hz, hm⟩ := atI_in (xs := [D.int i, .int i, .int r2]) h4 h5
  refine ⟨z, hz, ?_⟩
  have hi : ∃ i, z = .int i := by
    simp only [List.mem_cons, List.not_mem_nil, or_false] at hm
    rcases hm with rfl | rfl | rfl <;> exact ⟨_, rfl⟩
  obtain ⟨i, rfl⟩ := hi
  exact p i _ (by omega)
theorem sc__law_text : FnScope ["_law_feed_here", "_law_letters", "_law_size", "_law_word", "_law_at"] ["_law_feed_here"] (defScope s__law_text) := ⟨rfl, rfl, rfl, by decide +kernel, rfl, by decide +kernel, by decide +kernel⟩
/-- any text of at most k signs; k draws -/
def Wtext (k : Nat) : W2 := fun ss n P => ss = [.fd] ∧ k ≤ n ∧ ∀ (x : Str) (n' : Nat), x.length ≤ k → n - k ≤ n' → P (.str x) n'
/-- letters drawn -/
theorem drawn {te : DW} {P : List D → Nat → Prop} (ht : ∀ ρ n P', 1 ≤ n → (∃ d, ρ = [.sh (.str letters), .fd, .sh d]) → (∀ c : Nat, P' (.str ⟨#[c]⟩) (n - 1)) → te n ρ P') :
    ∀ (ds : List D) (ys : List Str) (n : Nat) (ρ : List Slot), ds.length ≤ n → (∃ s, ρ = [.sh (.str letters), .fd, s]) → (∀ y ∈ ys, y.length = 1) →
      (∀ zs : List Str, zs.length = ys.length + ds.length → (∀ y ∈ zs, y.length = 1) → P (zs.map .str) (n - ds.length)) → loopC (bName 2) wYes te P ds (ys.map .str) n ρ
  | [], ys, n, ρ, _, _, hy, h => h ys rfl hy
  | d :: ds, ys, n, ρ, hn, ⟨s, hρ⟩, hy, h => by
    subst hρ
    rw [List.length_cons] at hn h
    refine ht _ n _ (by omega) ⟨d, rfl⟩ fun c => ?_
    have e : ys.map D.str ++ [D.str ⟨#[c]⟩] = (ys ++ [(⟨#[c]⟩ : Str)]).map D.str := by rw [List.map_append]; rfl
    show loopC (bName 2) wYes te P ds (ys.map D.str ++ [D.str ⟨#[c]⟩]) (n - 1) _
    rw [e]
    refine drawn ht ds (ys ++ [⟨#[c]⟩]) (n - 1) _ (by omega) ⟨.sh d, rfl⟩ (fun y hm => ?_) fun zs hz hz1 => ?_
    · rcases List.mem_append.mp hm with hm | hm
      · exact hy y hm
      · rw [List.mem_singleton.mp hm]; rfl
    · have := h zs (by rw [hz, List.length_append, List.length_singleton]; omega) hz1
      rw [show n - 1 - ds.length = n - (ds.length + 1) by omega]
      exact this
theorem sum_ones : ∀ (ys : List Str), (∀ y ∈ ys, y.length = 1) → (ys.map (·.length)).sum = ys.length
  | [], _ => rfl
  | y :: r, h => by
    rw [List.map_cons, List.sum_cons, sum_ones r fun z hz => h z (List.mem_cons_of_mem _ hz), h y List.mem_cons_self, List.length_cons]
    omega
theorem allS_map : ∀ ys : List Str, allS (ys.map .str) = some ys
  | [] => rfl
  | y :: r => by
    rw [List.map_cons]
    unfold allS
    rw [allS_map r]
    rfl
theorem ok__law_text {f : Addr} {fd : FuncData} (T : Txt K mg) (G__law_next : Got P w K mg base "_law_next" 1 ["_law_feed_here", "_law_many"] .sh Wnext) (F : Fun K "_law_text" "_law_text" s__law_text f fd) : FnOk P w K mg base CX0 2 f fd ["_law_feed_here"] (sp2 K .sh (Wtext 30) 1) := by
  refine fn2 F sc__law_text (by decide) (fun cdv A outer s H E hr => (dss_cons (ds_set (i := 1) sc__law_text.nd rfl (Or.inr rfl) dc_str)
  (dss_cons (ds_set (i := 2) sc__law_text.nd rfl (Or.inl rfl) (de_ix ix_seq a_ix (de_lst (dak_cons (de_callG G__law_next (hr.mono (by decide)) rfl (das_cons (da_fd 0) (das_cons (da_sh dc_int) das_nil))) (dak_cons (de_op op_addU a_addU dc_int (de_callG G__law_next (hr.mono (by decide)) rfl (das_cons (da_fd 0) (das_cons (da_sh dc_int) das_nil)))) (dak_cons dc_int dak_nil)))) (de_callG G__law_next (hr.mono (by decide)) rfl (das_cons (da_fd 0) (das_cons (da_sh dc_int) das_nil)))))
  (dss_cons (ds_set (i := 3) sc__law_text.nd rfl (Or.inl rfl) (de_bm PySem.F.plainAttrs_str PySem.F.slot_str_join PySem.F.type_str_join mt_join a_join dc_str (dad_cons (de_comp rfl [("_law_letters" : Str), ("_law_feed_here" : Str), ("_law_k" : Str)] [some 1, some 0, none] (DI.c (di_range1 rfl T.n_range (dad_cons (dv 2) dad_nil))) (fun _ _ _ _ _ => (dg_name (i := 2) (show List.Nodup [("_law_letters" : Str), ("_law_feed_here" : Str), ("_law_k" : Str)] by decide +kernel) rfl (Or.inl rfl))) (fun _ _ _ _ _ => dif_nil) (fun _ _ _ _ _ => (de_ix ix_seq a_ix (dv 0) (de_callG G__law_next (hr.mono (by decide)) rfl (das_cons (da_fd 1) (das_cons (da_sh dc_int) das_nil))))) (by kernel_rfl)) dad_nil)))
  (dss_cons (ds_if (dt_cmp op_eq a_eq (de_callG G__law_next (hr.mono (by decide)) rfl (das_cons (da_fd 0) (das_cons (da_sh dc_int) das_nil))) dc_int (nomark _)) (dss_cons (ds_set (i := 4) sc__law_text.nd rfl (Or.inl rfl) (de_callG G__law_next (hr.mono (by decide)) rfl (das_cons (da_fd 0) (das_cons (da_sh (de_op op_addU a_addU (dv 2) dc_int)) das_nil))))
  (dss_one (ds_set (i := 3) sc__law_text.nd rfl (Or.inl rfl) (de_op op_addU a_addU (de_op op_addU a_addU (de_sl sl_U a_slU (dv 3) do_none (do_some (dv 4))) (de_ix ix_seq a_ix (de_lst (dak_cons dc_str (dak_cons dc_str (dak_cons dc_str (dak_cons dc_str (dak_cons dc_str (dak_cons dc_str (dak_cons dc_str dak_nil)))))))) (de_callG G__law_next (hr.mono (by decide)) rfl (das_cons (da_fd 0) (das_cons (da_sh dc_int) das_nil))))) (de_sl sl_U a_slU (dv 3) (do_some (dv 4)) do_none))))) dss_nil)
  (dss_one (ds_ret (dv 3)))))))) ?_
  rintro ss n Pd hl ⟨rfl, hn, p⟩
  walk_at "rd"
  refine ⟨11, rfl, by decide, by decide, by omega, fun r1 h1 h1' => ⟨3, rfl, by decide, by decide, by omega, fun r2 h2 h2' => ⟨by decide, 3, rfl, by decide, by decide, by omega, fun r3 h3 h3' => ?_⟩⟩⟩
  obtain ⟨z, hz, hm⟩ := atI_in (xs := [D.int r1, .int (7 + r2), .int 1]) h3 h3'
  refine ⟨z, hz, ?_⟩
  have hi : ∃ i : Int, z = .int i ∧ 0 ≤ i ∧ i ≤ 10 := by
    simp only [List.mem_cons, List.not_mem_nil, or_false] at hm
    rcases hm with rfl | rfl | rfl
    · exact ⟨_, rfl, h1, by omega⟩
    · exact ⟨_, rfl, by omega, by omega⟩
    · exact ⟨_, rfl, by omega, by omega⟩
  obtain ⟨sz, rfl, hs0, hs1⟩ := hi
  have hlen : (rngD 0 sz.toNat).length = sz.toNat := by unfold rngD; rw [List.length_map, List.length_range]
  refine ⟨trivial, sz, rfl, ⟨by omega, by omega⟩, by rw [hlen]; omega, ?_⟩
  refine drawn (fun ρ m P' hm hρ hP => ?_) _ [] _ _ (by rw [hlen]; omega) ⟨.no, rfl⟩ (fun y hy => absurd hy (by simp)) fun zs hz1 hz2 => ?_
  · obtain ⟨d, rfl⟩ := hρ
    walk_at "rd"
    refine ⟨26, rfl, by decide, by decide, hm, fun r h0 h1 => ?_⟩
    obtain ⟨c, hc, _⟩ := atI_in (xs := letters.cps.toList) h0 (by rw [show (letters.cps.toList.length : Int) = 26 by decide +kernel]; exact h1)
    exact ⟨c, hc, hP c⟩
  · rw [List.length_nil, Nat.zero_add, hlen] at hz1
    have hj : (PySem.Txt.join (Str.ofString "") zs).length = zs.length := PySem.W.KT.join_ones zs hz2
    refine ⟨_, _, zs, rfl, rfl, allS_map zs, by rw [sum_ones zs hz2, show (Str.ofString "").length = 0 from rfl]; omega, by rw [hj]; omega, ?_⟩
    generalize hx : PySem.Txt.join (Str.ofString "") zs = x at hj
    rw [hlen]
    refine ⟨3, rfl, by decide, by decide, by omega, fun r4 h4 h4' => ?_⟩
    have hx10 : x.length ≤ 10 := by omega
    by_cases hr : r4 = 0
    · subst hr
      simp only [beq_self_eq_true, if_true]
      refine ⟨sz + 1, rfl, by omega, by omega, by omega, fun r5 h5 h5' => ⟨by decide, 7, rfl, by decide, by decide, by omega, fun r6 h6 h6' => ?_⟩⟩
      obtain ⟨z, hz, hm⟩ := atI_in (xs := [D.str (Str.ofString "A"), D.str (Str.ofString "0"), D.str (Str.ofString " "), D.str (Str.ofString "~"), D.str (Str.ofString "Z"), D.str (Str.ofString "-"), D.str (Str.ofString "9")]) h6 h6'
      refine ⟨z, hz, ?_⟩
      have hi : ∃ y : Str, z = .str y ∧ y.length = 1 := by
        simp only [List.mem_cons, List.not_mem_nil, or_false] at hm
        rcases hm with rfl | rfl | rfl | rfl | rfl | rfl | rfl <;> exact ⟨_, rfl, by decide +kernel⟩
      obtain ⟨y, rfl, hy⟩ := hi
      have l1 := PySem.Txt.slice_le x none (some r5)
      have l2 := PySem.Txt.slice_le x (some r5) none
      have l3 := Str.length_append (PySem.Txt.slice x none (some r5)) y
      have l4 := Str.length_append (PySem.Txt.slice x none (some r5) ++ y) (PySem.Txt.slice x (some r5) none)
      have hsz := PySem.sizeLine_eq
      exact ⟨by omega, by omega, p _ _ (by omega) (by omega)⟩
    · have e : (r4 == 0) = false := beq_eq_false_iff_ne.mpr hr
      simp only [e, Bool.false_eq_true, if_false]
      exact p _ _ (by omega) (by omega)
end
end K01

set_option maxHeartbeats 4000000
namespace K01
open PySem PySem.Spec PyProof.Rows L2 Dp
local macro_rules | `(tactic| walk_at "rd") => `(tactic| simp only [wSeq, wIfS, wOrT, wAndT, wNotT, wTest, wChain, wOp, wCB, wCons, wNil, wC, wVar, wVarT, wIsi, wRet, wNext, wSet, wAnd, wOr, wNot, wIf, wTup, wLst, wCall, wSlot, wFeed, wsNil, wsCons, wComp, wSeqOf, wYes, wBM, wSl, wNoPart, wPart, wNeg, wFor, wRng1, wDrop,
  fLen_str, fLen_tup, fLen_lst, fLeU, fLtU, f2, f2c, fII, fSS, fEq, fAddU, fSlS, isT, tyD, isiD, liftS, List.map_cons, List.map_nil, List.getElem?_cons_zero, List.getElem?_cons_succ, List.cons_append, List.nil_append, List.length_cons, List.length_nil, Option.getD_some, Option.getD_none, List.set_cons_zero, List.set_cons_succ, List.replicate_succ, List.replicate_zero, Nat.sub_self, Nat.reduceSub, Nat.reduceAdd, Nat.zero_add, Nat.add_zero, Bool.not_true, Bool.not_false, if_true, if_false, Bool.false_eq_true, reduceIte, String.reduceBEq, Bool.or_false, Bool.or_true, Bool.false_or, Bool.true_or, Bool.and_true, Bool.and_false, Bool.true_and, Bool.false_and])
section
variable {P : Program} {w : World} {K : PySem.W.Frag} {mg : Str → Option Value} {base : Heap}
theorem sc__law_feed : FnScope ["_law_script"] ["_law_script"] (defScope s__law_feed) := ⟨rfl, rfl, rfl, by decide +kernel, rfl, by decide +kernel, by decide +kernel⟩
theorem ok__law_feed {f : Addr} {fd : FuncData} (T : Txt K mg) (F : Fun K "_law_feed" "_law_feed" s__law_feed f fd) : FnOk P w K mg base CX0 1 f fd ["_law_script"] (spFeed K) := by
  refine F.ok sc__law_feed (fun vs H Q E h => ?_) (fun cdv A outer s H vs Q E hr h => ?_)
  · obtain ⟨a, ns, rfl, _⟩ := h
    rfl
  · obtain ⟨a, ns, rfl, ⟨hl, hS⟩, q⟩ := h
    refine ⟨_, pss_one (ps_ret (pe_lst (pa_cons (pe_callTy call_list_of rfl T.n_list boot_list (pa_cons (pe_slice sl_list (pv 0) po_none (po_some pe_int)) pa_nil)) (pa_cons pe_int (pa_cons pe_int pa_nil))))), ?_⟩
    refine ⟨_, rfl, 63, rfl, a, _, rfl, hS, fun p hp => ⟨p, _, rfl, .inl (SqL.of upd_same), fun c hc => ⟨by show 3 ≤ sizeLine; decide, fun g hg => ?_⟩⟩⟩
    rw [cut63 hl] at hg ⊢
    have ncg : c ≠ g := fun z => by rw [← z, upd_same] at hg; cases hg
    exact q c g _ ncg (by rw [upd_ne ncg, upd_same]) upd_same
theorem sc_law : FnScope ["_law_script", "_law_feed_here", "_law_odd", "_law_k", "_law_word", "_law_one", "_law_pair", "_law_strange", "_law_thing"] ["_law_script"] (defScope s_law) := ⟨rfl, rfl, rfl, by decide +kernel, rfl, by decide +kernel, by decide +kernel⟩
end
end K01

set_option maxHeartbeats 4000000
namespace K01
open PySem PySem.Spec PyProof.Rows L2 Dp
local macro_rules | `(tactic| walk_at "rd") => `(tactic| simp only [wSeq, wIfS, wOrT, wAndT, wNotT, wTest, wChain, wOp, wCB, wCons, wNil, wC, wVar, wVarT, wIsi, wRet, wNext, wSet, wAnd, wOr, wNot, wIf, wTup, wLst, wCall, wSlot, wFeed, wsNil, wsCons, wComp, wSeqOf, wYes, wBM, wSl, wNoPart, wPart, wNeg, wFor, wRng1, wDrop,
  fLen_str, fLen_tup, fLen_lst, fLeU, fLtU, f2, f2c, fII, fSS, fEq, fAddU, fSlS, isT, tyD, isiD, liftS, List.map_cons, List.map_nil, List.getElem?_cons_zero, List.getElem?_cons_succ, List.cons_append, List.nil_append, List.length_cons, List.length_nil, Option.getD_some, Option.getD_none, List.set_cons_zero, List.set_cons_succ, List.replicate_succ, List.replicate_zero, Nat.sub_self, Nat.reduceSub, Nat.reduceAdd, Nat.zero_add, Nat.add_zero, Bool.not_true, Bool.not_false, if_true, if_false, Bool.false_eq_true, reduceIte, String.reduceBEq, Bool.or_false, Bool.or_true, Bool.false_or, Bool.true_or, Bool.and_true, Bool.and_false, Bool.true_and, Bool.false_and])
section
variable {P : Program} {w : World} {K : PySem.W.Frag} {mg : Str → Option Value} {base : Heap}
theorem ok_law {f ff : Addr} {fd fdf : FuncData} (T : Txt K mg) (Gf : FnOk P w K mg base CX0 1 ff fdf ["_law_script"] (spFeed K)) (mf : mg "_law_feed" = some (.ref ff)) (kf : PySem.W.keepIn K (.ref ff) = true) (bf : Binds K fdf ["_law_script"] [])
    (G__law_next : Got P w K mg base "_law_next" 1 ["_law_feed_here", "_law_many"] .sh Wnext) (G__law_text : Got P w K mg base "_law_text" 2 ["_law_feed_here"] .sh (Wtext 30)) (G__law_number : Got P w K mg base "_law_number" 2 ["_law_feed_here"] .sh (Wint 3))
    (G__law_told : Got P w K mg base "_law_told" 1 ["_law_found", "_law_due"] .sh Wtold) (G_is_name : Got P w K mg base "is_name" 1 ["thing"] .sh Wname) (G__law_name_due : Got P w K mg base "_law_name_due" 1 ["_law_thing"] .sh WnameD)
    (G_is_times : Got P w K mg base "is_times" 3 ["thing"] .sh Wtimes) (G__law_times_due : Got P w K mg base "_law_times_due" 2 ["_law_thing"] .sh Wtimes) (F : Fun K "law" "law" s_law f fd) : FnOk P w K mg base CX0 4 f fd ["_law_script"] (spTop K) := by
  refine fnLaw (n0 := 1000) F sc_law rfl (by decide) (fun cdv A outer s H E hr => ps_set (i := 1) sc_law.nd rfl (Or.inl rfl) (pe_call Gf (hr.mono (by decide)) rfl mf kf bf .nil pass0 (pa_cons (pv 0) pa_nil)))
    (fun cdv A outer s H E hr => (dss_cons (ds_set (i := 2) sc_law.nd rfl (Or.inl rfl) (de_lst (dak_cons dc_non (dak_cons dc_bl (dak_cons dc_bl (dak_cons dc_int (dak_cons dc_int (dak_cons (de_tup dak_nil) (dak_cons (de_lst dak_nil) (dak_cons (de_tup (dak_cons dc_str dak_nil)) (dak_cons (de_lst (dak_cons dc_str dak_nil)) (dak_cons dc_str (dak_cons (de_tup (dak_cons dc_int dak_nil)) (dak_cons (de_tup (dak_cons dc_int (dak_cons dc_int (dak_cons dc_int dak_nil)))) (dak_cons (de_lst (dak_cons dc_int (dak_cons dc_int dak_nil))) (dak_cons (de_tup (dak_cons dc_str (dak_cons dc_int dak_nil))) (dak_cons (de_tup (dak_cons dc_int (dak_cons dc_non dak_nil))) (dak_cons (de_tup (dak_cons dc_bl (dak_cons dc_int dak_nil))) dak_nil))))))))))))))))))
  (dss_cons (ds_set (i := 2) sc_law.nd rfl (Or.inl rfl) (de_op op_addU a_addU (dv 2) (de_lst (dak_cons (de_tup (dak_cons dc_int (dak_cons dc_bl dak_nil))) (dak_cons (de_tup (dak_cons (de_tup (dak_cons dc_int dak_nil)) (dak_cons dc_int dak_nil))) (dak_cons (de_tup (dak_cons dc_int (dak_cons (de_tup (dak_cons dc_int dak_nil)) dak_nil))) (dak_cons dc_str (dak_cons (de_tup (dak_cons dc_int (dak_cons dc_str dak_nil))) (dak_cons (de_op op_pow a_intc dc_int dc_int) dak_nil)))))))))
  (dss_cons (ds_for PassesOwn.never rfl (di_range1 rfl T.n_range (dad_cons dc_int dad_nil)) (dg_name (i := 3) sc_law.nd rfl (Or.inl rfl)) (dss_cons (ds_set (i := 4) sc_law.nd rfl (Or.inl rfl) (de_callG G__law_text (hr.mono (by decide)) rfl (das_cons (da_fd 1) das_nil)))
  (dss_cons (ds_set (i := 5) sc_law.nd rfl (Or.inl rfl) (de_callG G__law_number (hr.mono (by decide)) rfl (das_cons (da_fd 1) das_nil)))
  (dss_cons (ds_set (i := 6) sc_law.nd rfl (Or.inl rfl) (de_tup (dak_cons (dv 5) (dak_cons (de_ix ix_seq a_ix (de_lst (dak_cons (dv 5) (dak_cons (de_callG G__law_number (hr.mono (by decide)) rfl (das_cons (da_fd 1) das_nil)) dak_nil))) (de_callTy call_int1 a_int1 rfl T.n_int boot_int (dad_cons (de_cmp op_gtU a_gtU (de_callG G__law_next (hr.mono (by decide)) rfl (das_cons (da_fd 1) (das_cons (da_sh dc_int) das_nil))) dc_int (nomark _)) dad_nil))) dak_nil))))
  (dss_cons (ds_set (i := 7) sc_law.nd rfl (Or.inl rfl) (de_ix ix_seq a_ix (dv 2) (de_callG G__law_next (hr.mono (by decide)) rfl (das_cons (da_fd 1) (das_cons (da_sh (de_callB call_len a_len rfl T.n_len PySem.boot_len (dad_cons (dv 2) dad_nil))) das_nil)))))
  (dss_one (ds_for PassesOwn.never rfl (di_any (de_lst (dak_cons (dv 4) (dak_cons (dv 6) (dak_cons (de_callTy call_list_of a_list1 rfl T.n_list boot_list (dad_cons (dv 6) dad_nil)) (dak_cons (de_tup (dak_cons (de_ix ix_seq a_ix (dv 6) dc_int) (dak_cons (de_ix ix_seq a_ix (dv 6) dc_int) dak_nil))) (dak_cons (de_op op_addU a_addU (dv 6) (de_tup (dak_cons dc_int dak_nil))) (dak_cons (dv 7) (dak_cons (de_tup (dak_cons (dv 7) (dak_cons (dv 5) dak_nil))) (dak_cons (de_tup (dak_cons (dv 5) (dak_cons (dv 7) dak_nil))) dak_nil)))))))))) (dg_name (i := 8) sc_law.nd rfl (Or.inl rfl)) (dss_cons (ds_if (dt_not (dt_val (de_callG G__law_told (hr.mono (by decide)) rfl (das_cons (da_sh (de_callG G_is_name (hr.mono (by decide)) rfl (das_cons (da_sh (dv 8)) das_nil))) (das_cons (da_sh (de_callG G__law_name_due (hr.mono (by decide)) rfl (das_cons (da_sh (dv 8)) das_nil))) das_nil))))) (dss_one (ds_ret dc_bl)) dss_nil)
  (dss_one (ds_if (dt_not (dt_val (de_callG G__law_told (hr.mono (by decide)) rfl (das_cons (da_sh (de_callG G_is_times (hr.mono (by decide)) rfl (das_cons (da_sh (dv 8)) das_nil))) (das_cons (da_sh (de_callG G__law_times_due (hr.mono (by decide)) rfl (das_cons (da_sh (dv 8)) das_nil))) das_nil))))) (dss_one (ds_ret dc_bl)) dss_nil))))))))))
  (dss_one (ds_ret (de_and (de_callG G__law_told (hr.mono (by decide)) rfl (das_cons (da_sh (de_callG G_is_name (hr.mono (by decide)) rfl (das_cons (da_sh dc_str) das_nil))) (das_cons (da_sh dc_bl) das_nil))) (de_one (de_callG G__law_told (hr.mono (by decide)) rfl (das_cons (da_sh (de_callG G_is_times (hr.mono (by decide)) rfl (das_cons (da_sh (de_tup (dak_cons (de_op op_pow a_intc dc_int dc_int) (dak_cons dc_int dak_nil)))) das_nil))) (das_cons (da_sh dc_bl) das_nil))))))))))) ?_
  repeat (refine ⟨by first | decide | exact ⟨by decide, by decide, by decide⟩, ?_⟩)
  refine ⟨12, rfl, ⟨by decide, by decide⟩, ?_⟩
  refine loopF_inv (fun k n ρ => 40 * k ≤ n ∧ ∃ (ds : List D) (s3 s4 s5 s6 s7 s8 : Slot), ds.length = 22 ∧ ρ = [.no, .fd, .sh (.lst ds), s3, s4, s5, s6, s7, s8]) ?_ ?_ _ _ _ ⟨by decide, _, _, _, _, _, _, _, rfl, rfl⟩
  · rintro n ρ ⟨_, ds, s3, s4, s5, s6, s7, s8, hl, rfl⟩
    have h1 : nameP (.str "abcdefgh") = true := by decide +kernel
    have h2 : timesP (.tup [.int (10 ^ (6 : Int).toNat), .int 1]) = true := by decide +kernel
    refine ⟨[.str "abcdefgh"], rfl, rfl, true, true, congrArg (fun b => [Slot.sh (.bl b), .sh (.bl true)]) h1, ?_⟩
    refine ⟨⟨by decide, by decide, by decide⟩, by decide, [.tup [.int (10 ^ (6 : Int).toNat), .int 1]], rfl, rfl, true, true, congrArg (fun b => [Slot.sh (.bl b), .sh (.bl true)]) h2, ?_⟩
    rfl
  · rintro k d n ρ nx ⟨hn, ds, s3, s4, s5, s6, s7, s8, hl, rfl⟩ hnx
    refine ⟨rfl, by omega, fun x n1 hx hn1 => ?_⟩
    refine ⟨rfl, by omega, fun i1 n2 hn2 => ?_⟩
    refine ⟨rfl, by omega, fun i2 n3 hn3 => ?_⟩
    refine ⟨(by decide : 2 ≤ sizeLine), 4, rfl, by decide, by decide, by omega, fun r h0 h4 => ?_⟩
    obtain ⟨i3, e3⟩ : ∃ i3 : Int, atI [D.int i1, .int i2] (if (decide (0 < r)) then 1 else 0) = some (.int i3) := by
      by_cases hr : 0 < r
      · exact ⟨i2, by rw [decide_eq_true hr]; rfl⟩
      · exact ⟨i1, by rw [decide_eq_false hr]; rfl⟩
    refine ⟨_, e3, (by decide : 2 ≤ sizeLine), ?_⟩
    refine ⟨_, _, rfl, rfl, _, rfl, by omega, by omega, by omega, fun r2 h5 h6 => ?_⟩
    obtain ⟨z, hz, _⟩ := atI_in h5 h6
    refine ⟨z, hz, ?_⟩
    refine ⟨_, rfl, _, rfl, (by decide : 2 ≤ sizeLine), (by decide : 1 ≤ sizeLine), (by intro q; cases q), (by decide : 3 ≤ sizeLine), (by decide : 2 ≤ sizeLine), (by decide : 2 ≤ sizeLine), (by decide : 8 ≤ sizeLine), ?_⟩
    refine loopF_inv (fun _ m ρ => m = n3 - 1 - 1 ∧ ∃ (s8 : Slot), ρ = [.no, .fd, .sh (.lst ds), .sh d, .sh (.str x), .sh (.int i1), .sh (.tup [.int i1, .int i3]), .sh z, s8]) ?_ ?_ _ _ _ ⟨rfl, _, rfl⟩
    · rintro m ρ ⟨rfl, t8, rfl⟩
      exact hnx _ _ ⟨by omega, ds, _, _, _, _, _, _, hl, rfl⟩
    · rintro k2 th m ρ nx2 ⟨rfl, t8, rfl⟩ hnx2
      refine ⟨[th], rfl, rfl, [th], rfl, rfl, _, _, rfl, ?_⟩
      have e1 : (nameP th == nameD th) = true := by rw [name_same]; exact beq_self_eq_true _
      show if (!(nameP th == nameD th)) = true then _ else _
      rw [e1]
      refine iteF ?_
      refine ⟨[th], rfl, rfl, [th], rfl, rfl, _, _, rfl, ?_⟩
      have e2 : (timesP th == timesP th) = true := beq_self_eq_true _
      show if (!(timesP th == timesP th)) = true then _ else _
      rw [e2]
      refine iteF ?_
      exact hnx2 _ _ ⟨rfl, _, rfl⟩
end
end K01

set_option maxHeartbeats 4000000
namespace K01
open PySem PySem.Spec PyProof.Rows L2 Dp
local macro_rules | `(tactic| walk_at "rd") => `(tactic| simp only [wSeq, wIfS, wOrT, wAndT, wNotT, wTest, wChain, wOp, wCB, wCons, wNil, wC, wVar, wVarT, wIsi, wRet, wNext, wSet, wAnd, wOr, wNot, wIf, wTup, wLst, wCall, wSlot, wFeed, wsNil, wsCons, wComp, wSeqOf, wYes, wBM, wSl, wNoPart, wPart, wNeg, wFor, wRng1, wDrop,
  fLen_str, fLen_tup, fLen_lst, fLeU, fLtU, f2, f2c, fII, fSS, fEq, fAddU, fSlS, isT, tyD, isiD, liftS, List.map_cons, List.map_nil, List.getElem?_cons_zero, List.getElem?_cons_succ, List.cons_append, List.nil_append, List.length_cons, List.length_nil, Option.getD_some, Option.getD_none, List.set_cons_zero, List.set_cons_succ, List.replicate_succ, List.replicate_zero, Nat.sub_self, Nat.reduceSub, Nat.reduceAdd, Nat.zero_add, Nat.add_zero, Bool.not_true, Bool.not_false, if_true, if_false, Bool.false_eq_true, reduceIte, String.reduceBEq, Bool.or_false, Bool.or_true, Bool.false_or, Bool.true_or, Bool.and_true, Bool.and_false, Bool.true_and, Bool.false_and])
theorem all_mk {l : PySem.W.OpenLaw} {w : World} {K : PySem.W.Frag} {h : Heap} {mg : Str → Option Value} {fa : Addr} (X : K.In h) (G : h.Ns mainGlobals mg) (hfa : mg "law" = some (.ref fa))
    {f0 : Addr} {od0 an0 : Option Addr} {sl0 : Array (Option Value)} {oc0 kV0 dc0 pm0 cd0 ct0 : Value}
    {f1 : Addr} {od1 an1 : Option Addr} {sl1 : Array (Option Value)} {oc1 kV1 dc1 pm1 cd1 ct1 : Value}
    {f2 : Addr} {od2 an2 : Option Addr} {sl2 : Array (Option Value)} {oc2 kV2 dc2 pm2 cd2 ct2 : Value}
    {f3 : Addr} {od3 an3 : Option Addr} {sl3 : Array (Option Value)} {oc3 kV3 dc3 pm3 cd3 ct3 : Value}
    {f4 : Addr} {od4 an4 : Option Addr} {sl4 : Array (Option Value)} {oc4 kV4 dc4 pm4 cd4 ct4 : Value}
    {f5 : Addr} {od5 an5 : Option Addr} {sl5 : Array (Option Value)} {oc5 kV5 dc5 pm5 cd5 ct5 : Value}
    {f6 : Addr} {od6 an6 : Option Addr} {sl6 : Array (Option Value)} {oc6 kV6 dc6 pm6 cd6 ct6 : Value}
    {f7 : Addr} {od7 an7 : Option Addr} {sl7 : Array (Option Value)} {oc7 kV7 dc7 pm7 cd7 ct7 : Value}
    {f8 : Addr} {od8 an8 : Option Addr} {sl8 : Array (Option Value)} {oc8 kV8 dc8 pm8 cd8 ct8 : Value}
    {f9 : Addr} {od9 an9 : Option Addr} {sl9 : Array (Option Value)} {oc9 kV9 dc9 pm9 cd9 ct9 : Value}
    {f10 : Addr} {od10 an10 : Option Addr} {sl10 : Array (Option Value)} {oc10 kV10 dc10 pm10 cd10 ct10 : Value}
    {f11 : Addr} {od11 an11 : Option Addr} {sl11 : Array (Option Value)} {oc11 kV11 dc11 pm11 cd11 ct11 : Value}
    {f12 : Addr} {od12 an12 : Option Addr} {sl12 : Array (Option Value)} {oc12 kV12 dc12 pm12 cd12 ct12 : Value}
    {f13 : Addr} {od13 an13 : Option Addr} {sl13 : Array (Option Value)} {oc13 kV13 dc13 pm13 cd13 ct13 : Value}
    {t_MOST_SIGNS : Tok}
    {t_MOST_NUMBER : Tok}
    (a0 : PySem.W.nsIn K mainGlobals "is_whole" = some (some (.ref f0))) (l0 : K.lookup f0 = some ⟨oc0, od0, .func (PySem.W.fnOf "is_whole" "is_whole" (defArgs s_is_whole) (defBody s_is_whole) (defScope s_is_whole) .none kV0 dc0 pm0 an0 cd0 ct0), sl0⟩) (c0 : PySem.W.codeIn K cd0 "is_whole" = true) (k0 : PySem.W.keepIn K (.ref f0) = true)
    (a1 : PySem.W.nsIn K mainGlobals "is_number" = some (some (.ref f1))) (l1 : K.lookup f1 = some ⟨oc1, od1, .func (PySem.W.fnOf "is_number" "is_number" (defArgs s_is_number) (defBody s_is_number) (defScope s_is_number) .none kV1 dc1 pm1 an1 cd1 ct1), sl1⟩) (c1 : PySem.W.codeIn K cd1 "is_number" = true) (k1 : PySem.W.keepIn K (.ref f1) = true)
    (a2 : PySem.W.nsIn K mainGlobals "is_tuple_of" = some (some (.ref f2))) (l2 : K.lookup f2 = some ⟨oc2, od2, .func (PySem.W.fnOf "is_tuple_of" "is_tuple_of" (defArgs s_is_tuple_of) (defBody s_is_tuple_of) (defScope s_is_tuple_of) .none kV2 dc2 pm2 an2 cd2 ct2), sl2⟩) (c2 : PySem.W.codeIn K cd2 "is_tuple_of" = true) (k2 : PySem.W.keepIn K (.ref f2) = true)
    (a3 : PySem.W.nsIn K mainGlobals "is_name" = some (some (.ref f3))) (l3 : K.lookup f3 = some ⟨oc3, od3, .func (PySem.W.fnOf "is_name" "is_name" (defArgs s_is_name) (defBody s_is_name) (defScope s_is_name) .none kV3 dc3 pm3 an3 cd3 ct3), sl3⟩) (c3 : PySem.W.codeIn K cd3 "is_name" = true) (k3 : PySem.W.keepIn K (.ref f3) = true)
    (a4 : PySem.W.nsIn K mainGlobals "is_times" = some (some (.ref f4))) (l4 : K.lookup f4 = some ⟨oc4, od4, .func (PySem.W.fnOf "is_times" "is_times" (defArgs s_is_times) (defBody s_is_times) (defScope s_is_times) .none kV4 dc4 pm4 an4 cd4 ct4), sl4⟩) (c4 : PySem.W.codeIn K cd4 "is_times" = true) (k4 : PySem.W.keepIn K (.ref f4) = true)
    (a5 : PySem.W.nsIn K mainGlobals "_law_feed" = some (some (.ref f5))) (l5 : K.lookup f5 = some ⟨oc5, od5, .func (PySem.W.fnOf "_law_feed" "_law_feed" (defArgs s__law_feed) (defBody s__law_feed) (defScope s__law_feed) .none kV5 dc5 pm5 an5 cd5 ct5), sl5⟩) (c5 : PySem.W.codeIn K cd5 "_law_feed" = true) (k5 : PySem.W.keepIn K (.ref f5) = true)
    (a6 : PySem.W.nsIn K mainGlobals "_law_next" = some (some (.ref f6))) (l6 : K.lookup f6 = some ⟨oc6, od6, .func (PySem.W.fnOf "_law_next" "_law_next" (defArgs s__law_next) (defBody s__law_next) (defScope s__law_next) .none kV6 dc6 pm6 an6 cd6 ct6), sl6⟩) (c6 : PySem.W.codeIn K cd6 "_law_next" = true) (k6 : PySem.W.keepIn K (.ref f6) = true)
    (a7 : PySem.W.nsIn K mainGlobals "_law_whole" = some (some (.ref f7))) (l7 : K.lookup f7 = some ⟨oc7, od7, .func (PySem.W.fnOf "_law_whole" "_law_whole" (defArgs s__law_whole) (defBody s__law_whole) (defScope s__law_whole) .none kV7 dc7 pm7 an7 cd7 ct7), sl7⟩) (c7 : PySem.W.codeIn K cd7 "_law_whole" = true) (k7 : PySem.W.keepIn K (.ref f7) = true)
    (a8 : PySem.W.nsIn K mainGlobals "_law_text" = some (some (.ref f8))) (l8 : K.lookup f8 = some ⟨oc8, od8, .func (PySem.W.fnOf "_law_text" "_law_text" (defArgs s__law_text) (defBody s__law_text) (defScope s__law_text) .none kV8 dc8 pm8 an8 cd8 ct8), sl8⟩) (c8 : PySem.W.codeIn K cd8 "_law_text" = true) (k8 : PySem.W.keepIn K (.ref f8) = true)
    (a9 : PySem.W.nsIn K mainGlobals "_law_number" = some (some (.ref f9))) (l9 : K.lookup f9 = some ⟨oc9, od9, .func (PySem.W.fnOf "_law_number" "_law_number" (defArgs s__law_number) (defBody s__law_number) (defScope s__law_number) .none kV9 dc9 pm9 an9 cd9 ct9), sl9⟩) (c9 : PySem.W.codeIn K cd9 "_law_number" = true) (k9 : PySem.W.keepIn K (.ref f9) = true)
    (a10 : PySem.W.nsIn K mainGlobals "_law_told" = some (some (.ref f10))) (l10 : K.lookup f10 = some ⟨oc10, od10, .func (PySem.W.fnOf "_law_told" "_law_told" (defArgs s__law_told) (defBody s__law_told) (defScope s__law_told) .none kV10 dc10 pm10 an10 cd10 ct10), sl10⟩) (c10 : PySem.W.codeIn K cd10 "_law_told" = true) (k10 : PySem.W.keepIn K (.ref f10) = true)
    (a11 : PySem.W.nsIn K mainGlobals "_law_name_due" = some (some (.ref f11))) (l11 : K.lookup f11 = some ⟨oc11, od11, .func (PySem.W.fnOf "_law_name_due" "_law_name_due" (defArgs s__law_name_due) (defBody s__law_name_due) (defScope s__law_name_due) .none kV11 dc11 pm11 an11 cd11 ct11), sl11⟩) (c11 : PySem.W.codeIn K cd11 "_law_name_due" = true) (k11 : PySem.W.keepIn K (.ref f11) = true)
    (a12 : PySem.W.nsIn K mainGlobals "_law_times_due" = some (some (.ref f12))) (l12 : K.lookup f12 = some ⟨oc12, od12, .func (PySem.W.fnOf "_law_times_due" "_law_times_due" (defArgs s__law_times_due) (defBody s__law_times_due) (defScope s__law_times_due) .none kV12 dc12 pm12 an12 cd12 ct12), sl12⟩) (c12 : PySem.W.codeIn K cd12 "_law_times_due" = true) (k12 : PySem.W.keepIn K (.ref f12) = true)
    (a13 : PySem.W.nsIn K mainGlobals "law" = some (some (.ref f13))) (l13 : K.lookup f13 = some ⟨oc13, od13, .func (PySem.W.fnOf "law" "law" (defArgs s_law) (defBody s_law) (defScope s_law) .none kV13 dc13 pm13 an13 cd13 ct13), sl13⟩) (c13 : PySem.W.codeIn K cd13 "law" = true) (k13 : PySem.W.keepIn K (.ref f13) = true)
    (z_isinstance : PySem.W.nsIn K mainGlobals "isinstance" = some none)
    (z_int : PySem.W.nsIn K mainGlobals "int" = some none)
    (z_bool : PySem.W.nsIn K mainGlobals "bool" = some none)
    (z_str : PySem.W.nsIn K mainGlobals "str" = some none)
    (z_tuple : PySem.W.nsIn K mainGlobals "tuple" = some none)
    (z_list : PySem.W.nsIn K mainGlobals "list" = some none)
    (z_len : PySem.W.nsIn K mainGlobals "len" = some none)
    (z_all : PySem.W.nsIn K mainGlobals "all" = some none)
    (z_range : PySem.W.nsIn K mainGlobals "range" = some none)
    (v_MOST_SIGNS : PySem.W.nsIn K mainGlobals "MOST_SIGNS" = some (some (.int 8 t_MOST_SIGNS)))
    (v_MOST_NUMBER : PySem.W.nsIn K mainGlobals "MOST_NUMBER" = some (some (.int 1000000 t_MOST_NUMBER)))
    : ∃ fd : FuncData, (∀ (s : Shared) (v : Value), BindsTo s fd ⟨[v], []⟩ [("_law_script", v)]) ∧ ∀ base : Heap, K.In base → base.Ns mainGlobals mg → FnOk l.prog w K mg base CX0 4 fa fd ["_law_script"] (spTop K) := by
  have e := hfa.symm.trans (PySem.W.mg_of X G a13)
  cases e
  have T : Txt K mg := ⟨PySem.W.mg_none_of X G z_isinstance, PySem.W.mg_none_of X G z_int, PySem.W.mg_none_of X G z_bool, PySem.W.mg_none_of X G z_str, PySem.W.mg_none_of X G z_tuple, PySem.W.mg_none_of X G z_list, PySem.W.mg_none_of X G z_len, PySem.W.mg_none_of X G z_all, PySem.W.mg_none_of X G z_range, ⟨_, PySem.W.mg_of X G v_MOST_SIGNS⟩, ⟨_, PySem.W.mg_of X G v_MOST_NUMBER⟩⟩
  have F0 := fun_mk (st := s_is_whole) l0 c0 k0
  have b0 := F0.binds (ps := ["thing"]) fun _ _ _ _ _ _ us hl => match us, hl with | [_], _ => rfl
  have F1 := fun_mk (st := s_is_number) l1 c1 k1
  have b1 := F1.binds (ps := ["thing"]) fun _ _ _ _ _ _ us hl => match us, hl with | [_], _ => rfl
  have F2 := fun_mk (st := s_is_tuple_of) l2 c2 k2
  have b2 := F2.binds (ps := ["count", "thing"]) fun _ _ _ _ _ _ us hl => match us, hl with | [_, _], _ => rfl
  have F3 := fun_mk (st := s_is_name) l3 c3 k3
  have b3 := F3.binds (ps := ["thing"]) fun _ _ _ _ _ _ us hl => match us, hl with | [_], _ => rfl
  have F4 := fun_mk (st := s_is_times) l4 c4 k4
  have b4 := F4.binds (ps := ["thing"]) fun _ _ _ _ _ _ us hl => match us, hl with | [_], _ => rfl
  have F5 := fun_mk (st := s__law_feed) l5 c5 k5
  have b5 := F5.binds (ps := ["_law_script"]) fun _ _ _ _ _ _ us hl => match us, hl with | [_], _ => rfl
  have F6 := fun_mk (st := s__law_next) l6 c6 k6
  have b6 := F6.binds (ps := ["_law_feed_here", "_law_many"]) fun _ _ _ _ _ _ us hl => match us, hl with | [_, _], _ => rfl
  have F7 := fun_mk (st := s__law_whole) l7 c7 k7
  have b7 := F7.binds (ps := ["_law_thing", "_law_least", "_law_most"]) fun _ _ _ _ _ _ us hl => match us, hl with | [_, _, _], _ => rfl
  have F8 := fun_mk (st := s__law_text) l8 c8 k8
  have b8 := F8.binds (ps := ["_law_feed_here"]) fun _ _ _ _ _ _ us hl => match us, hl with | [_], _ => rfl
  have F9 := fun_mk (st := s__law_number) l9 c9 k9
  have b9 := F9.binds (ps := ["_law_feed_here"]) fun _ _ _ _ _ _ us hl => match us, hl with | [_], _ => rfl
  have F10 := fun_mk (st := s__law_told) l10 c10 k10
  have b10 := F10.binds (ps := ["_law_found", "_law_due"]) fun _ _ _ _ _ _ us hl => match us, hl with | [_, _], _ => rfl
  have F11 := fun_mk (st := s__law_name_due) l11 c11 k11
  have b11 := F11.binds (ps := ["_law_thing"]) fun _ _ _ _ _ _ us hl => match us, hl with | [_], _ => rfl
  have F12 := fun_mk (st := s__law_times_due) l12 c12 k12
  have b12 := F12.binds (ps := ["_law_thing"]) fun _ _ _ _ _ _ us hl => match us, hl with | [_], _ => rfl
  have F13 := fun_mk (st := s_law) l13 c13 k13
  refine ⟨PySem.W.fnOf "law" "law" (defArgs s_law) (defBody s_law) (defScope s_law) .none kV13 dc13 pm13 an13 cd13 ct13, fun s v => .of_eq rfl, fun base _ _ => ?_⟩
  have G_is_whole : Got l.prog w K mg base "is_whole" 1 ["thing"] .sh Wwhole := got_of F0 (PySem.W.mg_of X G a0) b0 (fun _ _ _ h => pureW_len h) (ok_is_whole T F0)
  have G_is_number : Got l.prog w K mg base "is_number" 2 ["thing"] .sh Wnumber := got_of F1 (PySem.W.mg_of X G a1) b1 (fun _ _ _ h => pureW_len h) (ok_is_number T G_is_whole F1)
  have G_is_tuple_of : Got l.prog w K mg base "is_tuple_of" 1 ["count", "thing"] .sh WtupleOf := got_of F2 (PySem.W.mg_of X G a2) b2 (fun _ _ _ h => by obtain ⟨_, _, e, _⟩ := h; rw [e]; rfl) (ok_is_tuple_of T F2)
  have G_is_name : Got l.prog w K mg base "is_name" 1 ["thing"] .sh Wname := got_of F3 (PySem.W.mg_of X G a3) b3 (fun _ _ _ h => pureW_len h) (ok_is_name T F3)
  have G_is_times : Got l.prog w K mg base "is_times" 3 ["thing"] .sh Wtimes := got_of F4 (PySem.W.mg_of X G a4) b4 (fun _ _ _ h => pureW_len h) (ok_is_times T G_is_tuple_of G_is_number F4)
  have Gf := ok__law_feed (P := l.prog) (w := w) (base := base) T F5
  have G__law_next : Got l.prog w K mg base "_law_next" 1 ["_law_feed_here", "_law_many"] .sh Wnext := got_of F6 (PySem.W.mg_of X G a6) b6 (fun _ _ _ h => by obtain ⟨_, e, _⟩ := h; rw [e]; rfl) (ok_next F6 T.n_len)
  have G__law_whole : Got l.prog w K mg base "_law_whole" 1 ["_law_thing", "_law_least", "_law_most"] .sh Wlwhole := got_of F7 (PySem.W.mg_of X G a7) b7 (fun _ _ _ h => by obtain ⟨_, _, _, e, _⟩ := h; rw [e]; rfl) (ok__law_whole T F7)
  have G__law_text : Got l.prog w K mg base "_law_text" 2 ["_law_feed_here"] .sh (Wtext 30) := got_of F8 (PySem.W.mg_of X G a8) b8 (fun _ _ _ h => by obtain ⟨e, _⟩ := h; rw [e]; rfl) (ok__law_text T G__law_next F8)
  have G__law_number : Got l.prog w K mg base "_law_number" 2 ["_law_feed_here"] .sh (Wint 3) := got_of F9 (PySem.W.mg_of X G a9) b9 (fun _ _ _ h => by obtain ⟨e, _⟩ := h; rw [e]; rfl) (ok__law_number G__law_next F9)
  have G__law_told : Got l.prog w K mg base "_law_told" 1 ["_law_found", "_law_due"] .sh Wtold := got_of F10 (PySem.W.mg_of X G a10) b10 (fun _ _ _ h => by obtain ⟨_, _, e, _⟩ := h; rw [e]; rfl) (ok__law_told T F10)
  have G__law_name_due : Got l.prog w K mg base "_law_name_due" 1 ["_law_thing"] .sh WnameD := got_of F11 (PySem.W.mg_of X G a11) b11 (fun _ _ _ h => pureW_len h) (ok__law_name_due T F11)
  have G__law_times_due : Got l.prog w K mg base "_law_times_due" 2 ["_law_thing"] .sh Wtimes := got_of F12 (PySem.W.mg_of X G a12) b12 (fun _ _ _ h => pureW_len h) (ok__law_times_due T G__law_whole F12)
  exact ok_law T Gf (PySem.W.mg_of X G a5) F5.kp b5 G__law_next G__law_text G__law_number G__law_told G_is_name G__law_name_due G_is_times G__law_times_due F13
theorem walk {l : PySem.W.OpenLaw} {q : Program} {loose : List Str} {XP : (Str → Option Value) → Heap → Prop} {YP : World → Heap → Prop} {d : DefRec} {K : Params → PySem.W.Frag} (hn : l.most = some 63) (hdf : d.params.defaults = [])
    (hY : ∀ (w : World) (h : Heap), YP w h → (K w.params).In h)
    (F : ∀ (w : World) (mg : Str → Option Value) (fa : Addr) (h : Heap), (K w.params).In h → h.Ns mainGlobals mg → mg d.name = some (.ref fa) →
      ∃ fd : FuncData, (∀ (s : Shared) (u : Value), BindsTo s fd ⟨[u], []⟩ [("_law_script", u)]) ∧ ∀ base : Heap, (K w.params).In base → base.Ns mainGlobals mg → FnOk l.prog w (K w.params) mg base CX0 4 fa fd ["_law_script"] (spTop (K w.params))) :
    PySem.W.WalkO q loose XP YP l.row.toRowW d [] (fun f vs => PySem.call f vs) :=
  L2.walk_of (n := 63) (k := 4) (x := "_law_script") (CX := fun _ => CX0) (sp := fun w => spTop (K w.params)) hn (by decide) hdf ⟨rfl, by decide, by decide⟩ hY F (fun _ _ a ns hl _ hS => ⟨a, ns, rfl, ⟨hl, hS⟩, fun _ => rfl⟩) fun _ _ _ _ _ z => z
end K01
open PySem PySem.W PyProof.Rows
set_option maxRecDepth 100000 in
set_option maxHeartbeats 0 in
theorem PySem.Challenge.cw_thinnet_k01_names_and_times_holds : PySem.Challenge.rw_thinnet_k01_names_and_times.Holds := by
  w_on; o_law; k_head; (case hw => w_witness2)
  k_fill
  refine K01.walk (l := PySem.Challenge.rw_thinnet_k01_names_and_times) rfl rfl (fun w h Y => PySem.W.kIn_of Y) ?F
  case F =>
    intro w mg fa h KX G hmg
    refine' K01.all_mk KX G hmg ?a0 ?l0 ?c0 ?k0 ?a1 ?l1 ?c1 ?k1 ?a2 ?l2 ?c2 ?k2 ?a3 ?l3 ?c3 ?k3 ?a4 ?l4 ?c4 ?k4 ?a5 ?l5 ?c5 ?k5 ?a6 ?l6 ?c6 ?k6 ?a7 ?l7 ?c7 ?k7 ?a8 ?l8 ?c8 ?k8 ?a9 ?l9 ?c9 ?k9 ?a10 ?l10 ?c10 ?k10 ?a11 ?l11 ?c11 ?k11 ?a12 ?l12 ?c12 ?k12 ?a13 ?l13 ?c13 ?k13 ?z_isinstance ?z_int ?z_bool ?z_str ?z_tuple ?z_list ?z_len ?z_all ?z_range ?v_MOST_SIGNS ?v_MOST_NUMBER
    (case a0 => k_is)
    (case l0 => k_is)
    (case c0 => k_is)
    (case k0 => k_is)
    (case a1 => k_is)
    (case l1 => k_is)
    (case c1 => k_is)
    (case k1 => k_is)
    (case a2 => k_is)
    (case l2 => k_is)
    (case c2 => k_is)
    (case k2 => k_is)
    (case a3 => k_is)
    (case l3 => k_is)
    (case c3 => k_is)
    (case k3 => k_is)
    (case a4 => k_is)
    (case l4 => k_is)
    (case c4 => k_is)
    (case k4 => k_is)
    (case a5 => k_is)
    (case l5 => k_is)
    (case c5 => k_is)
    (case k5 => k_is)
    (case a6 => k_is)
    (case l6 => k_is)
    (case c6 => k_is)
    (case k6 => k_is)
    (case a7 => k_is)
    (case l7 => k_is)
    (case c7 => k_is)
    (case k7 => k_is)
    (case a8 => k_is)
    (case l8 => k_is)
    (case c8 => k_is)
    (case k8 => k_is)
    (case a9 => k_is)
    (case l9 => k_is)
    (case c9 => k_is)
    (case k9 => k_is)
    (case a10 => k_is)
    (case l10 => k_is)
    (case c10 => k_is)
    (case k10 => k_is)
    (case a11 => k_is)
    (case l11 => k_is)
    (case c11 => k_is)
    (case k11 => k_is)
    (case a12 => k_is)
    (case l12 => k_is)
    (case c12 => k_is)
    (case k12 => k_is)
    (case a13 => k_is)
    (case l13 => k_is)
    (case c13 => k_is)
    (case k13 => k_is)
    (case z_isinstance => k_is)
    (case z_int => k_is)
    (case z_bool => k_is)
    (case z_str => k_is)
    (case z_tuple => k_is)
    (case z_list => k_is)
    (case z_len => k_is)
    (case z_all => k_is)
    (case z_range => k_is)
    (case v_MOST_SIGNS => k_is)
    (case v_MOST_NUMBER => k_is)
#print axioms PySem.Challenge.cw_thinnet_k01_names_and_times_holds


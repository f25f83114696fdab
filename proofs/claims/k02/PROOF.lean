import PyProof.Rows.All
import Wide.All
import OpenK.AllK
import Wide.FinOn
import Lean
import PyProof.EqAt
import PyProof.EqKinds
import PyProof.TupleCall
import PySem.Challenge.RW_sidelink_k02_put_and_cut
-- CHANGE: your row's module here, as the last of these rows
set_option Elab.async false
set_option linter.all false
set_option maxRecDepth 100000
/-! THE HAND LAYER, for ints, bools, texts, own classes, LISTS and tuples (index, slices, in, append, pop ..), calls, loops. Paste it whole ahead of your own text; what your proof does not reach may be deleted. -/
namespace L2
open PySem PySem.Spec PyProof.Rows

/-- a key: an int or a str -/
abbrev Key := Sum Int Str
def keyIs : Key → Value → Bool
  | .inl k, v => Value.isInt k v
  | .inr x, v => Value.isStrOf x v
def keyH (w : World) : Key → Int
  | .inl k => hashInt k
  | .inr x => hashStr w x
theorem keyIs_shape : ∀ {k : Key} {v : Value}, keyIs k v = true → (∃ i t, k = Sum.inl i ∧ v = Value.int i t) ∨ (∃ x t, k = Sum.inr x ∧ v = Value.str x t)
  | .inl i, v, h => by
    obtain ⟨t, e⟩ := Value.isInt_shape (k := i) (v := v) h
    exact .inl ⟨i, t, rfl, e⟩
  | .inr x, v, h => by
    obtain ⟨t, e⟩ := Value.isStrOf_shape (x := x) (v := v) h
    exact .inr ⟨x, t, rfl, e⟩
theorem keyIs_int (i : Int) (t : Tok) : keyIs (.inl i) (.int i t) = true := by simp [keyIs, Value.isInt]
theorem keyIs_str (x : Str) (t : Tok) : keyIs (.inr x) (.str x t) = true := by simp [keyIs, Value.isStrOf]
theorem key_ll (a b : Int) : decide ((Sum.inl a : Key) = Sum.inl b) = (a == b) := by
  by_cases e : a = b
  · subst e; simp
  · have h : ¬ (Sum.inl a : Key) = Sum.inl b := fun q => e (Sum.inl.inj q)
    rw [decide_eq_false h]
    exact (beq_eq_false_iff_ne.mpr e).symm
theorem key_rr (a b : Str) : decide ((Sum.inr a : Key) = Sum.inr b) = decide (a = b) := by
  by_cases e : a = b
  · subst e; simp
  · have h : ¬ (Sum.inr a : Key) = Sum.inr b := fun q => e (Sum.inr.inj q)
    rw [decide_eq_false h, decide_eq_false e]
theorem key_lr (a : Int) (b : Str) : decide ((Sum.inl a : Key) = Sum.inr b) = false := decide_eq_false (fun q => nomatch q)
theorem key_rl (a : Str) (b : Int) : decide ((Sum.inr a : Key) = Sum.inl b) = false := decide_eq_false (fun q => nomatch q)

def mixKind (prog : Program) (w : World) : PySem.KeyKind prog w Key where
  is := keyIs
  hash := keyH w
  inj := fun v a b ha hb => by
    rcases keyIs_shape ha with ⟨i, t, rfl, rfl⟩ | ⟨x, t, rfl, rfl⟩
    · rcases keyIs_shape hb with ⟨j, u, rfl, e⟩ | ⟨y, u, rfl, e⟩
      · injection e with e1 _; rw [e1]
      · exact nomatch e
    · rcases keyIs_shape hb with ⟨j, u, rfl, e⟩ | ⟨y, u, rfl, e⟩
      · exact nomatch e
      · injection e with e1 _; rw [e1]
  byValue := fun k v h => by
    rcases keyIs_shape h with ⟨i, t, rfl, rfl⟩ | ⟨x, t, rfl, rfl⟩ <;> rfl
  pyHash := fun hv h => by
    rcases keyIs_shape hv with ⟨i, t, rfl, rfl⟩ | ⟨x, t, rfl, rfl⟩
    · exact wpAny_pyHash_int h
    · exact wpAny_pyHash_str h
  eqBool := fun hu hv h => by
    rcases keyIs_shape hu with ⟨i, t, rfl, rfl⟩ | ⟨x, t, rfl, rfl⟩
    · rcases keyIs_shape hv with ⟨j, u, rfl, rfl⟩ | ⟨y, u, rfl, rfl⟩
      · rw [key_ll] at h; exact wpAny_eqBool_int h
      · rw [key_lr] at h; exact SeqAt.EqAt.int_str i t y u _ _ _ _ h
    · rcases keyIs_shape hv with ⟨j, u, rfl, rfl⟩ | ⟨y, u, rfl, rfl⟩
      · rw [key_rl] at h; exact SeqAt.EqAt.str_int x t j u _ _ _ _ h
      · rw [key_rr] at h; exact wpAny_eqBool_str h
  «strs» := fun k x t v h => by
    rcases keyIs_shape h with ⟨i, u, rfl, e⟩ | ⟨y, u, rfl, e⟩
    · exact nomatch e
    · injection e with e1 _
      subst e1
      cases v <;> rfl

theorem mixKind_int (prog : Program) (w : World) (i : Int) (t : Tok) : (mixKind prog w).is (.inl i) (.int i t) = true := keyIs_int i t
theorem mixKind_str (prog : Program) (w : World) (x : Str) (t : Tok) : (mixKind prog w).is (.inr x) (.str x t) = true := keyIs_str x t
end L2

namespace L2
open PySem PySem.Spec PyProof.Rows

/-- a value, without the heap -/
inductive V where
  | non | bl (b : Bool) | int (i : Int) | str (x : Str) | byt (b : Array UInt8) | flt (b : UInt64) | ref (a : Addr) | ty (n : String)
  deriving DecidableEq

def RelV : V → Value → Prop
  | .non, u => u = Value.none
  | .bl b, u => u = Value.bool b
  | .int i, u => ∃ t, u = Value.int i t
  | .str x, u => ∃ t, u = Value.str x t
  | .byt b, u => ∃ t, u = Value.bytes b t
  | .flt b, u => ∃ t, u = Value.float b t
  | .ref a, u => u = Value.ref a
  | .ty n, u => u = Value.type n

abbrev Vals : List V → List Value → Prop := Paired RelV
theorem Vals.length {xs : List V} {us : List Value} (r : Vals xs us) : xs.length = us.length := Paired.length r
theorem Vals.get : ∀ {xs : List V} {us : List Value} {i : Nat} {x : V}, Vals xs us → xs[i]? = some x → ∃ u, us[i]? = some u ∧ RelV x u
  | _, _, _, _, .nil, e => by simp at e
  | _, _, 0, _, .cons r _, e => by simp at e; subst e; exact ⟨_, rfl, r⟩
  | _, _, i + 1, x, .cons _ t, e => by
    obtain ⟨u, h1, h2⟩ := Vals.get (i := i) (x := x) t (by simpa using e)
    exact ⟨u, by simpa using h1, h2⟩
theorem Vals.set {x : V} {u : Value} (r : RelV x u) : ∀ {xs : List V} {us : List Value} (i : Nat), Vals xs us → Vals (xs.set i x) (us.set i u)
  | _, _, _, .nil => .nil
  | _, _, 0, .cons _ t => .cons r t
  | _, _, i + 1, .cons q t => .cons q (Vals.set r i t)
theorem Vals.append : ∀ {xs ys : List V} {us ws : List Value}, Vals xs us → Vals ys ws → Vals (xs ++ ys) (us ++ ws)
  | _, _, _, _, .nil, s => s
  | _, _, _, _, .cons r t, s => .cons r (Vals.append t s)
theorem Vals.take : ∀ {xs : List V} {us : List Value} (n : Nat), Vals xs us → Vals (xs.take n) (us.take n)
  | _, _, 0, _ => .nil
  | _, _, _ + 1, .nil => .nil
  | _, _, n + 1, .cons r t => .cons r (Vals.take n t)
theorem Vals.drop : ∀ {xs : List V} {us : List Value} (n : Nat), Vals xs us → Vals (xs.drop n) (us.drop n)
  | _, _, 0, r => r
  | _, _, _ + 1, .nil => .nil
  | _, _, n + 1, .cons _ t => Vals.drop n t
theorem Vals.none_of : ∀ {xs : List V} {us : List Value} {i : Nat}, Vals xs us → xs[i]? = none → us[i]? = none := fun {xs us i} r e => by
  have h1 := r.length
  have h2 : xs.length ≤ i := List.getElem?_eq_none_iff.mp e
  exact List.getElem?_eq_none_iff.mpr (by omega)

def RelO : Option V → Option Value → Prop
  | some v, some u => RelV v u
  | none, none => True
  | _, _ => False
def KV {κ : Type} : List (κ × V) → List (κ × Value) → Prop := Paired fun (p : κ × V) (q : κ × Value) => p.1 = q.1 ∧ RelV p.2 q.2

/-- a key of a dict (00_mix): an int or a text -/
def kV : Key → V
  | .inl i => .int i
  | .inr x => .str x

/-- what stands at a tracked address -/
inductive HO where
  /-- a list -/
  | lst (xs : List V)
  /-- a tuple (never changes) -/
  | tup (xs : List V)
  /-- a dict whose keys are ints and texts; one whose keys are tuples of ints and texts (the empty one is both) -/
  | dK (kvs : List (Key × V)) | dT (kvs : List (List Key × V))
  /-- a set of ints: its members, its size -/
  | set (S : Int → Bool) (n : Nat)
  /-- an instance of the class at C, its dict at dx, its attributes -/
  | ins (C dx : Addr) (fs : List (Str × V))
  /-- the dict of the instance at x -/
  | own (x : Addr)
  /-- the dict of an exception -/
  | xd (fs : List (Str × V))
  /-- a bound method, f of x -/
  | met (f x : Addr)
  /-- a range object lo, lo + 1, .. below hi -/
  | rng (lo hi : Int)
  /-- a thing that is known to the object (the script; a dict while a loop walks it): read, never written while it is so -/
  | frz (o : Obj) (u : HO)
  /-- a code object's table -/
  | tbl (ps : Array Value)
  /-- any other thing, by what is true of its one object (a def of one's own: SetO a S n := HO.ext fun h => ..) -/
  | ext (φ : Heap → Prop)

abbrev Hp := Addr → Option HO
def upd (H : Hp) (a : Addr) (o : HO) : Hp := fun b => if b = a then some o else H b
theorem upd_same {H : Hp} {a : Addr} {o : HO} : upd H a o a = some o := by unfold upd; rw [if_pos rfl]
theorem upd_ne {H : Hp} {a b : Addr} {o : HO} (h : b ≠ a) : upd H a o b = H b := by unfold upd; rw [if_neg h]
/-- two objects of different content stand apart -/
theorem ne_of {H : Hp} {a b : Addr} {o u : HO} (h : H a = some o) (h' : H b = some u) (d : o ≠ u) : a ≠ b := by
  intro e; subst e; rw [h] at h'; exact d (Option.some.inj h')
theorem ne_of_none {H : Hp} {a b : Addr} {o : HO} (h : H a = some o) (h' : H b = none) : a ≠ b := by
  intro e; subst e; rw [h] at h'; cases h'

section
variable (P : Program) (w : World)
def ObjOk (H : Hp) (h : Heap) (a : Addr) : HO → Prop
  | .lst xs => xs.length ≤ sizeLine ∧ ∃ (its : List Value) (n : Nat), Vals xs its ∧ h.get? a = some { cls := .type "list", data := .seq its.toArray n }
  | .tup xs => xs.length ≤ sizeLine ∧ ∃ its : List Value, Vals xs its ∧ IsTup h a its.toArray
  | .dK kvs => kvs.length ≤ sizeLine ∧ (a == sysModules) = false ∧ ∃ vs, KV kvs vs ∧ h.DictOf (mixKind P w) a vs
  | .dT kvs => kvs.length ≤ sizeLine ∧ (a == sysModules) = false ∧ ∃ xs : List (List Key × Addr × Value),
      Paired (fun (p : List Key × V) (q : List Key × Addr × Value) => p.1 = q.1 ∧ H q.2.1 = some (.tup (p.1.map kV)) ∧ RelV p.2 q.2.2) kvs xs ∧
      ∃ o es ep, h.get? a = some o ∧ o.ExactDict ∧ o.data = .dict es ep ∧ es.toList = xs.map (entryOfKey (tupleKind (mixKind P w))) ∧ (xs.map (·.1)).Nodup
  | .set S n => h.SetOf (intKind P w) a S n
  | .ins C dx fs => H dx = some (.own a) ∧ fs.length ≤ 1000 ∧ dx ≠ a ∧ h.get? a = some (PySem.W.instObj C dx) ∧
      ∃ mA, h.Ns1 dx mA ∧ (∀ f, RelO (fs.lookup f) (mA f)) ∧ PySem.Within mA (fs.map (·.1))
  | .own _ => ∃ o, h.get? a = some o
  | .xd fs => ∃ mA, h.Ns1 a mA ∧ ∀ f, RelO (fs.lookup f) (mA f)
  | .rng lo hi => ∃ t u v, h.get? a = some { cls := .type "range", data := .fields #[.int lo t, .int hi u, .int 1 v] }
  | .frz o u => h.get? a = some o ∧ ObjOk H h a u
  | .tbl ps => h.get? a = some { cls := .none, data := .fields ps }
  | .met f x => h.get? a = some (PySem.W.methodObj (.ref f) (.ref x))
  | .ext φ => φ h ∧ (∃ o, h.get? a = some o) ∧ ∀ h1 h2 : Heap, φ h1 → (∀ o, h1.get? a = some o → h2.get? a = some o) → φ h2
/-- the abstract heap is held -/
def HOk (H : Hp) (h : Heap) : Prop := ∀ a o, H a = some o → ObjOk P w H h a o
end

section
variable {P : Program} {w : World} {H H' : Hp} {h h' : Heap} {a : Addr} {o : HO}
theorem ObjOk.lt (x : ObjOk P w H h a o) : a < h.objs.size := by
  cases o with
  | lst xs => obtain ⟨_, _, _, _, e⟩ := x; exact Heap.lt_size e
  | tup xs => obtain ⟨_, _, _, p⟩ := x; exact p.lt
  | dK kvs => obtain ⟨_, _, _, _, o, _, _, e, _⟩ := x; exact Heap.lt_size e
  | dT kvs => obtain ⟨_, _, _, _, o, _, _, e, _⟩ := x; exact Heap.lt_size e
  | set S n => obtain ⟨o, _, _, _, e, _⟩ := x; exact Heap.lt_size e
  | ins C dx fs => obtain ⟨_, _, _, e, _⟩ := x; exact Heap.lt_size e
  | own y => obtain ⟨_, e⟩ := x; exact Heap.lt_size e
  | xd fs => obtain ⟨_, ⟨_, _, _, e, _⟩, _⟩ := x; exact Heap.lt_size e
  | rng lo hi => obtain ⟨_, _, _, e⟩ := x; exact Heap.lt_size e
  | frz ob u => obtain ⟨e, _⟩ := x; exact Heap.lt_size e
  | tbl ps => exact Heap.lt_size (show h.get? a = some _ from x)
  | met f y => exact Heap.lt_size (show h.get? a = some _ from x)
  | ext φ => obtain ⟨_, ⟨_, e⟩, _⟩ := x; exact Heap.lt_size e
theorem Paired.mapP {α β : Type} {F G : α → β → Prop} : ∀ {l₁ : List α} {l₂ : List β}, Paired F l₁ l₂ → (∀ a b, F a b → G a b) → Paired G l₁ l₂
  | _, _, .nil, _ => .nil
  | _, _, .cons r t, f => .cons (f _ _ r) (Paired.mapP t f)
/-- what an object's description leans on: its own object, its own dict, the tuples -/
theorem ObjOk.stay (x : ObjOk P w H h a o) (k : ∀ b u, (b = a ∨ H b = some (.own a)) → h.get? b = some u → h'.get? b = some u)
    (ho : ∀ b, H b = some (.own a) → H' b = some (.own a)) (ht : ∀ b xs, H b = some (.tup xs) → H' b = some (.tup xs)) : ObjOk P w H' h' a o := by
  induction o with
  | lst xs => obtain ⟨z, its, n, r, e⟩ := x; exact ⟨z, its, n, r, k _ _ (.inl rfl) e⟩
  | tup xs => obtain ⟨z, its, r, ob, e, c⟩ := x; exact ⟨z, its, r, ob, k _ _ (.inl rfl) e, c⟩
  | dK kvs => obtain ⟨z, y, vs, r, ob, es, ep, e, c⟩ := x; exact ⟨z, y, vs, r, ob, es, ep, k _ _ (.inl rfl) e, c⟩
  | dT kvs =>
    obtain ⟨z, y, xs, r, ob, es, ep, e, c⟩ := x
    exact ⟨z, y, xs, Paired.mapP r fun p q z => ⟨z.1, ht _ _ z.2.1, z.2.2⟩, ob, es, ep, k _ _ (.inl rfl) e, c⟩
  | set S n => obtain ⟨ob, es, ep, t, e, c⟩ := x; exact ⟨ob, es, ep, t, k _ _ (.inl rfl) e, c⟩
  | ins C dx fs =>
    obtain ⟨d, z, ne, e, mA, ⟨od, es, ep, e2, c⟩, r⟩ := x
    exact ⟨ho _ d, z, ne, k _ _ (.inl rfl) e, mA, ⟨od, es, ep, k _ _ (.inr d) e2, c⟩, r⟩
  | own y => obtain ⟨ob, e⟩ := x; exact ⟨ob, k _ _ (.inl rfl) e⟩
  | xd fs => obtain ⟨mA, ⟨od, es, ep, e, c⟩, r⟩ := x; exact ⟨mA, ⟨od, es, ep, k _ _ (.inl rfl) e, c⟩, r⟩
  | rng lo hi => obtain ⟨t, u, v, e⟩ := x; exact ⟨t, u, v, k _ _ (.inl rfl) e⟩
  | frz ob u ih => obtain ⟨e, q⟩ := x; exact ⟨k _ _ (.inl rfl) e, ih q⟩
  | tbl ps =>
    have e : h.get? a = some { cls := .none, data := .fields ps } := x
    show h'.get? a = some { cls := .none, data := .fields ps }
    exact k a _ (.inl rfl) e
  | met f y =>
    have e : h.get? a = some (PySem.W.methodObj (.ref f) (.ref y)) := x
    show h'.get? a = some (PySem.W.methodObj (.ref f) (.ref y))
    exact k a _ (.inl rfl) e
  | ext φ => obtain ⟨p, ⟨o, e⟩, st⟩ := x; exact ⟨st _ _ p fun o q => k _ _ (.inl rfl) q, ⟨o, k _ _ (.inl rfl) e⟩, st⟩
theorem HOk.lt (x : HOk P w H h) (e : H a = some o) : a < h.objs.size := (x a o e).lt
theorem HOk.fresh (x : HOk P w H h) (e : h.objs.size ≤ a) : H a = none := by
  cases q : H a with
  | none => rfl
  | some u => exact absurd (Nat.lt_of_lt_of_le (x.lt q) e) (Nat.lt_irrefl _)
/-- every object of the heap is kept -/
theorem HOk.kept (x : HOk P w H h) (k : ∀ b u, h.get? b = some u → h'.get? b = some u) : HOk P w H h' := fun a o e =>
  (x a o e).stay (fun b u _ q => k b u q) (fun _ q => q) fun _ _ q => q
/-- a new object is laid and tracked -/
theorem HOk.laid (x : HOk P w H h) (k : ∀ b u, h.get? b = some u → h'.get? b = some u) (hp : h.objs.size ≤ a) (new : ObjOk P w (upd H a o) h' a o) : HOk P w (upd H a o) h' := fun b u e => by
  have hn := x.fresh hp
  by_cases hb : b = a
  · subst hb; rw [upd_same] at e; cases e; exact new
  · rw [upd_ne hb] at e
    exact (x b u e).stay (fun c v _ q => k c v q) (fun c q => by rw [upd_ne (ne_of_none q hn)]; exact q) fun c xs q => by rw [upd_ne (ne_of_none q hn)]; exact q
end

/-- what may be read as u: it is u, or a known u -/
def Rd (H : Hp) (a : Addr) (u : HO) : Prop := H a = some u ∨ ∃ o, H a = some (.frz o u)
theorem Rd.of {H : Hp} {a : Addr} {u : HO} (h : H a = some u) : Rd H a u := .inl h
theorem Rd.ok {P : Program} {w : World} {H : Hp} {h : Heap} {a : Addr} {u : HO} (r : Rd H a u) (x : HOk P w H h) : ObjOk P w H h a u := by
  rcases r with r | ⟨o, r⟩
  · exact x a u r
  · obtain ⟨_, q⟩ := x a _ r
    exact q
/-- what may be written -/
def Mut : Option HO → Prop
  | some (.lst _) => True
  | some (.dK _) => True
  | some (.dT _) => True
  | some (.set _ _) => True
  | some (.ins _ _ _) => True
  | some (.ext _) => True
  | _ => False
section
variable {P : Program} {w : World} {H : Hp} {h h' : Heap} {x e : Addr} {o' : HO}
/-- the object at e is changed: x itself, or the dict of the instance x -/
theorem HOk.write (ok : HOk P w H h) (mu : Mut (H x)) (he : e = x ∨ H e = some (.own x)) (k : ∀ b u, b ≠ e → h.get? b = some u → h'.get? b = some u) (heo : ∃ u, h'.get? e = some u)
    (new : ObjOk P w (upd H x o') h' x o') : HOk P w (upd H x o') h' := fun b u q => by
  have nown : ∀ c y, H c = some (.own y) → c ≠ x := fun c y r z => by subst z; rw [r] at mu; exact mu
  have ntup : ∀ c xs, H c = some (.tup xs) → c ≠ x := fun c xs r z => by subst z; rw [r] at mu; exact mu
  by_cases hb : b = x
  · subst hb; rw [upd_same] at q; cases q; exact new
  · rw [upd_ne hb] at q
    by_cases hbe : b = e
    · have q' : H b = some (.own x) := by
        rcases he with z | z
        · exact absurd (hbe.trans z) hb
        · rw [hbe]; exact z
      rw [q] at q'; cases q'
      obtain ⟨v, hv⟩ := heo
      exact ⟨v, by rw [hbe]; exact hv⟩
    · refine (ok b u q).stay (fun c v hc r => k c v ?_ r) (fun c r => by rw [upd_ne (nown c b r)]; exact r) fun c xs r => by rw [upd_ne (ntup c xs r)]; exact r
      rcases hc with rfl | hc
      · exact hbe
      · rintro rfl
        rcases he with z | z
        · exact nown c b hc z
        · rw [hc] at z; cases z; exact hb rfl
end

/-! ### kept unless tracked; of the frames at fs (the callers') the slots may change (an exception that passes writes there); of the records at ex (iterators) nothing is said -/
structure Un (fs ex : List Addr) (H H' : Hp) (h h' : Heap) : Prop where
  keep : ∀ b o, h.get? b = some o → H b = none → b ∉ fs → b ∉ ex → h'.get? b = some o
  slot : ∀ b o, h.get? b = some o → H b = none → b ∈ fs → b ∉ ex → ∃ sl, h'.get? b = some { o with slots := sl }
  free : ∀ b o, h.get? b = some o → H b = none → b ∉ ex → H' b = none
  there : ∀ b o, h.get? b = some o → b ∉ ex → ∃ o', h'.get? b = some o'
  tups : ∀ b xs, H b = some (.tup xs) → H' b = some (.tup xs)
  frzs : ∀ b o u, H b = some (.frz o u) → H' b = some (.frz o u)
  tbls : ∀ b ps, H b = some (.tbl ps) → ∃ more, H' b = some (.tbl (ps ++ more))
section
variable {fs fs' ex ex' : List Addr} {H H1 H2 : Hp} {h h1 h2 h' : Heap} {a x e : Addr} {o : HO}
theorem Un.any (u : Un fs ex H H1 h h1) {b : Addr} {ob : Obj} (q : h.get? b = some ob) (n : H b = none) (hx : b ∉ ex) : ∃ sl, h1.get? b = some { ob with slots := sl } := by
  by_cases hb : b ∈ fs
  · exact u.slot b ob q n hb hx
  · exact ⟨ob.slots, u.keep b ob q n hb hx⟩
theorem Un.trans (a : Un fs ex H H1 h h1) (b : Un fs ex H1 H2 h1 h2) : Un fs ex H H2 h h2 where
  keep := fun c ob q n hc hx => b.keep c ob (a.keep c ob q n hc hx) (a.free c ob q n hx) hc hx
  slot := fun c ob q n hc hx => by
    obtain ⟨sl, e1⟩ := a.slot c ob q n hc hx
    obtain ⟨sl', e2⟩ := b.slot c _ e1 (a.free c ob q n hx) hc hx
    exact ⟨sl', e2⟩
  free := fun c ob q n hx => by
    obtain ⟨o', e1⟩ := a.there c ob q hx
    exact b.free c o' e1 (a.free c ob q n hx) hx
  there := fun c ob q hx => by
    obtain ⟨o', e1⟩ := a.there c ob q hx
    exact b.there c o' e1 hx
  tups := fun c xs q => b.tups c xs (a.tups c xs q)
  frzs := fun c ob xs q => b.frzs c ob xs (a.frzs c ob xs q)
  tbls := fun c ps q => by
    obtain ⟨m1, e1⟩ := a.tbls c ps q
    obtain ⟨m2, e2⟩ := b.tbls c _ e1
    exact ⟨m1 ++ m2, by rw [e2, Array.append_assoc]⟩
theorem Un.kept (k : ∀ b u, h.get? b = some u → h'.get? b = some u) : Un fs ex H H h h' :=
  ⟨fun b ob q _ _ _ => k b ob q, fun b ob q _ _ _ => ⟨ob.slots, k b ob q⟩, fun _ _ _ n _ => n, fun b ob q _ => ⟨ob, k b ob q⟩, fun _ _ q => q, fun _ _ _ q => q, fun _ ps q => ⟨#[], by rw [q]; simp⟩⟩
theorem Un.refl : Un fs ex H H h h := Un.kept fun _ _ q => q
theorem Un.laid (k : ∀ b u, h.get? b = some u → h'.get? b = some u) (hp : h.objs.size ≤ a) (hn : H a = none) : Un fs ex H (upd H a o) h h' where
  keep := fun b u q _ _ _ => k b u q
  slot := fun b u q _ _ _ => ⟨u.slots, k b u q⟩
  free := fun b u q n _ => by rw [upd_ne (Nat.ne_of_lt (Nat.lt_of_lt_of_le (Heap.lt_size q) hp))]; exact n
  there := fun b u q _ => ⟨u, k b u q⟩
  tups := fun b xs q => by rw [upd_ne (ne_of_none q hn)]; exact q
  frzs := fun b u xs q => by rw [upd_ne (ne_of_none q hn)]; exact q
  tbls := fun b ps q => ⟨#[], by rw [upd_ne (ne_of_none q hn), q]; simp⟩
theorem Un.write (mu : Mut (H x)) (he : e = x ∨ H e = some (.own x)) (k : ∀ b u, b ≠ e → h.get? b = some u → h'.get? b = some u) (heo : ∃ u, h'.get? e = some u) : Un fs ex H (upd H x o) h h' := by
  have hx : ∀ b, H b = none → b ≠ x := fun b n z => by subst z; rw [n] at mu; exact mu
  have hb : ∀ b, H b = none → b ≠ e := fun b n z => by
    subst z
    rcases he with r | r
    · exact hx b n r
    · rw [n] at r; cases r
  have hm : ∀ b u, H b = some u → ¬ Mut (some u) → b ≠ x := fun b u q nm z => by subst z; rw [q] at mu; exact nm mu
  refine ⟨fun b u q n _ _ => k b u (hb b n) q, fun b u q n _ _ => ⟨u.slots, k b u (hb b n) q⟩, fun b u q n _ => by rw [upd_ne (hx b n)]; exact n, fun b u q _ => ?_,
    fun b xs q => by rw [upd_ne (hm b _ q fun z => z)]; exact q, fun b u xs q => by rw [upd_ne (hm b _ q fun z => z)]; exact q, fun b ps q => ⟨#[], by rw [upd_ne (hm b _ q fun z => z), q]; simp⟩⟩
  by_cases hbe : b = e
  · subst hbe; exact heo
  · exact ⟨u, k b u hbe q⟩
theorem Un.mono (u : Un fs ex H H1 h h1) (hs : ∀ b ∈ fs, b ∈ fs') (hx : ∀ b ∈ ex, b ∈ ex') : Un fs' ex' H H1 h h1 :=
  ⟨fun b ob q n hb he => u.keep b ob q n (fun z => hb (hs b z)) fun z => he (hx b z), fun _ _ q n _ he => u.any q n fun z => he (hx _ z), fun b ob q n he => u.free b ob q n fun z => he (hx b z), fun b ob q he => u.there b ob q fun z => he (hx b z), u.tups, u.frzs, u.tbls⟩
end

/-! ### the heap without what is tracked -/
def trk (h : Heap) (H : Hp) : List Addr := (List.range h.objs.size).filter fun a => (H a).isSome
def hidT (h : Heap) (H : Hp) : Heap := PySem.W.hideAll h (trk h H)
theorem hidT_size (h : Heap) (H : Hp) : (hidT h H).objs.size = h.objs.size := PySem.W.hideAll_size _ _
theorem hidT_get {h : Heap} {H : Hp} {b : Addr} {o : Obj} (e : h.get? b = some o) (n : H b = none) : (hidT h H).get? b = some o :=
  PySem.W.hideAll_get _ e fun hm => by
    have q : (H b).isSome = true := (List.mem_filter.mp hm).2
    rw [n] at q; simp at q
theorem of_hidT {h : Heap} {H : Hp} {b : Addr} {o : Obj} (e : (hidT h H).get? b = some o) : h.get? b = some o ∧ H b = none := by
  have e' : h.get? b = some o := PySem.W.of_hideAll (trk h H) e
  refine ⟨e', ?_⟩
  cases q : H b with
  | none => rfl
  | some x =>
    have hm : b ∈ trk h H := List.mem_filter.mpr ⟨List.mem_range.mpr (Heap.lt_size e'), by simp [q]⟩
    have z : (hidT h H).get? b = none := PySem.W.hideAll_none (trk h H) hm
    rw [z] at e; cases e

/-! ### OpenK's ledger, filled with every new object but one -/
def allNews (g h : Heap) (L : Addr) : List (Addr × Obj) := (List.range h.objs.size).filterMap fun a => if a = L ∨ (g.get? a).isSome = true then none else (h.get? a).map fun o => (a, o)
theorem of_mem_allNews {g h : Heap} {L : Addr} {p : Addr × Obj} (hp : p ∈ allNews g h L) : p.1 ≠ L ∧ g.get? p.1 = none ∧ h.get? p.1 = some p.2 := by
  obtain ⟨b, _, e⟩ := List.mem_filterMap.mp hp
  split at e
  · cases e
  · rename_i hn
    cases q : h.get? b with
    | none => rw [q] at e; simp at e
    | some u =>
      rw [q] at e
      simp only [Option.map_some, Option.some.injEq] at e
      subst e
      refine ⟨fun z => hn (.inl z), ?_, q⟩
      show g.get? b = none
      cases r : g.get? b with
      | none => rfl
      | some v => exact (hn (.inr (by simp [r]))).elim
def rest (g h : Heap) (L d : Addr) : List (Addr × Obj) := (allNews g h L).filter fun p => decide (p.1 ≠ d)
theorem news_all {g h : Heap} {L : Addr} : News g L h (allNews g h L) := fun p hp => let ⟨a, b, c⟩ := of_mem_allNews hp; ⟨c, a, b⟩
end L2

namespace L2
open PySem PySem.Spec PyProof.Rows

/-- the module's facts, over the base: the heap at the law's entry without what is tracked there -/
structure Mod (K : PySem.W.Frag) (mg : Str → Option Value) (base : Heap) : Prop where
  kin : K.In base
  glob : base.Ns mainGlobals mg
  blt : ∃ mb, base.Ns builtinsNs mb ∧ ∀ x : Str, x ≠ "__name__" → mb x = bootBuiltins x
  nolimit : base.NoLimit

/-- the context: a def's body (or a comprehension's block) running. base: fixed through the whole law; s₀, H₀: the entry; outer: the frames whose slots others may change (a def's callers); stack: all frames that run;
   ex: iterators that were made ahead of the entry and are walked here (a comprehension's); fn: the names whose cells were made at the entry (a def: all; a comprehension's block: its own); calm: not within an except suite; pn: pins that every state bears; xe: what is wanted of an exception that leaves the code -/
structure Cx where
  prog : Program
  w : World
  K : PySem.W.Frag
  mg : Str → Option Value
  base : Heap
  A : Around
  N : List Str
  s₀ : Shared
  H₀ : Hp
  env : Env
  outer : List Env
  stack : List Env
  ex : List Addr
  fn : Str → Bool
  calm : Bool
  pn : List (Addr × Obj)
  xe : Value → Shared → Prop
/-- the callers' frames -/
def frs (l : List Env) : List Addr := l.filterMap (·.frame)
abbrev Cx.fs (X : Cx) : List Addr := frs X.outer

def Vis (sc : Scope) (x : Str) : Prop := sc.names.lookup x = some .local ∨ sc.names.lookup x = some .cell ∨ sc.names.lookup x = some .free
def Loc (sc : Scope) (x : Str) : Prop := sc.names.lookup x = some .local ∨ sc.names.lookup x = some .cell
def Look (env : Env) (h : Heap) (m : Str → Option Value) (x : Str) (u : Value) : Prop :=
  (env.kindOf x = some .local ∧ m x = some u) ∨ ((env.kindOf x = some .cell ∨ env.kindOf x = some .free) ∧ ∃ c, env.cells.lookup x = some c ∧ h.IsCell c (some u))

structure Cx.Ok (X : Cx) : Prop where
  mod : Mod X.K X.mg X.base
  kind : X.env.scope.kind = .function
  glob : X.env.globals = mainGlobals
  blt : X.env.builtins = builtinsNs
  above : X.s₀.heap.objs.size ≤ X.env.locals
  inj : ∀ x y c, X.env.cells.lookup x = some c → X.env.cells.lookup y = some c → x = y
  has : ∀ x, (X.env.kindOf x = some .cell ∨ X.env.kindOf x = some .free) → ∃ c, X.env.cells.lookup x = some c
  cab : ∀ x c, X.fn x = true → X.env.cells.lookup x = some c → X.s₀.heap.objs.size ≤ c
  hd : X.calm = true → X.A.handled = none
  frames : X.A.frames = some X.stack
  stk : X.stack = X.outer ∨ (X.stack = X.env :: X.outer ∧ X.env.frame = some X.env.locals)
  exf : ∀ b ∈ X.ex, b ≠ X.env.locals ∧ ∀ x c, X.env.cells.lookup x = some c → c ≠ b
  bs : ∀ b o, X.base.get? b = some o → X.s₀.heap.get? b = some o ∧ X.H₀ b = none
  bsz : X.base.objs.size ≤ X.s₀.heap.objs.size
  noex : ∀ b o, X.base.get? b = some o → b ∉ X.ex
  exfs : ∀ b ∈ X.ex, b ∉ X.fs
  funs : X.s₀.heap.FunFrames X.base X.outer
  frf : ∀ b ∈ X.fs, X.H₀ b = none

structure Inv (X : Cx) (pins : List (Addr × Obj)) (σ : List (Option V)) (H : Hp) (s : Shared) : Prop where
  ok : X.Ok
  os : s.os = X.s₀.os
  bare : AllBare s.gens
  base : Un X.fs X.ex X.H₀ H X.s₀.heap s.heap
  loc : ∃ m, s.heap.Ns X.env.locals m ∧ ∀ (i : Nat) (x : Str) (v : V), X.N[i]? = some x → σ[i]? = some (some v) → Vis X.env.scope x → ∃ u, RelV v u ∧ Look X.env s.heap m x u
  cell : ∀ x c, X.env.cells.lookup x = some c → ∃ v, s.heap.IsCell c v
  free : H X.env.locals = none
  freeC : ∀ x c, X.env.cells.lookup x = some c → H c = none
  pin : ∀ p ∈ X.pn ++ pins, s.heap.get? p.1 = some p.2 ∧ H p.1 = none ∧ p.1 ≠ X.env.locals ∧ p.1 ∉ X.fs ∧ ∀ v, p.2.data ≠ .cell v
  hok : HOk X.prog X.w H s.heap
  len : σ.length = X.N.length

section
variable {X : Cx} {pins : List (Addr × Obj)} {σ : List (Option V)} {H H' : Hp} {s : Shared} {h' : Heap}

theorem Cx.Ok.nofr (ok : X.Ok) {b : Addr} {o : Obj} (e : X.base.get? b = some o) : b ∉ X.fs := fun hb => by
  have := (ok.funs.mem hb).1
  rw [e] at this; cases this
theorem Inv.bs (I : Inv X pins σ H s) : ∀ b o, X.base.get? b = some o → s.heap.get? b = some o ∧ H b = none := fun b o e =>
  ⟨I.base.keep b o (I.ok.bs b o e).1 (I.ok.bs b o e).2 (I.ok.nofr e) (I.ok.noex b o e), I.base.free b o (I.ok.bs b o e).1 (I.ok.bs b o e).2 (I.ok.noex b o e)⟩
theorem Inv.bk (I : Inv X pins σ H s) : ∀ b o, X.base.get? b = some o → s.heap.get? b = some o := fun b o e => (I.bs b o e).1
theorem Inv.mod (I : Inv X pins σ H s) : Mod X.K X.mg X.base := I.ok.mod
theorem Inv.kIn (I : Inv X pins σ H s) : X.K.In s.heap := I.ok.mod.kin.keeps I.bk
theorem Inv.nolimit (I : Inv X pins σ H s) : s.heap.NoLimit := I.ok.mod.nolimit.keeps I.bk
/-- the frame over the base: for OpenK's rules (K.In X.base is I.mod.kin) -/
theorem Inv.fr (I : Inv X pins σ H s) : ∃ m, Fr X.base X.env.locals s.heap m :=
  let ⟨m, hn, _⟩ := I.loc
  ⟨m, hn, I.bk, Nat.le_trans I.ok.bsz I.ok.above⟩
theorem Inv.lt (I : Inv X pins σ H s) : X.env.locals < s.heap.objs.size := let ⟨_, hn, _⟩ := I.loc; hn.lt
theorem Inv.sz (I : Inv X pins σ H s) : X.s₀.heap.objs.size ≤ s.heap.objs.size := Nat.le_trans I.ok.above (Nat.le_of_lt I.lt)
theorem Inv.nofs (I : Inv X pins σ H s) {a : Addr} (h : s.heap.objs.size ≤ a) : a ∉ X.fs := fun hb => by
  obtain ⟨_, o, ho, _⟩ := I.ok.funs.mem hb
  exact absurd (Nat.lt_of_lt_of_le (Heap.lt_size ho) (Nat.le_trans I.sz h)) (Nat.lt_irrefl _)
theorem Inv.cne (I : Inv X pins σ H s) : ∀ x c, X.env.cells.lookup x = some c → c ≠ X.env.locals := fun x c e z => by
  obtain ⟨v, o, ho, hd⟩ := I.cell x c e
  obtain ⟨m, ⟨o', es, ep, ho', hd', _⟩, _⟩ := I.loc
  rw [z, ho'] at ho; cases ho; rw [hd'] at hd; cases hd
theorem Inv.funs (I : Inv X pins σ H s) : s.heap.FunFrames X.base X.outer := by
  have all : ∀ (l : List Env), (∀ b ∈ frs l, b ∈ X.fs) → X.s₀.heap.FunFrames X.base l → s.heap.FunFrames X.base l := by
    intro l
    induction l with
    | nil => intro _ _; trivial
    | cons env r ih =>
      intro hs hl
      obtain ⟨hk, ⟨L, o, hf, hn, ho, hd⟩, hr⟩ := hl
      have hL : L ∈ X.fs := hs L (by unfold frs; rw [List.filterMap_cons, hf]; exact List.mem_cons_self)
      obtain ⟨sl, e⟩ := I.base.slot L o ho (I.ok.frf L hL) hL fun z => I.ok.exfs L z hL
      exact ⟨hk, ⟨L, _, hf, hn, e, hd⟩, ih (fun b hb => hs b (by unfold frs; rw [List.filterMap_cons, hf]; exact List.mem_cons_of_mem _ hb)) hr⟩
  exact all X.outer (fun _ hb => hb) I.ok.funs

/-- the frames that run, for a call -/
theorem Inv.stack (I : Inv X pins σ H s) : s.heap.FunFrames X.base X.stack := by
  rcases I.ok.stk with e | ⟨e, hf⟩
  · rw [e]; exact I.funs
  · rw [e]
    obtain ⟨m, hn, _⟩ := I.loc
    refine .cons (by rw [I.ok.kind]; decide) hf hn ?_ I.funs
    exact Heap.get?_none_of_le (Nat.le_trans I.ok.bsz I.ok.above)
theorem Inv.stkSub (I : Inv X pins σ H s) : ∀ b ∈ frs X.stack, b ∈ X.env.locals :: X.fs := fun b hb => by
  rcases I.ok.stk with e | ⟨e, hf⟩
  · rw [e] at hb; exact List.mem_cons_of_mem _ hb
  · rw [e] at hb
    unfold frs at hb
    rw [List.filterMap_cons, hf] at hb
    exact hb
theorem Inv.stkFree (I : Inv X pins σ H s) : ∀ b ∈ frs X.stack, H b = none := fun b hb => by
  rcases List.mem_cons.mp (I.stkSub b hb) with e | hb
  · rw [e]; exact I.free
  · obtain ⟨_, o, ho, _⟩ := I.ok.funs.mem hb
    exact I.base.free b o ho (I.ok.frf b hb) fun z => I.ok.exfs b z hb

/-- THE STEP: the untracked objects but the frame and the records at ch are kept (the callers' frames up to slots), the frame's map is kept, the new abstract heap is held -/
theorem Inv.step {g' : Array GenState} {t' : Nat} {d' : Drawn} {ch : List Addr} (I : Inv X pins σ H s)
    (hch : ∀ b ∈ ch, (b ∈ X.ex ∨ X.s₀.heap.objs.size ≤ b) ∧ b ≠ X.env.locals ∧ (∀ x c, X.env.cells.lookup x = some c → c ≠ b) ∧ ∀ p ∈ X.pn ++ pins, p.1 ≠ b)
    (keep : ∀ b o, b ≠ X.env.locals → b ∉ X.fs → b ∉ ch → s.heap.get? b = some o → H b = none → h'.get? b = some o)
    (slot : ∀ b o, b ≠ X.env.locals → b ∈ X.fs → b ∉ ch → s.heap.get? b = some o → H b = none → ∃ sl, h'.get? b = some { o with slots := sl }) (free : ∀ b o, b ∉ ch → s.heap.get? b = some o → H b = none → H' b = none)
    (there : ∀ b o, b ∉ ch → s.heap.get? b = some o → ∃ o', h'.get? b = some o')
    (tups : ∀ b xs, H b = some (.tup xs) → H' b = some (.tup xs)) (frzs : ∀ b o u, H b = some (.frz o u) → H' b = some (.frz o u)) (tbls : ∀ b ps, H b = some (.tbl ps) → ∃ more, H' b = some (.tbl (ps ++ more)))
    (ns : ∀ m, s.heap.Ns X.env.locals m → h'.Ns X.env.locals m) (hok : HOk X.prog X.w H' h') (hg : AllBare g') :
    Inv X pins σ H' { s with heap := h', gens := g', drawn := d', toks := t' } := by
  have neL : ∀ b o, X.s₀.heap.get? b = some o → b ≠ X.env.locals := fun b o e => Nat.ne_of_lt (Nat.lt_of_lt_of_le (Heap.lt_size e) I.ok.above)
  have neC : ∀ b o, X.s₀.heap.get? b = some o → b ∉ X.ex → b ∉ ch := fun b o e hx hb => by
    rcases (hch b hb).1 with z | z
    · exact hx z
    · exact absurd (Nat.lt_of_lt_of_le (Heap.lt_size e) z) (Nat.lt_irrefl _)
  have cellK : ∀ x c, X.env.cells.lookup x = some c → ∀ v, s.heap.IsCell c v → h'.IsCell c v := fun x c e v ⟨o, ho, hd⟩ => by
    have nch : c ∉ ch := fun z => (hch c z).2.2.1 x c e rfl
    by_cases hc : c ∈ X.fs
    · obtain ⟨sl, q⟩ := slot c o (I.cne x c e) hc nch ho (I.freeC x c e)
      exact ⟨_, q, hd⟩
    · exact ⟨o, keep c o (I.cne x c e) hc nch ho (I.freeC x c e), hd⟩
  refine ⟨I.ok, I.os, hg, ⟨fun b o e n hb hx => ?_, fun b o e n hb hx => ?_, fun b o e n hx => ?_, fun b o e hx => ?_, fun b xs e => tups b xs (I.base.tups b xs e), fun b o xs e => frzs b o xs (I.base.frzs b o xs e), fun b ps e => ?_⟩, ?_, fun x c e => ?_, ?_, fun x c e => ?_, fun p hp => ?_, hok, I.len⟩
  · exact keep b o (neL b o e) hb (neC b o e hx) (I.base.keep b o e n hb hx) (I.base.free b o e n hx)
  · obtain ⟨sl, e1⟩ := I.base.slot b o e n hb hx
    obtain ⟨sl', e2⟩ := slot b _ (neL b o e) hb (neC b o e hx) e1 (I.base.free b o e n hx)
    exact ⟨sl', e2⟩
  · obtain ⟨o', e1⟩ := I.base.there b o e hx
    exact free b o' (neC b o e hx) e1 (I.base.free b o e n hx)
  · obtain ⟨o', e1⟩ := I.base.there b o e hx
    exact there b o' (neC b o e hx) e1
  · obtain ⟨m1, e1⟩ := I.base.tbls b ps e
    obtain ⟨m2, e2⟩ := tbls b _ e1
    exact ⟨m1 ++ m2, by rw [e2, Array.append_assoc]⟩
  · obtain ⟨m, hn, hl⟩ := I.loc
    refine ⟨m, ns m hn, fun i x v e1 e2 e3 => ?_⟩
    obtain ⟨u, r, l⟩ := hl i x v e1 e2 e3
    refine ⟨u, r, ?_⟩
    rcases l with l | ⟨k, c, e, z⟩
    · exact .inl l
    · exact .inr ⟨k, c, e, cellK x c e _ z⟩
  · obtain ⟨v, z⟩ := I.cell x c e
    exact ⟨v, cellK x c e v z⟩
  · obtain ⟨m, ⟨o, _, _, ho, _⟩, _⟩ := I.loc
    exact free _ o (fun z => (hch _ z).2.1 rfl) ho I.free
  · obtain ⟨v, o, ho, hd⟩ := I.cell x c e
    exact free c o (fun z => (hch c z).2.2.1 x c e rfl) ho (I.freeC x c e)
  · obtain ⟨e, n, ne, nf, d⟩ := I.pin p hp
    have nch : p.1 ∉ ch := fun z => (hch p.1 z).2.2.2 p hp rfl
    exact ⟨keep p.1 p.2 ne nf nch e n, free p.1 p.2 nch e n, ne, nf, d⟩
/-- .. where the frame's own object is kept too -/
theorem Inv.un {t' : Nat} (I : Inv X pins σ H s) (u : Un X.fs [] H H' s.heap h') (hok : HOk X.prog X.w H' h') : Inv X pins σ H' { s with heap := h', toks := t' } := by
  obtain ⟨m, ⟨o, es, ep, ho, r⟩, _⟩ := id I.loc
  obtain ⟨sl, hL⟩ := u.any ho I.free (by simp)
  exact I.step (g' := s.gens) (d' := s.drawn) (ch := []) (fun _ z => nomatch z) (fun b o _ hb _ e n => u.keep b o e n hb (by simp)) (fun b o _ hb _ e n => u.slot b o e n hb (by simp)) (fun b o _ e n => u.free b o e n (by simp)) (fun b o _ e => u.there b o e (by simp)) u.tups u.frzs u.tbls (fun m' hm => by
    obtain ⟨o', es', ep', ho', r'⟩ := hm
    rw [ho] at ho'; cases ho'
    exact ⟨_, es', ep', hL, r'⟩) hok I.bare
/-- behind a call (or a comprehension's block): the slots of this frame may have changed too, the records at ch may have turned -/
theorem Inv.call {g' : Array GenState} {t' : Nat} {d' : Drawn} {ch : List Addr} (I : Inv X pins σ H s) (u : Un (frs X.stack) ch H H' s.heap h') (hok : HOk X.prog X.w H' h') (hg : AllBare g')
    (hch : ∀ b ∈ ch, (b ∈ X.ex ∨ X.s₀.heap.objs.size ≤ b) ∧ b ≠ X.env.locals ∧ (∀ x c, X.env.cells.lookup x = some c → c ≠ b) ∧ ∀ p ∈ X.pn ++ pins, p.1 ≠ b) :
    Inv X pins σ H' { s with heap := h', gens := g', drawn := d', toks := t' } := by
  obtain ⟨m, ⟨o, es, ep, ho, r⟩, _⟩ := id I.loc
  obtain ⟨sl, hL⟩ := u.any ho I.free fun z => (hch _ z).2.1 rfl
  exact I.step (ch := ch) hch (fun b o hL hb hc e n => u.keep b o e n (fun z => (List.mem_cons.mp (I.stkSub b z)).elim hL hb) hc) (fun b o _ _ hc e n => u.any e n hc) (fun b o hc e n => u.free b o e n hc) (fun b o hc e => u.there b o e hc) u.tups u.frzs u.tbls (fun m' hm => by
    obtain ⟨o', es', ep', ho', r'⟩ := hm
    rw [ho] at ho'; cases ho'
    exact ⟨_, es', ep', hL, r'⟩) hok hg
/-- an untracked record of ours (an iterator) has turned -/
theorem Inv.turned {t' : Nat} {it : Addr} (I : Inv X pins σ H s) (k : ∀ b o, b ≠ it → s.heap.get? b = some o → h'.get? b = some o) (hn : H it = none) (hL : it ≠ X.env.locals)
    (h1 : it ∈ X.ex ∨ X.s₀.heap.objs.size ≤ it) (h2 : ∀ x c, X.env.cells.lookup x = some c → c ≠ it) (h3 : ∀ p ∈ X.pn ++ pins, p.1 ≠ it) : Inv X pins σ H { s with heap := h', toks := t' } := by
  have nit : ∀ b u, H b = some u → b ≠ it := fun b u e z => by rw [z, hn] at e; cases e
  refine I.step (g' := s.gens) (d' := s.drawn) (ch := [it]) (fun b hb => ?_) (fun b o _ _ hc e _ => k b o (fun z => hc (by simp [z])) e) (fun b o _ _ hc e _ => ⟨o.slots, k b o (fun z => hc (by simp [z])) e⟩) (fun _ _ _ _ n => n)
    (fun b o hc e => ⟨o, k b o (fun z => hc (by simp [z])) e⟩) (fun _ _ e => e) (fun _ _ _ e => e) (fun b ps e => ⟨#[], by rw [e]; simp⟩) (fun m hm => ?_) (fun b u e => ?_) I.bare
  · have e : b = it := by simpa using hb
    subst e
    exact ⟨h1, hL, h2, h3⟩
  · obtain ⟨o, es, ep, ho, r⟩ := hm
    exact ⟨o, es, ep, k _ o (Ne.symm hL) ho, r⟩
  · refine (I.hok b u e).stay (fun c v hc q => k c v ?_ q) (fun _ q => q) fun _ _ q => q
    rcases hc with z | z
    · rw [z]; exact nit b u e
    · exact nit c _ z
theorem Inv.tok (I : Inv X pins σ H s) (t : Nat) : Inv X pins σ H { s with toks := t } := I.un (h' := s.heap) (t' := t) Un.refl I.hok
/-- all objects kept -/
theorem Inv.kept {t' : Nat} (I : Inv X pins σ H s) (k : ∀ b u, s.heap.get? b = some u → h'.get? b = some u) : Inv X pins σ H { s with heap := h', toks := t' } := I.un (Un.kept k) (I.hok.kept k)
/-- a new object laid and tracked -/
theorem Inv.laid {a : Addr} {o : HO} {t' : Nat} (I : Inv X pins σ H s) (k : ∀ b u, s.heap.get? b = some u → h'.get? b = some u) (hp : s.heap.objs.size ≤ a) (new : ObjOk X.prog X.w (upd H a o) h' a o) :
    Inv X pins σ (upd H a o) { s with heap := h', toks := t' } := I.un (Un.laid k hp (I.hok.fresh hp)) (I.hok.laid k hp new)
/-- an object written -/
theorem Inv.write {x e : Addr} {o : HO} {t' : Nat} (I : Inv X pins σ H s) (mu : Mut (H x)) (he : e = x ∨ H e = some (.own x)) (k : ∀ b u, b ≠ e → s.heap.get? b = some u → h'.get? b = some u) (heo : ∃ u, h'.get? e = some u)
    (new : ObjOk X.prog X.w (upd H x o) h' x o) : Inv X pins σ (upd H x o) { s with heap := h', toks := t' } := I.un (Un.write mu he k heo) (I.hok.write mu he k heo new)
theorem Inv.pins_of {pins' : List (Addr × Obj)} (I : Inv X pins σ H s) (h : ∀ p ∈ pins', s.heap.get? p.1 = some p.2 ∧ H p.1 = none ∧ p.1 ≠ X.env.locals ∧ p.1 ∉ X.fs ∧ ∀ v, p.2.data ≠ .cell v) : Inv X pins' σ H s :=
  ⟨I.ok, I.os, I.bare, I.base, I.loc, I.cell, I.free, I.freeC, fun p hp => (List.mem_append.mp hp).elim (fun z => I.pin p (List.mem_append_left _ z)) (h p), I.hok, I.len⟩

theorem nodup_ix {N : List Str} (hN : N.Nodup) {i j : Nat} {x : Str} (a : N[i]? = some x) (b : N[j]? = some x) : i = j := by
  obtain ⟨h1, e1⟩ := List.getElem?_eq_some_iff.mp a
  obtain ⟨h2, e2⟩ := List.getElem?_eq_some_iff.mp b
  exact (List.getElem_inj hN).mp (e1.trans e2.symm)

/-- a name is stored; what changed -/
theorem store_ok2 {M : Model} {A : Around} {E : Value → Shared → Prop} {i : Nat} {x : Str} {v : V} {u : Value} {Q : Unit → Shared → Prop} (I : Inv X pins σ H s) (hN : X.N.Nodup) (hi : X.N[i]? = some x) (hx : Loc X.env.scope x) (r : RelV v u)
    (h : ∀ s', Inv X pins (σ.set i (some v)) H s' → (∃ a, Heap.SameBut a s.heap s'.heap ∧ (a = X.env.locals ∨ X.env.cells.lookup x = some a)) → Q () s') (hf : X.fn x = true ∨ X.env.scope.names.lookup x = some .local := by first | exact .inl rfl | exact .inr rfl | assumption) : wpAny M A (storeName X.env x u) Q E s := by
  obtain ⟨m, hn, hl⟩ := id I.loc
  have hcls : (X.env.scope.kind == .class || (X.env.scope.kind == .module && X.env.locals != X.env.globals)) = false := by rw [I.ok.kind]; rfl
  have hiσ : i < σ.length := by rw [I.len]; exact (List.getElem?_eq_some_iff.mp hi).1
  have cne := I.cne
  have tracked : ∀ {a : Addr} {h' : Heap}, (∃ o, s.heap.get? a = some o ∧ H a = none) → Heap.SameBut a s.heap h' → HOk X.prog X.w H h' := fun {a h'} ha hs b ob e => by
    obtain ⟨_, _, hfree⟩ := ha
    refine (I.hok b ob e).stay (fun c w' hc q => (hs.2 c ?_).trans q) (fun _ q => q) fun _ _ q => q
    rintro rfl
    rcases hc with rfl | hc
    · rw [hfree] at e; cases e
    · rw [hfree] at hc; cases hc
  rcases hx with hk | hk
  · refine wpAny_storeName_local hk hn (fun h' hn' hs => ?_) hcls
    obtain ⟨oL, _, _, hoL, _⟩ := id hn
    refine h _ ⟨I.ok, I.os, I.bare, ⟨fun b o e n hb hx => ?_, fun b o e n hb hx => ?_, I.base.free, fun b o e hx => ?_, I.base.tups, I.base.frzs, I.base.tbls⟩, ⟨_, hn', fun j y v' e1 e2 e3 => ?_⟩, fun y c e => ?_, I.free, I.freeC, fun p hp => ?_, tracked ⟨oL, hoL, I.free⟩ hs, by simpa using I.len⟩ ⟨_, hs, .inl rfl⟩
    · exact (hs.2 b (Nat.ne_of_lt (Nat.lt_of_lt_of_le (Heap.lt_size e) I.ok.above))).trans (I.base.keep b o e n hb hx)
    · obtain ⟨sl, e1⟩ := I.base.slot b o e n hb hx
      exact ⟨sl, (hs.2 b (Nat.ne_of_lt (Nat.lt_of_lt_of_le (Heap.lt_size e) I.ok.above))).trans e1⟩
    · obtain ⟨o', e1⟩ := I.base.there b o e hx
      exact ⟨o', (hs.2 b (Nat.ne_of_lt (Nat.lt_of_lt_of_le (Heap.lt_size e) I.ok.above))).trans e1⟩
    · by_cases hj : j = i
      · subst hj
        rw [hi] at e1; cases e1
        rw [List.getElem?_set_self hiσ] at e2
        cases e2
        exact ⟨u, r, .inl ⟨hk, by simp⟩⟩
      · rw [List.getElem?_set_ne (Ne.symm hj)] at e2
        obtain ⟨u', r', q⟩ := hl j y v' e1 e2 e3
        refine ⟨u', r', ?_⟩
        rcases q with ⟨k, e⟩ | ⟨k, c, e, z⟩
        · refine .inl ⟨k, ?_⟩
          have : y ≠ x := fun e => hj (nodup_ix hN e1 (e ▸ hi))
          simp [this, e]
        · exact .inr ⟨k, c, e, z.sameBut hs (cne y c e)⟩
    · obtain ⟨w', z⟩ := I.cell y c e
      exact ⟨w', z.sameBut hs (cne y c e)⟩
    · obtain ⟨e, n, ne, nf, d⟩ := I.pin p hp
      exact ⟨(hs.2 p.1 ne).trans e, n, ne, nf, d⟩
  · have hfn : X.fn x = true := by
      rcases hf with z | z
      · exact z
      · rw [z] at hk; cases hk
    obtain ⟨c, hc⟩ := I.ok.has x (.inl hk)
    obtain ⟨w', z⟩ := I.cell x c hc
    refine wpAny_storeName_cell I.ok.kind hk hc z (fun h' hc' hs => ?_)
    obtain ⟨oc, hoc, hocd⟩ := id z
    refine h { s with heap := h' } ⟨I.ok, I.os, I.bare, ⟨fun b o e n hb hx => ?_, fun b o e n hb hx => ?_, I.base.free, fun b o e hx => ?_, I.base.tups, I.base.frzs, I.base.tbls⟩, ⟨m, hn.sameBut hs (Ne.symm (cne x c hc)), fun j y v' e1 e2 e3 => ?_⟩, fun y c' e => ?_, I.free, I.freeC, fun p hp => ?_, tracked ⟨oc, hoc, I.freeC x c hc⟩ hs, by simpa using I.len⟩ ⟨c, hs, .inr hc⟩
    · exact (hs.2 b (Nat.ne_of_lt (Nat.lt_of_lt_of_le (Heap.lt_size e) (I.ok.cab x c hfn hc)))).trans (I.base.keep b o e n hb hx)
    · obtain ⟨sl, e1⟩ := I.base.slot b o e n hb hx
      exact ⟨sl, (hs.2 b (Nat.ne_of_lt (Nat.lt_of_lt_of_le (Heap.lt_size e) (I.ok.cab x c hfn hc)))).trans e1⟩
    · obtain ⟨o', e1⟩ := I.base.there b o e hx
      exact ⟨o', (hs.2 b (Nat.ne_of_lt (Nat.lt_of_lt_of_le (Heap.lt_size e) (I.ok.cab x c hfn hc)))).trans e1⟩
    · by_cases hj : j = i
      · subst hj
        rw [hi] at e1; cases e1
        rw [List.getElem?_set_self hiσ] at e2
        cases e2
        exact ⟨u, r, .inr ⟨.inl hk, c, hc, hc'⟩⟩
      · rw [List.getElem?_set_ne (Ne.symm hj)] at e2
        obtain ⟨u', r', q⟩ := hl j y v' e1 e2 e3
        refine ⟨u', r', ?_⟩
        rcases q with q | ⟨k, c', e, z'⟩
        · exact .inl q
        · refine .inr ⟨k, c', e, z'.sameBut hs ?_⟩
          rintro rfl
          exact hj (nodup_ix hN e1 (I.ok.inj _ _ _ e hc ▸ hi))
    · by_cases hcc : c' = c
      · subst hcc; exact ⟨_, hc'⟩
      · obtain ⟨w2, z2⟩ := I.cell y c' e
        exact ⟨w2, z2.sameBut hs hcc⟩
    · obtain ⟨e, n, ne, nf, d⟩ := I.pin p hp
      refine ⟨(hs.2 p.1 ?_).trans e, n, ne, nf, d⟩
      intro q
      rw [q, hoc] at e
      have q' : oc = p.2 := Option.some.inj e
      exact d w' (by rw [← q']; exact hocd)
theorem store_ok {M : Model} {A : Around} {E : Value → Shared → Prop} {i : Nat} {x : Str} {v : V} {u : Value} {Q : Unit → Shared → Prop} (I : Inv X pins σ H s) (hN : X.N.Nodup) (hi : X.N[i]? = some x) (hx : Loc X.env.scope x) (r : RelV v u)
    (h : ∀ s', Inv X pins (σ.set i (some v)) H s' → Q () s') (hf : X.fn x = true ∨ X.env.scope.names.lookup x = some .local := by first | exact .inl rfl | exact .inr rfl | assumption) : wpAny M A (storeName X.env x u) Q E s :=
  store_ok2 I hN hi hx r (fun s' I' _ => h s' I') hf
/-- behind a call or a block, the state as it is -/
theorem Inv.call' {s' : Shared} {ch : List Addr} (I : Inv X pins σ H s) (ho : s'.os = s.os) (u : Un (frs X.stack) ch H H' s.heap s'.heap) (hok : HOk X.prog X.w H' s'.heap) (hg : AllBare s'.gens)
    (hch : ∀ b ∈ ch, (b ∈ X.ex ∨ X.s₀.heap.objs.size ≤ b) ∧ b ≠ X.env.locals ∧ (∀ x c, X.env.cells.lookup x = some c → c ≠ b) ∧ ∀ p ∈ X.pn ++ pins, p.1 ≠ b) : Inv X pins σ H' s' := by
  obtain ⟨h', g', d', t', o'⟩ := s'
  have e : o' = s.os := ho
  subst e
  exact I.call (g' := g') (t' := t') (d' := d') u hok hg hch
end

/-! ### the judgements -/
/-- an exception: its class, its own dict's address (where it has one), the abstract heap behind it -/
abbrev XK := Value → Option Addr → Hp → Prop
abbrev St := List (Option V)
abbrev VK := V → Hp → Prop
/-- an expression's reading; a test's; an argument list's -/
abbrev TE := St → Hp → VK → Prop
abbrev TT := St → Hp → (Bool → Hp → Prop) → Prop
abbrev TA := St → Hp → (List V → Hp → Prop) → Prop
/-- what is wanted behind a statement -/
structure Ends where
  nx : St → Hp → Prop
  rt : VK
  bk : St → Hp → Prop := fun _ _ => False
  ct : St → Hp → Prop := fun _ _ => False
abbrev TS := Ends → St → Hp → Prop

def EP (X : Cx) (pins : List (Addr × Obj)) (σ : St) (Q : VK) (u : Value) (s' : Shared) : Prop := ∃ v H', Inv X pins σ H' s' ∧ RelV v u ∧ Q v H'
def TP (X : Cx) (pins : List (Addr × Obj)) (σ : St) (Q : Bool → Hp → Prop) (b : Bool) (s' : Shared) : Prop := ∃ H', Inv X pins σ H' s' ∧ Q b H'
def AP (X : Cx) (pins : List (Addr × Obj)) (σ : St) (Q : List V → Hp → Prop) (us : List Value) (s' : Shared) : Prop := ∃ vs H', Inv X pins σ H' s' ∧ Vals vs us ∧ Q vs H'
def SP (X : Cx) (pins : List (Addr × Obj)) (D : Ends) (f : Flow) (s' : Shared) : Prop :=
  match f with
  | .next => ∃ σ' H', Inv X pins σ' H' s' ∧ D.nx σ' H'
  | .brk => ∃ σ' H', Inv X pins σ' H' s' ∧ D.bk σ' H'
  | .cont => ∃ σ' H', Inv X pins σ' H' s' ∧ D.ct σ' H'
  | .ret u => ∃ v σ' H', Inv X pins σ' H' s' ∧ RelV v u ∧ D.rt v H'

def PE (X : Cx) (e : Expr) (t : TE) : Prop :=
  ∀ (pins : List (Addr × Obj)) (s : Shared) (σ : St) (H : Hp) (Q : VK), Inv X pins σ H s → t σ H Q → wpAny (model X.prog X.w) X.A (eval e X.env) (EP X pins σ Q) X.xe s
def PT (X : Cx) (e : Expr) (t : TT) : Prop :=
  ∀ (pins : List (Addr × Obj)) (s : Shared) (σ : St) (H : Hp) (Q : Bool → Hp → Prop), Inv X pins σ H s → t σ H Q → wpAny (model X.prog X.w) X.A (isTrue e X.env (eval e X.env)) (TP X pins σ Q) X.xe s
/-- a test whatever its 'whole' is (and, or) -/
def PW (X : Cx) (e : Expr) (t : TT) : Prop :=
  ∀ (whole : Sem Value) (pins : List (Addr × Obj)) (s : Shared) (σ : St) (H : Hp) (Q : Bool → Hp → Prop), Inv X pins σ H s → t σ H Q → wpAny (model X.prog X.w) X.A (isTrue e X.env whole) (TP X pins σ Q) X.xe s
theorem PW.pt {X : Cx} {e : Expr} {t : TT} (h : PW X e t) : PT X e t := h _
/-- an argument list (no star), from the left -/
def PA (X : Cx) (es : List Expr) (t : TA) : Prop :=
  ∀ (pos : Pos) (pins : List (Addr × Obj)) (s : Shared) (σ : St) (H : Hp) (Q : List V → Hp → Prop), Inv X pins σ H s → t σ H Q → wpAny (model X.prog X.w) X.A (spliced (backTo pos (starEach es X.env))) (AP X pins σ Q) X.xe s
def PS (X : Cx) (st : Stmt) (t : TS) : Prop :=
  ∀ (pins : List (Addr × Obj)) (s : Shared) (σ : St) (H : Hp) (D : Ends), Inv X pins σ H s → t D σ H → wpAny (model X.prog X.w) X.A (exec st X.env) (SP X pins D) X.xe s
def PSs (X : Cx) (st : List Stmt) (t : TS) : Prop :=
  ∀ (pins : List (Addr × Obj)) (s : Shared) (σ : St) (H : Hp) (D : Ends), Inv X pins σ H s → t D σ H → wpAny (model X.prog X.w) X.A (execs st X.env) (SP X pins D) X.xe s
/-- weaken the end -/
theorem thn {α : Type} {t : Sem α} {Q Q' : α → Shared → Prop} {M : Model} {A : Around} {E : Value → Shared → Prop} {s : Shared} (h : wpAny M A t Q E s) (hQ : ∀ a s, Q a s → Q' a s) : wpAny M A t Q' E s := wpAny_mono h hQ fun _ _ x => x
end L2

namespace L2
open PySem PySem.Spec PyProof.Rows
section
variable {X : Cx}

/-- two expressions in a row -/
theorem bin {a b : Expr} {ta tb : TE} (ha : PE X a ta) (hb : PE X b tb) {pins : List (Addr × Obj)} {s : Shared} {σ : St} {H : Hp} {R : V → V → Hp → Prop} (I : Inv X pins σ H s) (h : ta σ H fun x H1 => tb σ H1 fun y H2 => R x y H2)
    {α : Type} {Q : α → Shared → Prop} {f : Value → Value → Sem α}
    (hf : ∀ v u s2 x y H2, Inv X pins σ H2 s2 → RelV x v → RelV y u → R x y H2 → wpAny (model X.prog X.w) X.A (f v u) Q X.xe s2) :
    wpAny (model X.prog X.w) X.A (eval a X.env) (fun v s₁ => wpAny (model X.prog X.w) X.A (eval b X.env) (fun u s₂ => wpAny (model X.prog X.w) X.A (f v u) Q X.xe s₂) X.xe s₁) X.xe s := by
  refine thn (ha pins s σ H _ I h) fun v s1 ⟨x, H1, I1, r1, q1⟩ => ?_
  refine thn (hb pins s1 σ H1 _ I1 q1) fun u s2 ⟨y, H2, I2, r2, q2⟩ => ?_
  exact hf v u s2 x y H2 I2 r1 r2 q2

/-! ### names and constants -/
def tVar (i : Nat) : TE := fun σ H Q => ∃ v, σ[i]? = some (some v) ∧ Q v H
def tC (v : V) : TE := fun _ H Q => Q v H
theorem pe_var {i : Nat} {x : Str} {pos : Pos} (hN : X.N[i]? = some x) (hv : Vis X.env.scope x) (hd : (x == ("__debug__" : Str)) = false := by decide) (hcd : (x == ("__classdict__" : Str)) = false := by decide) : PE X (.Name x pos) (tVar i) := by
  intro pins s σ H Q I h
  obtain ⟨v, e, h⟩ := h
  obtain ⟨m, hn, hl⟩ := I.loc
  obtain ⟨u, r, l⟩ := hl i x v hN e hv
  have fin : EP X pins σ Q u s := ⟨v, H, I, r, h⟩
  rcases l with ⟨hk, hm⟩ | ⟨hk, c, hc, hcell⟩
  · exact wpAny_Name (wpAny_loadName_local I.ok.kind hk hn hm fin) hd
  · rcases hk with hk | hk
    · exact wpAny_Name (wpAny_loadName_cell I.ok.kind hk hc hcell fin) hd
    · exact wpAny_Name (wpAny_loadName_free I.ok.kind hk hc hcell fin hcd) hd
theorem pe_int {i j pos} : PE X (.Constant (.int i) j pos) (tC (.int i)) := fun _ _ _ H _ I h => wpAny_Constant_int ⟨.int i, H, I.tok _, ⟨_, rfl⟩, h⟩
theorem pe_bl {b j pos} : PE X (.Constant (.bool b) j pos) (tC (.bl b)) := fun _ _ _ H _ I h => Constant_bool ⟨.bl b, H, I, rfl, h⟩
theorem pe_non {j pos} : PE X (.Constant .none j pos) (tC .non) := fun _ _ _ H _ I h => Constant_none ⟨.non, H, I, rfl, h⟩
/-- a global name of the def -/
def Gl (X : Cx) (x : Str) : Prop := X.env.kindOf x = some .globalImplicit
theorem ld_glob {E : Value → Shared → Prop} {pins : List (Addr × Obj)} {s : Shared} {σ : St} {H : Hp} {x : Str} {u : Value} {pos : Pos} {Q : Value → Shared → Prop} (I : Inv X pins σ H s) (hg : Gl X x) (hm : X.mg x = some u) (h : Q u s)
    (hd : (x == ("__debug__" : Str)) = false := by decide) : wpAny (model X.prog X.w) X.A (eval (.Name x pos) X.env) Q E s :=
  Calls.Name_function_global I.ok.kind hg (Calls.loadGlobal_global (by rw [I.ok.glob]; exact I.mod.glob.keeps I.bk) hm h) hd
theorem ld_blt {E : Value → Shared → Prop} {pins : List (Addr × Obj)} {s : Shared} {σ : St} {H : Hp} {x : Str} {u : Value} {pos : Pos} {Q : Value → Shared → Prop} (I : Inv X pins σ H s) (hg : Gl X x) (hm : X.mg x = none) (hv : bootBuiltins x = some u) (h : Q u s)
    (hn : x ≠ "__name__" := by decide) (hd : (x == ("__debug__" : Str)) = false := by decide) : wpAny (model X.prog X.w) X.A (eval (.Name x pos) X.env) Q E s := by
  obtain ⟨mb, h1, h2⟩ := I.mod.blt
  exact Calls.Name_function_global I.ok.kind hg (Calls.loadGlobal_builtin (by rw [I.ok.glob]; exact I.mod.glob.keeps I.bk) hm (by rw [I.ok.blt]; exact h1.keeps I.bk) ((h2 x hn).trans hv) h) hd
/-- a module's constant, a class, a function, as a value -/
theorem pe_glob {x : Str} {v : V} {u : Value} {pos : Pos} (hg : Gl X x) (hm : X.mg x = some u) (r : RelV v u) (hd : (x == ("__debug__" : Str)) = false := by decide) : PE X (.Name x pos) (tC v) :=
  fun _ _ _ H _ I h => ld_glob I hg hm ⟨v, H, I, r, h⟩ hd
theorem pe_bltn {x : Str} {v : V} {u : Value} {pos : Pos} (hg : Gl X x) (hm : X.mg x = none) (hv : bootBuiltins x = some u) (r : RelV v u) (hn : x ≠ "__name__" := by decide) (hd : (x == ("__debug__" : Str)) = false := by decide) : PE X (.Name x pos) (tC v) :=
  fun _ _ _ H _ I h => ld_blt I hg hm hv ⟨v, H, I, r, h⟩ hn hd

variable {a b : Expr} {ta tb : TE} {pos : Pos}
/-- a comparison as a value, as a test -/
def tB (t : TE) : TT := fun σ H Q => t σ H fun x H1 => ∃ c, x = .bl c ∧ Q c H1
/-- an expression whose value is a bool, as a test -/
theorem pt_val {e : Expr} {t : TE} (h : PE X e t) (he : ∀ whole, isTrue e X.env whole = (do let v ← whole; standAt e.pos; holding [v] (truthy v)) := by intro _; rfl) : PT X e (tB t) := by
  intro pins s σ H Q I hw
  refine isTrue_plain (thn (h pins s σ H _ I hw) fun v s1 ⟨x, H1, I1, r1, q1⟩ => ?_) (he _)
  obtain ⟨d, rfl, q⟩ := q1
  cases r1
  exact wpAny_truthy_bool ⟨H1, I1, q⟩

/-! ### and, or, not -/
variable {tA tB' : TT} {rest : List Expr}
def tAnd (t u : TT) : TT := fun σ H Q => t σ H fun c H1 => if c = true then u σ H1 Q else Q false H1
def tOr (t u : TT) : TT := fun σ H Q => t σ H fun c H1 => if c = true then Q true H1 else u σ H1 Q
def tNot (t : TT) : TT := fun σ H Q => t σ H fun c H1 => Q (!c) H1
theorem pw_and1 (ha : PT X a tA) : PW X (.BoolOp .And [a] pos) tA := by
  intro wh pins s σ H Q I h
  refine isTrue_and (thn (ha pins s σ H Q I h) fun c s1 e => ?_)
  cases c with
  | true => exact isTrue_and_nil e
  | false => exact e
theorem pw_or1 (ha : PT X a tA) : PW X (.BoolOp .Or [a] pos) tA := by
  intro wh pins s σ H Q I h
  refine isTrue_or (thn (ha pins s σ H Q I h) fun c s1 e => ?_)
  cases c with
  | false => exact isTrue_or_nil e
  | true => exact e
theorem pw_and (ha : PT X a tA) (hb : PW X (.BoolOp .And (b :: rest) pos) tB') : PW X (.BoolOp .And (a :: b :: rest) pos) (tAnd tA tB') := by
  intro wh pins s σ H Q I h
  refine isTrue_and (thn (ha pins s σ H _ I h) fun c s1 ⟨H1, I1, q1⟩ => ?_)
  cases c with
  | true => exact hb wh pins s1 σ H1 Q I1 q1
  | false => exact ⟨H1, I1, q1⟩
theorem pw_or (ha : PT X a tA) (hb : PW X (.BoolOp .Or (b :: rest) pos) tB') : PW X (.BoolOp .Or (a :: b :: rest) pos) (tOr tA tB') := by
  intro wh pins s σ H Q I h
  refine isTrue_or (thn (ha pins s σ H _ I h) fun c s1 ⟨H1, I1, q1⟩ => ?_)
  cases c with
  | true => exact ⟨H1, I1, q1⟩
  | false => exact hb wh pins s1 σ H1 Q I1 q1
theorem pt_not (ha : PT X a tA) : PT X (.UnaryOp .Not a pos) (tNot tA) := by
  intro pins s σ H Q I h
  exact isTrue_not (ha pins s σ H (fun c H1 => Q (!c) H1) I h)
/-- .. as values (bools) -/
def tAndV (ta tb : TE) : TE := fun σ H Q => ta σ H fun x H1 => ∃ c, x = .bl c ∧ if c = true then tb σ H1 Q else Q (.bl false) H1
def tNotV (ta : TE) : TE := fun σ H Q => ta σ H fun x H1 => ∃ c, x = .bl c ∧ Q (.bl (!c)) H1
theorem pe_one {op} {t : TE} (h : PE X a t) : PE X (.BoolOp op [a] pos) t := fun pins s σ H Q I hw => BoolOp_one (h pins s σ H Q I hw)
theorem pe_and (ha : PE X a ta) (hb : PE X (.BoolOp .And (b :: rest) pos) tb) : PE X (.BoolOp .And (a :: b :: rest) pos) (tAndV ta tb) := by
  intro pins s σ H Q I h
  refine BoolOp_and (thn (ha pins s σ H _ I h) fun v s1 ⟨x, H1, I1, r1, q1⟩ => ?_)
  obtain ⟨c, rfl, q1⟩ := q1
  cases r1
  refine wpAny_truthy_bool ?_
  cases c with
  | true => exact hb pins s1 σ H1 Q I1 q1
  | false => exact ⟨.bl false, H1, I1, rfl, q1⟩
theorem pe_not (ha : PE X a ta) : PE X (.UnaryOp .Not a pos) (tNotV ta) := by
  intro pins s σ H Q I h
  refine UnaryOp_ (thn (ha pins s σ H _ I h) fun v s1 ⟨x, H1, I1, r1, q1⟩ => ?_)
  obtain ⟨c, rfl, q1⟩ := q1
  cases r1
  exact not_of (wpAny_truthy_bool ⟨.bl (!c), H1, I1, rfl, q1⟩)
end
end L2

namespace L2
open PySem PySem.Spec PyProof.Rows

/-! ### a list, a tuple that is read: tracked, frozen, or an object of the module -/
def SqL (K : PySem.W.Frag) (H : Hp) (a : Addr) (xs : List V) : Prop :=
  Rd H a (.lst xs) ∨
    ∃ (o : Obj) (its : Array Value) (n : Nat), K.lookup a = some o ∧ o.cls = .type "list" ∧ o.dict = none ∧ o.data = .seq its n ∧ its.size ≤ sizeLine ∧ Vals xs its.toList
def SqT (K : PySem.W.Frag) (H : Hp) (a : Addr) (xs : List V) : Prop :=
  Rd H a (.tup xs) ∨
    ∃ (o : Obj) (its : Array Value) (n : Nat), K.lookup a = some o ∧ o.cls = .type "tuple" ∧ o.data = .seq its n ∧ its.size ≤ sizeLine ∧ Vals xs its.toList
def absV : Value → Option V
  | .none => some .non
  | .bool b => some (.bl b)
  | .int i _ => some (.int i)
  | .str x _ => some (.str x)
  | .bytes b _ => some (.byt b)
  | .float b _ => some (.flt b)
  | .ref a => some (.ref a)
  | .type n => some (.ty n)
  | _ => none
theorem RelV.abs {x : V} {u : Value} (r : RelV x u) : absV u = some x := by
  cases x with
  | non => cases r; rfl
  | bl _ => cases r; rfl
  | int _ => obtain ⟨t, rfl⟩ := r; rfl
  | str _ => obtain ⟨t, rfl⟩ := r; rfl
  | byt _ => obtain ⟨t, rfl⟩ := r; rfl
  | flt _ => obtain ⟨t, rfl⟩ := r; rfl
  | ref _ => cases r; rfl
  | ty _ => cases r; rfl
theorem RelV.inj {x y : V} {u : Value} (r : RelV x u) (q : RelV y u) : x = y := Option.some.inj (r.abs.symm.trans q.abs)
theorem Vals.inj : ∀ {xs ys : List V} {us : List Value}, Vals xs us → Vals ys us → xs = ys
  | _, _, _, .nil, .nil => rfl
  | _, _, _, .cons r t, .cons r' t' => by rw [r.inj r', Vals.inj t t']
section
variable {X : Cx} {pins : List (Addr × Obj)} {σ : St} {H : Hp} {s : Shared} {a : Addr} {xs ys : List V}
theorem SqL.of {K : PySem.W.Frag} (h : H a = some (.lst xs)) : SqL K H a xs := .inl (.inl h)
theorem SqT.of {K : PySem.W.Frag} (h : H a = some (.tup xs)) : SqT K H a xs := .inl (.inl h)
theorem Inv.list (I : Inv X pins σ H s) (h : SqL X.K H a xs) : ∃ its : List Value, Vals xs its ∧ PlainL s.heap a its.toArray ∧ xs.length ≤ sizeLine := by
  rcases h with h | ⟨o, its, n, hk, hc, hd, hs, hz, r⟩
  · obtain ⟨z, its, n, r, e⟩ := h.ok I.hok
    exact ⟨its, r, ⟨_, n, e, rfl, rfl, rfl⟩, z⟩
  · refine ⟨its.toList, r, ⟨o, n, I.kIn a o hk, hc, hd, by simpa using hs⟩, ?_⟩
    have e := r.length
    simp only [Array.length_toList] at e
    omega
theorem Inv.tuple (I : Inv X pins σ H s) (h : SqT X.K H a xs) : ∃ its : List Value, Vals xs its ∧ IsTup s.heap a its.toArray ∧ xs.length ≤ sizeLine := by
  rcases h with h | ⟨o, its, n, hk, hc, hs, hz, r⟩
  · obtain ⟨z, its, r, p⟩ := h.ok I.hok
    exact ⟨its, r, p, z⟩
  · refine ⟨its.toList, r, ⟨o, I.kIn a o hk, hc, n, by simpa using hs⟩, ?_⟩
    have e := r.length
    simp only [Array.length_toList] at e
    omega
theorem Inv.list_inj (I : Inv X pins σ H s) (h : SqL X.K H a xs) (h' : SqL X.K H a ys) : xs = ys := by
  obtain ⟨its, r, ⟨o, n, e, _, _, d⟩, _⟩ := I.list h
  obtain ⟨its', r', ⟨o', n', e', _, _, d'⟩, _⟩ := I.list h'
  rw [e] at e'; cases e'
  rw [d] at d'
  injection d' with d1 _
  have : its = its' := by simpa using congrArg Array.toList d1
  subst this
  exact r.inj r'
theorem Inv.tuple_inj (I : Inv X pins σ H s) (h : SqT X.K H a xs) (h' : SqT X.K H a ys) : xs = ys := by
  obtain ⟨its, r, ⟨o, e, _, n, d⟩, _⟩ := I.tuple h
  obtain ⟨its', r', ⟨o', e', _, n', d'⟩, _⟩ := I.tuple h'
  rw [e] at e'; cases e'
  rw [d] at d'
  injection d' with d1 _
  have : its = its' := by simpa using congrArg Array.toList d1
  subst this
  exact r.inj r'
end

/-! ### another wish about exceptions -/
abbrev Cx.wish (X : Cx) (E : Value → Shared → Prop) : Cx := { X with xe := E }
/-- no exception leaves -/
abbrev Cx.nox (X : Cx) : Cx := X.wish fun _ _ => False
theorem Cx.Ok.wish {X : Cx} (ok : X.Ok) (E : Value → Shared → Prop) : (X.wish E).Ok :=
  ⟨ok.mod, ok.kind, ok.glob, ok.blt, ok.above, ok.inj, ok.has, ok.cab, ok.hd, ok.frames, ok.stk, ok.exf, ok.bs, ok.bsz, ok.noex, ok.exfs, ok.funs, ok.frf⟩
theorem Cx.Ok.unwish {X : Cx} {E : Value → Shared → Prop} (ok : (X.wish E).Ok) : X.Ok :=
  ⟨ok.mod, ok.kind, ok.glob, ok.blt, ok.above, ok.inj, ok.has, ok.cab, ok.hd, ok.frames, ok.stk, ok.exf, ok.bs, ok.bsz, ok.noex, ok.exfs, ok.funs, ok.frf⟩
section
variable {X : Cx} {pins : List (Addr × Obj)} {σ : St} {H : Hp} {s : Shared} {E : Value → Shared → Prop}
theorem Inv.wish (I : Inv X pins σ H s) (E : Value → Shared → Prop) : Inv (X.wish E) pins σ H s := ⟨I.ok.wish E, I.os, I.bare, I.base, I.loc, I.cell, I.free, I.freeC, I.pin, I.hok, I.len⟩
theorem Inv.unwish (I : Inv (X.wish E) pins σ H s) : Inv X pins σ H s := ⟨I.ok.unwish, I.os, I.bare, I.base, I.loc, I.cell, I.free, I.freeC, I.pin, I.hok, I.len⟩
theorem SP.unwish {D : Ends} {f : Flow} {s' : Shared} (h : SP (X.wish E) pins D f s') : SP X pins D f s' := by
  cases f with
  | next => obtain ⟨σ', H', I, q⟩ := h; exact ⟨σ', H', I.unwish, q⟩
  | brk => obtain ⟨σ', H', I, q⟩ := h; exact ⟨σ', H', I.unwish, q⟩
  | cont => obtain ⟨σ', H', I, q⟩ := h; exact ⟨σ', H', I.unwish, q⟩
  | ret u => obtain ⟨v, σ', H', I, r, q⟩ := h; exact ⟨v, σ', H', I.unwish, r, q⟩
theorem PE.nox {e : Expr} {t : TE} (h : PE X.nox e t) : PE X e t := fun pins s σ H Q I hw =>
  wpAny_mono (h pins s σ H Q (I.wish _) hw) (fun _ _ ⟨v, H', I', r, q⟩ => ⟨v, H', I'.unwish, r, q⟩) fun _ _ z => False.elim z
theorem PT.nox {e : Expr} {t : TT} (h : PT X.nox e t) : PT X e t := fun pins s σ H Q I hw =>
  wpAny_mono (h pins s σ H Q (I.wish _) hw) (fun _ _ ⟨H', I', q⟩ => ⟨H', I'.unwish, q⟩) fun _ _ z => False.elim z
theorem PSs.nox {st : List Stmt} {t : TS} (h : PSs X.nox st t) : PSs X st t := fun pins s σ H D I hw =>
  wpAny_mono (h pins s σ H D (I.wish _) hw) (fun _ _ q => q.unwish) fun _ _ z => False.elim z
end

/-! ### blocks and small statements -/
section
variable {X : Cx} {st : Stmt} {rest : List Stmt} {t u : TS} {e : Expr} {te : TE} {pos : Pos}
def tNext : TS := fun D σ H => D.nx σ H
def tSeq (t u : TS) : TS := fun D σ H => t { D with nx := u D } σ H
theorem pss_nil : PSs X [] tNext := fun _ _ σ H _ I h => wpAny_execs_nil ⟨σ, H, I, h⟩
theorem pss_cons (h1 : PS X st t) (h2 : PSs X rest u) : PSs X (st :: rest) (tSeq t u) := by
  intro pins s σ H D I h
  refine wpAny_execs_cons (thn (h1 pins s σ H { D with nx := u D } I h) fun f s1 q => ?_)
  cases f with
  | next =>
    obtain ⟨σ', H', I', q⟩ := q
    exact h2 pins s1 σ' H' D I' q
  | ret v => exact q
  | brk => exact q
  | cont => exact q
theorem pss_one (h1 : PS X st t) : PSs X [st] t := by
  intro pins s σ H D I h
  refine wpAny_execs_cons (thn (h1 pins s σ H D I h) fun f s1 q => ?_)
  cases f with
  | next => exact wpAny_execs_nil q
  | ret v => exact q
  | brk => exact q
  | cont => exact q
/-- in a def's body nothing is shown -/
theorem Inv.quiet {pins : List (Addr × Obj)} {σ : St} {H : Hp} {s : Shared} (I : Inv X pins σ H s) : interactive X.env = false := by simp [interactive, I.ok.kind]
/-- an expression whose value is dropped -/
def tDrop (te : TE) : TS := fun D σ H => te σ H fun _ H1 => D.nx σ H1
theorem ps_expr (he : PE X e te) (hs : swapsWith e none pos.line X.env = pure false := by rfl) : PS X (.Expr e pos) (tDrop te) := by
  intro pins s σ H D I h
  exact wpAny_Expr_any (thn (he pins s σ H _ I h) fun v s1 ⟨x, H1, I1, r1, q1⟩ => ⟨σ, H1, I1, q1⟩) I.quiet hs
def tRet (te : TE) : TS := fun D σ H => te σ H D.rt
theorem ps_ret (he : PE X e te) : PS X (.Return (some e) pos) (tRet te) := by
  intro pins s σ H D I h
  exact wpAny_Return_some (thn (he pins s σ H _ I h) fun v s1 ⟨x, H1, I1, r1, q1⟩ => ⟨x, σ, H1, I1, r1, q1⟩)
def tIfS (c : TT) (t u : TS) : TS := fun D σ H => c σ H fun b H1 => if b = true then t D σ H1 else u D σ H1
theorem ps_if {c : Expr} {a b : List Stmt} {tc : TT} (hc : PT X c tc) (ha : PSs X a t) (hb : PSs X b u) : PS X (.If c a b pos) (tIfS tc t u) := by
  intro pins s σ H D I h
  refine wpAny_If (thn (hc pins s σ H _ I h) fun d s1 ⟨H1, I1, q1⟩ => ?_)
  cases d with
  | true => exact ha pins s1 σ H1 D I1 q1
  | false => exact hb pins s1 σ H1 D I1 q1
end

/-! ### targets -/
abbrev TG := V → St → Hp → (St → Hp → Prop) → Prop
abbrev TGs := List V → St → Hp → (St → Hp → Prop) → Prop
def PG (X : Cx) (target : Expr) (t : TG) : Prop :=
  ∀ (pins : List (Addr × Obj)) (s : Shared) (σ : St) (H : Hp) (v : V) (u : Value) (Q : St → Hp → Prop), Inv X pins σ H s → RelV v u → t v σ H Q →
    wpAny (model X.prog X.w) X.A (assign target X.env u) (fun _ s' => ∃ σ' H', Inv X pins σ' H' s' ∧ Q σ' H') X.xe s
/-- several targets, one after another -/
def PGs (X : Cx) (ts : List Expr) (t : TGs) : Prop :=
  ∀ (pins : List (Addr × Obj)) (s : Shared) (σ : St) (H : Hp) (vs : List V) (us : List Value) (Q : St → Hp → Prop), Inv X pins σ H s → Vals vs us → t vs σ H Q →
    wpAny (model X.prog X.w) X.A (assignInOrder ((assignEach ts X.env).map (·.2)) us) (fun _ s' => ∃ σ' H', Inv X pins σ' H' s' ∧ Q σ' H') X.xe s
/-- o[i] = v, by values -/
abbrev TSet := V → V → V → Hp → (Hp → Prop) → Prop
def PSet (X : Cx) (t : TSet) : Prop :=
  ∀ (pins : List (Addr × Obj)) (s : Shared) (σ : St) (H : Hp) (o i v : V) (ov iv u : Value) (Q : Hp → Prop), Inv X pins σ H s → RelV o ov → RelV i iv → RelV v u → t o i v H Q →
    wpAny (model X.prog X.w) X.A (setItem ov iv u) (fun _ s' => ∃ H', Inv X pins σ H' s' ∧ Q H') X.xe s
section
variable {X : Cx} {pos : Pos}
def gName (i : Nat) : TG := fun v σ H Q => Q (σ.set i (some v)) H
theorem pg_name {i : Nat} {x : Str} (hN : X.N.Nodup) (hi : X.N[i]? = some x) (hx : Loc X.env.scope x) (hf : X.fn x = true ∨ X.env.scope.names.lookup x = some .local := by first | exact .inl rfl | exact .inr rfl | assumption) : PG X (.Name x pos) (gName i) := by
  intro pins s σ H v u Q I r h
  exact wpAny_assign_Name (store_ok I hN hi hx r (fun s' I' => ⟨_, H, I', h⟩) hf)
def gNil : TGs := fun vs σ H Q => vs = [] ∧ Q σ H
def gCons (t : TG) (u : TGs) : TGs := fun vs σ H Q => ∃ v r, vs = v :: r ∧ t v σ H fun σ' H' => u r σ' H' Q
theorem pgs_nil : PGs X [] gNil := by
  intro pins s σ H vs us Q I r h
  obtain ⟨e, h⟩ := h
  subst e
  cases r
  exact assignInOrder_nil ⟨σ, H, I, h⟩
theorem pgs_cons {e : Expr} {es : List Expr} {t : TG} {u : TGs} (h1 : PG X e t) (h2 : PGs X es u)
    (hs : (assignEach (e :: es) X.env).map (·.2) = assign e X.env :: (assignEach es X.env).map (·.2) := by rfl) : PGs X (e :: es) (gCons t u) := by
  intro pins s σ H vs us Q I r h
  obtain ⟨v, vr, e1, h⟩ := h
  subst e1
  cases r with
  | cons r rr =>
    rw [hs]
    refine assignInOrder_cons (thn (h1 pins s σ H _ _ _ I r h) fun _ s1 ⟨σ1, H1, I1, q1⟩ => ?_)
    exact h2 pins s1 σ1 H1 _ _ Q I1 rr q1
/-- (a, b, ..) = a tuple of that length -/
def gTup (K : PySem.W.Frag) (n : Nat) (t : TGs) : TG := fun v σ H Q => ∃ a xs, v = .ref a ∧ SqT K H a xs ∧ xs.length = n ∧ t xs σ H Q
theorem pg_tup {es : List Expr} {k : Nat} {t : TGs} {n : Nat} (hc : X.calm = true) (h : PGs X es t)
    (hn : (assignEach es X.env).length = n := by rfl) (hst : (assignEach es X.env).findIdx? (·.1) = none := by rfl) : PG X (.Tuple es k pos) (gTup X.K n t) := by
  intro pins s σ H v u Q I r hw
  obtain ⟨a, xs, e1, hq, hl, hw⟩ := hw
  subst e1
  cases r
  obtain ⟨its, rv, ht, hz⟩ := I.tuple hq
  refine assign_Tuple_tuple (I.ok.hd hc) ht (by simp [hn, ← hl, rv.length]) hst fun h' hx => ?_
  have I1 : Inv X pins σ H { s with heap := h' } := I.kept (t' := s.toks) fun b o e => hx b o (Nat.ne_of_lt (Heap.lt_size e)) e
  exact h pins _ σ H xs _ Q I1 (by simpa using rv) hw
/-- o[i] = .. -/
def gSub (to ti : TE) (t : TSet) : TG := fun v σ H Q => to σ H fun o H1 => ti σ H1 fun i H2 => t o i v H2 fun H3 => Q σ H3
theorem pg_sub {o i : Expr} {to ti : TE} {t : TSet} (ho : PE X o to) (hi : PE X i ti) (hs : PSet X t)
    (ha : ∀ v, assign (.Subscript o i pos) X.env v = (do
      let ov ← holding [v] (eval o X.env)
      let iv ← holding [v, ov] (eval i X.env)
      standAt pos
      holding [v, ov, iv] (setItem ov iv v)
      release [v, ov, iv] []) := by intro _; rfl) : PG X (.Subscript o i pos) (gSub to ti t) := by
  intro pins s σ H v u Q I r h
  rw [ha]
  refine wpAny_bind (wpAny_holding (thn (ho pins s σ H _ I h) fun ov s1 ⟨x, H1, I1, r1, q1⟩ => ?_))
  refine wpAny_bind (wpAny_holding (thn (hi pins s1 σ H1 _ I1 q1) fun iv s2 ⟨y, H2, I2, r2, q2⟩ => ?_))
  refine wpAny_bind (wpAny_standAt (wpAny_bind (wpAny_holding (thn (hs pins s2 σ H2 x y v ov iv u _ I2 r1 r2 r q2) fun _ s3 ⟨H3, I3, q3⟩ => ?_))))
  exact wpAny_release ⟨σ, H3, I3, q3⟩
/-- target = value -/
def tAsg (te : TE) (g : TG) : TS := fun D σ H => te σ H fun x H1 => g x σ H1 D.nx
theorem ps_asg {tg e : Expr} {te : TE} {g : TG} (he : PE X e te) (hg : PG X tg g) (hs : swapsWithSole [tg] e pos.line X.env = pure false := by rfl) (hw : swappedStores [tg] e X.env = pure none := by rfl)
    (h1 : (assignEach [tg] X.env).map (·.2) = [assign tg X.env] := by rfl) : PS X (.Assign [tg] e pos) (tAsg te g) := by
  intro pins s σ H D I h
  refine wpAny_Assign_stores (thn (he pins s σ H _ I h) fun v s1 ⟨x, H1, I1, r1, q1⟩ => ?_) hs hw
  rw [h1]
  exact thn (hg pins s1 σ H1 x v _ I1 r1 q1) fun _ s2 q => q
/-- name = value -/
theorem ps_set {i : Nat} {x : Str} {e : Expr} {te : TE} {pos' : Pos} (hN : X.N.Nodup) (hi : X.N[i]? = some x) (hx : Loc X.env.scope x) (he : PE X e te) (hs : swapsWith e (some (.Name x pos')) pos.line X.env = pure false := by rfl) (hf : X.fn x = true ∨ X.env.scope.names.lookup x = some .local := by first | exact .inl rfl | exact .inr rfl | assumption) :
    PS X (.Assign [.Name x pos'] e pos) (tAsg te (gName i)) := by
  intro pins s σ H D I h
  refine wpAny_Assign_Name (thn (he pins s σ H _ I h) fun v s1 ⟨y, H1, I1, r1, q1⟩ => ?_) hs
  exact store_ok I1 hN hi hx r1 (fun s2 I2 => ⟨_, H1, I2, q1⟩) hf
end

/-! ### while -/
section
variable {X : Cx} {pos : Pos}
end

/-! ### what a loop or a comprehension walks -/
/-- at turn i: it yields x (the heap may grow), or it stops -/
structure It where
  go : Nat → Hp → Prop
  yld : Nat → Hp → V → Hp → Prop
  stop : Nat → Hp → Prop
/-- the iterator's own objects may turn: they are not the frame's, not pinned, younger than the entry (or a comprehension's own) -/
def FpOk (X : Cx) (pins : List (Addr × Obj)) (H : Hp) (b : Addr) : Prop :=
  H b = none ∧ b ≠ X.env.locals ∧ b ∉ X.fs ∧ (b ∈ X.ex ∨ X.s₀.heap.objs.size ≤ b) ∧ (∀ x c, X.env.cells.lookup x = some c → c ≠ b) ∧ ∀ p ∈ X.pn ++ pins, p.1 ≠ b
theorem Inv.fpOk {X : Cx} {pins : List (Addr × Obj)} {σ : St} {H H' : Hp} {s : Shared} {b : Addr} (I : Inv X pins σ H s) (hb : s.heap.objs.size ≤ b) (hn : H' b = none) : FpOk X pins H' b := by
  refine ⟨hn, Nat.ne_of_gt (Nat.lt_of_lt_of_le I.lt hb), I.nofs hb, .inr (Nat.le_trans I.sz hb), fun x c e z => ?_, fun p hp z => ?_⟩
  · obtain ⟨v, q⟩ := I.cell x c e
    exact absurd (Nat.lt_of_lt_of_le q.lt (by rw [z]; exact hb)) (Nat.lt_irrefl _)
  · exact absurd (Nat.lt_of_lt_of_le (Heap.lt_size (I.pin p hp).1) (by rw [z]; exact hb)) (Nat.lt_irrefl _)
structure Turn (P : Program) (w : World) (K : PySem.W.Frag) (tg : Expr) (J : It) (fp : List Addr) (it : Addr) (tn : Nat → Heap → Prop) : Prop where
  mem : it ∈ fp
  obj : ∀ i h, tn i h → ∀ b ∈ fp, ∃ o, h.get? b = some o ∧ ∀ v, o.data ≠ .cell v
  keep : ∀ i h h', tn i h → (∀ b ∈ fp, ∀ o, h.get? b = some o → h'.get? b = some o) → tn i h'
  item : ∀ (X : Cx), X.prog = P → X.w = w → X.K = K → X.calm = true → ∀ (i : Nat) (pins : List (Addr × Obj)) (s : Shared) (σ : St) (H : Hp) (E : Value → Shared → Prop), Inv X pins σ H s → (∀ b ∈ fp, FpOk X pins H b) → tn i s.heap → J.go i H →
    wpAny (model P w) X.A (pyNext (.ref it)) (fun r s1 => ∃ u, r = some u ∧
      wpAny (model P w) X.A (letOwnedTupleGo tg (.ref it) u) (fun _ s2 => ∃ x H', Inv X pins σ H' s2 ∧ RelV x u ∧ J.yld i H x H' ∧ tn (i + 1) s2.heap ∧ ∀ b ∈ fp, H' b = none) E s1) E s
  done : ∀ (X : Cx), X.prog = P → X.w = w → X.K = K → X.calm = true → ∀ (i : Nat) (pins : List (Addr × Obj)) (s : Shared) (σ : St) (H : Hp) (E : Value → Shared → Prop), Inv X pins σ H s → (∀ b ∈ fp, FpOk X pins H b) → tn i s.heap → J.stop i H →
    wpAny (model P w) X.A (pyNext (.ref it)) (fun r s1 => r = none ∧ Inv X pins σ H s1) E s
  self : ∀ (A : Around) (i : Nat) (s : Shared) (Q : Value → Shared → Prop) (E : Value → Shared → Prop), tn i s.heap → Q (.ref it) s → wpAny (model P w) A (pyIter (.ref it)) Q E s
abbrev TI := St → Hp → (It → Hp → Prop) → Prop
/-- an iterator has come -/
def PIE (X : Cx) (pins : List (Addr × Obj)) (σ : St) (tg : Expr) (R : It → Hp → Prop) (itv : Value) (s2 : Shared) : Prop :=
  ∃ (it : Addr) (fp : List Addr) (tn : Nat → Heap → Prop) (J : It) (H' : Hp), itv = .ref it ∧ Inv X pins σ H' s2 ∧ Turn X.prog X.w X.K tg J fp it tn ∧ tn 0 s2.heap ∧ (∀ b ∈ fp, FpOk X pins H' b) ∧ R J H'
def PI (X : Cx) (tg iter : Expr) (wi : TI) : Prop :=
  ∀ (pins : List (Addr × Obj)) (s : Shared) (σ : St) (H : Hp) (R : It → Hp → Prop), Inv X pins σ H s → wi σ H R →
    wpAny (model X.prog X.w) X.A (eval iter X.env) (fun v s1 => wpAny (model X.prog X.w) X.A (pyIter v) (PIE X pins σ tg R) X.xe s1) X.xe s

/-- the step ahead of the store is nothing for an iterator that keeps no tuple -/
theorem go_of {M : Model} {A : Around} {E : Value → Shared → Prop} {s : Shared} {tg : Expr} {it : Addr} {u : Value} {o : Obj} {n : String} {vs : Array Value} {Q : Unit → Shared → Prop} (ho : s.heap.get? it = some o) (hc : o.cls = .type n) (hd : o.data = .fields vs)
    (hn : ["enumerate", "zip", "dict_itemiterator", "dict_reverseitemiterator", "odict_iterator", "itertools.zip_longest", "itertools.pairwise"].contains n = false) (hQ : Q () s) : wpAny M A (letOwnedTupleGo tg (.ref it) u) Q E s := by
  unfold letOwnedTupleGo
  cases tg <;> first
    | exact wpAny_pure hQ
    | (cases u <;> first
        | exact wpAny_pure hQ
        | (refine wpAny_bind (wpAny_load ho ?_)
           rw [hc, hd]
           show wpAny M A (if (["enumerate", "zip", "dict_itemiterator", "dict_reverseitemiterator", "odict_iterator", "itertools.zip_longest", "itertools.pairwise"].contains n && vs[0]? == some (rawInt _)) = true then _ else _) Q E s
           rw [if_neg (by intro h; rw [hn, Bool.false_and] at h; cases h)]
           exact wpAny_pure hQ))

/-- the list at a, as it stands at each turn (a loop may append to it) -/
def Itl (K : PySem.W.Frag) (a : Addr) : It :=
  ⟨fun i H => ∃ xs x, SqL K H a xs ∧ xs[i]? = some x, fun i H x H' => H' = H ∧ ∀ xs, SqL K H a xs → xs[i]? = some x, fun i H => ∃ xs, SqL K H a xs ∧ xs.length ≤ i⟩
def Itt (K : PySem.W.Frag) (a : Addr) : It :=
  ⟨fun i H => ∃ xs x, SqT K H a xs ∧ xs[i]? = some x, fun i H x H' => H' = H ∧ ∀ xs, SqT K H a xs → xs[i]? = some x, fun i H => ∃ xs, SqT K H a xs ∧ xs.length ≤ i⟩
/-- lo, lo + 1, .. (n of them) -/
def Itr (lo : Int) (n : Nat) : It := ⟨fun i _ => i < n, fun i H x H' => H' = H ∧ x = .int (lo + i), fun i _ => n ≤ i⟩
theorem turn_list {P : Program} {w : World} {K : PySem.W.Frag} {tg : Expr} (a it : Addr) : Turn P w K tg (Itl K a) [it] it (fun i h => h.IsListIter it a i) where
  mem := by simp
  obj := fun i h st b hb => by
    have e : b = it := by simpa using hb
    subst e
    obtain ⟨o, e, c, d⟩ := st
    exact ⟨o, e, fun v z => by rw [d] at z; cases z⟩
  keep := fun i h h' st k => st.at fun o e => k it (by simp) o e
  item := by
    intro X hP hw hK hc i pins s σ H E I hf st hg
    subst hP hw hK
    obtain ⟨xs, x, hq, hx⟩ := hg
    obtain ⟨its, rv, p, hz⟩ := I.list hq
    obtain ⟨u, hu, ru⟩ := rv.get hx
    obtain ⟨f0, f1, f2, f3, f4, f5⟩ := hf it (by simp)
    refine wpAny_pyNext_list_item st p.isList (x := u) (by simpa using hu) fun h' st' sb => ?_
    have I1 : Inv X pins σ H { s with heap := h' } := I.turned (t' := s.toks) (fun b o hb e => (sb.2 b hb).trans e) f0 f1 f3 f4 f5
    obtain ⟨o, e, c, d⟩ := id st'
    exact ⟨u, rfl, go_of (s := { s with heap := h' }) e c d (by decide) ⟨x, H, I1, ru, ⟨rfl, fun ys hy => by rw [I.list_inj hy hq]; exact hx⟩, st', fun b hb => (hf b hb).1⟩⟩
  done := by
    intro X hP hw hK hc i pins s σ H E I hf st hg
    subst hP hw hK
    obtain ⟨xs, hq, hx⟩ := hg
    obtain ⟨its, rv, p, hz⟩ := I.list hq
    obtain ⟨f0, f1, f2, f3, f4, f5⟩ := hf it (by simp)
    have hl := rv.length
    exact wpAny_pyNext_list_end (I.ok.hd hc) st p.isList (by simp; omega) fun h' eb => ⟨rfl, I.turned (t' := s.toks) (fun b o hb e => eb b o hb e) f0 f1 f3 f4 f5⟩
  self := fun _ _ _ _ _ st h => wpAny_pyIter_listiter st h
theorem turn_tuple {P : Program} {w : World} {K : PySem.W.Frag} {tg : Expr} (a it : Addr) : Turn P w K tg (Itt K a) [it] it (fun i h => h.IsTupleIter it a i) where
  mem := by simp
  obj := fun i h st b hb => by
    have e : b = it := by simpa using hb
    subst e
    obtain ⟨o, e, c, d⟩ := st
    exact ⟨o, e, fun v z => by rw [d] at z; cases z⟩
  keep := fun i h h' st k => st.at fun o e => k it (by simp) o e
  item := by
    intro X hP hw hK hc i pins s σ H E I hf st hg
    subst hP hw hK
    obtain ⟨xs, x, hq, hx⟩ := hg
    obtain ⟨its, rv, p, hz⟩ := I.tuple hq
    obtain ⟨u, hu, ru⟩ := rv.get hx
    obtain ⟨f0, f1, f2, f3, f4, f5⟩ := hf it (by simp)
    refine wpAny_pyNext_tuple_item st (show s.heap.IsTuple a its.toArray from p) (x := u) (by simpa using hu) fun h' st' sb => ?_
    have I1 : Inv X pins σ H { s with heap := h' } := I.turned (t' := s.toks) (fun b o hb e => (sb.2 b hb).trans e) f0 f1 f3 f4 f5
    obtain ⟨o, e, c, d⟩ := id st'
    exact ⟨u, rfl, go_of (s := { s with heap := h' }) e c d (by decide) ⟨x, H, I1, ru, ⟨rfl, fun ys hy => by rw [I.tuple_inj hy hq]; exact hx⟩, st', fun b hb => (hf b hb).1⟩⟩
  done := by
    intro X hP hw hK hc i pins s σ H E I hf st hg
    subst hP hw hK
    obtain ⟨xs, hq, hx⟩ := hg
    obtain ⟨its, rv, p, hz⟩ := I.tuple hq
    obtain ⟨f0, f1, f2, f3, f4, f5⟩ := hf it (by simp)
    have hl := rv.length
    exact wpAny_pyNext_tuple_end (I.ok.hd hc) st (show s.heap.IsTuple a its.toArray from p) (by simp; omega) fun h' eb => ⟨rfl, I.turned (t' := s.toks) (fun b o hb e => eb b o hb e) f0 f1 f3 f4 f5⟩
  self := fun _ _ _ _ _ st h => wpAny_pyIter_tupleiter st h
theorem turn_range {P : Program} {w : World} {K : PySem.W.Frag} {tg : Expr} (it : Addr) (lo : Int) (n : Nat) : Turn P w K tg (Itr lo n) [it] it (fun i h => IsRangeIter h it (lo + (i : Nat) * 1) ((n : Int) - (i : Nat)) 1) where
  mem := by simp
  obj := fun i h st b hb => by
    have e : b = it := by simpa using hb
    subst e
    exact ⟨_, st, fun v z => by
      have z' : Data.fields _ = Data.cell v := z
      cases z'⟩
  keep := fun i h h' st k => k it (by simp) _ st
  item := by
    intro X hP hw hK hc i pins s σ H E I hf st hg
    subst hP hw hK
    obtain ⟨f0, f1, f2, f3, f4, f5⟩ := hf it (by simp)
    have W := Walks.range (prog := X.prog) (w := X.w) (I.ok.hd hc) it lo 1 n
    refine W.item i s _ _ hg st fun v h' tk hv st' kk => ?_
    obtain ⟨t, rfl⟩ := hv
    have I1 : Inv X pins σ H { s with heap := h', toks := tk } := I.turned (fun b o hb e => kk b o (by simpa using hb) e) f0 f1 f3 f4 f5
    refine ⟨_, rfl, go_of (s := { s with heap := h', toks := tk }) (n := "range_iterator") st' rfl rfl (by decide) ⟨.int (lo + i), H, I1, ⟨t, ?_⟩, ⟨rfl, rfl⟩, st', fun b hb => (hf b hb).1⟩⟩
    rw [Int.mul_one]
  done := by
    intro X hP hw hK hc i pins s σ H E I hf st hg
    subst hP hw hK
    obtain ⟨f0, f1, f2, f3, f4, f5⟩ := hf it (by simp)
    exact wpAny_pyNext_range_end (I.ok.hd hc) st (by have : n ≤ i := hg; omega) fun h' eb => ⟨rfl, I.turned (t' := s.toks) (fun b o hb e => eb b o hb e) f0 f1 f3 f4 f5⟩
  self := fun _ _ _ _ _ st h => wpAny_pyIter_rangeiter st h
end L2

namespace L2
open PySem PySem.Spec PyProof.Rows
section
variable {X : Cx} {tg : Expr}
def iList (K : PySem.W.Frag) (tl : TE) : TI := fun σ H R => tl σ H fun x H1 => ∃ a, x = .ref a ∧ (∃ xs, SqL K H1 a xs) ∧ R (Itl K a) H1
def iTup (K : PySem.W.Frag) (tl : TE) : TI := fun σ H R => tl σ H fun x H1 => ∃ a, x = .ref a ∧ (∃ xs, SqT K H1 a xs) ∧ R (Itt K a) H1
theorem pi_list {l : Expr} {tl : TE} (hl : PE X l tl) : PI X tg l (iList X.K tl) := by
  intro pins s σ H R I h
  refine thn (hl pins s σ H _ I h) fun v s1 ⟨x, H1, I1, r1, q1⟩ => ?_
  obtain ⟨a, e, ⟨xs, hq⟩, q⟩ := q1
  subst e
  cases r1
  obtain ⟨its, rv, p, hz⟩ := I1.list hq
  refine wpAny_pyIter_list p.isList ?_
  refine ⟨s1.heap.objs.size, [s1.heap.objs.size], _, _, H1, rfl, I1.kept (t' := s1.toks) fun b o e => Heap.get?_push_of_some _ e, turn_list a _, ⟨_, Heap.get?_push_size _ rfl, rfl, rfl⟩, fun b hb => ?_, q⟩
  have e : b = s1.heap.objs.size := by simpa using hb
  subst e
  exact I1.fpOk (Nat.le_refl _) (I1.hok.fresh (Nat.le_refl _))
theorem pi_tup {l : Expr} {tl : TE} (hl : PE X l tl) : PI X tg l (iTup X.K tl) := by
  intro pins s σ H R I h
  refine thn (hl pins s σ H _ I h) fun v s1 ⟨x, H1, I1, r1, q1⟩ => ?_
  obtain ⟨a, e, ⟨xs, hq⟩, q⟩ := q1
  subst e
  cases r1
  obtain ⟨its, rv, p, hz⟩ := I1.tuple hq
  refine wpAny_pyIter_tuple (show s1.heap.IsTuple a its.toArray from p) ?_
  refine ⟨s1.heap.objs.size, [s1.heap.objs.size], _, _, H1, rfl, I1.kept (t' := s1.toks) fun b o e => Heap.get?_push_of_some _ e, turn_tuple a _, ⟨_, Heap.get?_push_size _ rfl, rfl, rfl⟩, fun b hb => ?_, q⟩
  have e : b = s1.heap.objs.size := by simpa using hb
  subst e
  exact I1.fpOk (Nat.le_refl _) (I1.hok.fresh (Nat.le_refl _))
/-- a range object just made, walked -/
theorem range_it {pins : List (Addr × Obj)} {σ : St} {H : Hp} {s : Shared} {R : It → Hp → Prop} {E : Value → Shared → Prop} {lo hi : Int} {t u v : Tok} {tk : Nat} (I : Inv X pins σ H s) (h1 : -(2 ^ 62) ≤ lo) (h2 : lo < 2 ^ 62) (h3 : -(2 ^ 62) ≤ hi) (h4 : hi < 2 ^ 62)
    (q : R (Itr lo (hi - lo).toNat) H) : wpAny (model X.prog X.w) X.A (pyIter (.ref s.heap.objs.size)) (PIE X pins σ tg R) E { s with heap := s.heap.push { cls := .type "range", data := .fields #[.int lo t, .int hi u, .int 1 v] }, toks := tk } := by
  refine wpAny_pyIter_range (IsRange.new ..) (small_one h1 h2 h3 h4) ?_
  have I1 : Inv X pins σ H { s with heap := s.heap.push { cls := .type "range", data := .fields #[.int lo t, .int hi u, .int 1 v] }, toks := tk } := I.kept fun b o e => Heap.get?_push_of_some _ e
  refine ⟨(s.heap.push { cls := .type "range", data := .fields #[.int lo t, .int hi u, .int 1 v] }).objs.size, [(s.heap.push { cls := .type "range", data := .fields #[.int lo t, .int hi u, .int 1 v] }).objs.size], _, _, H, rfl,
    I1.kept (t' := tk) fun b o e => Heap.get?_push_of_some _ e, turn_range _ lo (hi - lo).toNat, ?_, fun b hb => ?_, q⟩
  · have e1 : lo + ((0 : Nat) : Int) * 1 = lo := by simp
    have e2 : (((hi - lo).toNat : Nat) : Int) - ((0 : Nat) : Int) = Builtin.Range.rangeSize lo hi 1 := by rw [rangeSize_one]; split <;> omega
    show IsRangeIter _ _ (lo + ((0 : Nat) : Int) * 1) ((((hi - lo).toNat : Nat) : Int) - ((0 : Nat) : Int)) 1
    rw [e1, e2]
    exact Heap.get?_push_size _ rfl
  · have e : b = (s.heap.push { cls := .type "range", data := .fields #[.int lo t, .int hi u, .int 1 v] }).objs.size := by simpa using hb
    subst e
    exact I1.fpOk (Nat.le_refl _) (I1.hok.fresh (Nat.le_refl _))
def iRng1 (ta : TA) : TI := fun σ H R => ta σ H fun vs H1 => ∃ j : Int, vs = [.int j] ∧ -(2 ^ 62) ≤ j ∧ j < 2 ^ 62 ∧ R (Itr 0 j.toNat) H1
theorem pi_range1 {a : Expr} {ta : TA} {p pos : Pos} (hg : Gl X "range") (hm : X.mg "range" = none) (ha : PA X [a] ta) (hs : starEach [a] X.env = [(false, eval a X.env)] := by rfl) : PI X tg (.Call (.Name "range" p) [a] [] pos) (iRng1 ta) := by
  intro pins s σ H R I h
  refine Call_ (ld_blt I hg hm boot_range (PyProof.Rows.callWith_type1 (thn (ha pos pins s σ H _ I h) fun us s1 ⟨vs, H1, I1, r1, q1⟩ => ?_) hs rfl))
  obtain ⟨j, e, q1, q2, q⟩ := q1
  subst e
  cases r1 with
  | cons r rr =>
    cases rr
    obtain ⟨t, rfl⟩ := r
    exact call_range_1 (range_it I1 (by omega) (by omega) q1 q2 (by simpa using q))
/-! ### for -/
/-- W: the invariant by the turn and a measure; N: what the body is to reach -/
def tFor (wi : TI) (g : TG) (tb : TS) : TS := fun D σ H => wi σ H fun J H1 => ∃ W : Nat → Nat → St → Hp → Prop, (∃ m, W 0 m σ H1) ∧ ∀ i m σ H, W i m σ H →
  (J.stop i H ∧ D.nx σ H) ∨ (J.go i H ∧ ∃ N : St → Hp → Prop, (∀ σ' H', N σ' H' → ∃ m', m' < m ∧ W (i + 1) m' σ' H') ∧ ∀ x H', J.yld i H x H' → g x σ H' fun σ2 H2 => tb { D with nx := N, ct := N, bk := D.nx } σ2 H2)
/-- the records at fp as they stand -/
def pinsAt (fp : List Addr) (h : Heap) : List (Addr × Obj) := fp.filterMap fun b => (h.get? b).map fun o => (b, o)
theorem mem_pinsAt {fp : List Addr} {h : Heap} {b : Addr} {o : Obj} (hb : b ∈ fp) (e : h.get? b = some o) : (b, o) ∈ pinsAt fp h := List.mem_filterMap.mpr ⟨b, hb, by rw [e]; rfl⟩
theorem of_pinsAt {fp : List Addr} {h : Heap} {p : Addr × Obj} (hp : p ∈ pinsAt fp h) : p.1 ∈ fp ∧ h.get? p.1 = some p.2 := by
  obtain ⟨b, hb, e⟩ := List.mem_filterMap.mp hp
  cases q : h.get? b with
  | none => rw [q] at e; cases e
  | some o =>
    rw [q] at e
    have e' : (b, o) = p := Option.some.inj e
    subst e'
    exact ⟨hb, q⟩
theorem Inv.pinned {pins : List (Addr × Obj)} {σ : St} {H : Hp} {s : Shared} {fp : List Addr} (I : Inv X pins σ H s) (hf : ∀ b ∈ fp, FpOk X pins H b) (ho : ∀ b ∈ fp, ∃ o, s.heap.get? b = some o ∧ ∀ v, o.data ≠ .cell v) : Inv X (pins ++ pinsAt fp s.heap) σ H s :=
  I.pins_of fun p hp => (List.mem_append.mp hp).elim (fun z => I.pin p (List.mem_append_right _ z)) fun z => by
    obtain ⟨hb, e⟩ := of_pinsAt z
    obtain ⟨f0, f1, f2, _⟩ := hf p.1 hb
    obtain ⟨o, e', d⟩ := ho p.1 hb
    rw [e] at e'; cases e'
    exact ⟨e, f0, f1, f2, d⟩
theorem Inv.unpinned {pins pl : List (Addr × Obj)} {σ : St} {H : Hp} {s : Shared} (I : Inv X (pins ++ pl) σ H s) : Inv X pins σ H s := I.pins_of fun p hp => I.pin p (List.mem_append_right _ (List.mem_append_left _ hp))
theorem ps_for {iter : Expr} {body : List Stmt} {wi : TI} {g : TG} {tb : TS} {pos : Pos} (hp : PassesOwn (model X.prog X.w) X.A X.env X.xe) (hc : X.calm = true) (hi : PI X tg iter wi) (hg : PG X tg g) (hb : PSs X body tb)
    (hs : ∀ x, foldedSetIterable iter X.env x = pure x := by intro _; rfl) : PS X (.For tg iter body [] pos) (tFor wi g tb) := by
  intro pins s σ H D I h
  refine wpAny_For (thn (hi pins s σ H _ I h) fun v s1 h1 => thn h1 fun itv s2 h2 => ?_) hs
  obtain ⟨it, fp, tn, J, H2, e, I2, T, st2, f2, W, ⟨m0, w0⟩, turn⟩ := h2
  subst e
  -- what stays true of the iterator's objects through the loop
  have stat : ∀ {H' : Hp}, (∀ b ∈ fp, H' b = none) → ∀ b ∈ fp, FpOk X pins H' b := fun hn b hb => ⟨hn b hb, (f2 b hb).2⟩
  refine codeAny_forLoop_any (fun n s' => ∃ i σ' H', Inv X pins σ' H' s' ∧ tn i s'.heap ∧ (∀ b ∈ fp, H' b = none) ∧ W i n σ' H') ?_ m0 ⟨0, σ, H2, I2, st2, fun b hb => (f2 b hb).1, w0⟩
  rintro n s3 ⟨i, σ3, H3, I3, st3, fr3, w3⟩
  rcases turn i n σ3 H3 w3 with ⟨stop, qn⟩ | ⟨go, N, hN, step⟩
  · refine wpAny_passesOwn hp (thn (T.done X rfl rfl rfl hc i pins s3 σ3 H3 X.xe I3 (stat fr3) st3 stop) fun r s4 ⟨hr, I4⟩ => ?_)
    subst hr
    exact wpAny_execs_nil ⟨σ3, H3, I4, qn⟩
  · refine wpAny_passesOwn hp (thn (T.item X rfl rfl rfl hc i pins s3 σ3 H3 X.xe I3 (stat fr3) st3 go) fun r s4 ⟨u, hr, h4⟩ => ?_)
    subst hr
    refine wpAny_passesOwn hp (thn h4 fun _ s5 ⟨x, H5, I5, r5, y5, st5, fr5⟩ => ?_)
    have I5' := I5.pinned (stat fr5) (T.obj _ _ st5)
    refine wpAny_passesOwn hp (thn (hg _ s5 σ3 H5 x u _ I5' r5 (step x H5 y5)) fun _ s6 ⟨σ6, H6, I6, q6⟩ => ?_)
    refine wpAny_passesOwn hp (thn (hb _ s6 σ6 H6 _ I6 q6) fun f s7 q7 => ?_)
    have again : ∀ {σ7 : St} {H7 : Hp}, Inv X (pins ++ pinsAt fp s5.heap) σ7 H7 s7 → N σ7 H7 → ∃ m, m < n ∧ ∃ i σ' H', Inv X pins σ' H' s7 ∧ tn i s7.heap ∧ (∀ b ∈ fp, H' b = none) ∧ W i m σ' H' := fun {σ7 H7} I7 n7 => by
      obtain ⟨m', hm, w7⟩ := hN σ7 H7 n7
      refine ⟨m', hm, i + 1, σ7, H7, I7.unpinned, T.keep _ _ _ st5 fun b hb o e => (I7.pin (b, o) (List.mem_append_right _ (List.mem_append_right _ (mem_pinsAt hb e)))).1, fun b hb => ?_, w7⟩
      obtain ⟨o, e, d⟩ := T.obj _ _ st5 b hb
      exact (I7.pin (b, o) (List.mem_append_right _ (List.mem_append_right _ (mem_pinsAt hb e)))).2.1
    cases f with
    | next => obtain ⟨σ7, H7, I7, n7⟩ := q7; exact again I7 n7
    | cont => obtain ⟨σ7, H7, I7, n7⟩ := q7; exact again I7 n7
    | brk => obtain ⟨σ7, H7, I7, q7⟩ := q7; exact ⟨σ7, H7, I7.unpinned, q7⟩
    | ret v => obtain ⟨x7, σ7, H7, I7, r7, q7⟩ := q7; exact ⟨x7, σ7, H7, I7.unpinned, r7, q7⟩
end

end L2

namespace L2
open PySem PySem.Spec PyProof.Rows

abbrev R2 := V → V → Hp → VK → Prop
/-- a two-place operation on values: f is binaryOp op, inplaceOp op or compareOp op -/
def OpR (X : Cx) (f : Value → Value → Sem Value) (r : R2) : Prop :=
  ∀ (pins : List (Addr × Obj)) (s : Shared) (σ : St) (H : Hp) (x y : V) (v u : Value) (Q : VK), Inv X pins σ H s → RelV x v → RelV y u → r x y H Q →
    wpAny (model X.prog X.w) X.A (f v u) (EP X pins σ Q) X.xe s
/-- a one-place operation -/
def UnR (X : Cx) (f : Value → Sem Value) (r : V → Hp → VK → Prop) : Prop :=
  ∀ (pins : List (Addr × Obj)) (s : Shared) (σ : St) (H : Hp) (x : V) (v : Value) (Q : VK), Inv X pins σ H s → RelV x v → r x H Q →
    wpAny (model X.prog X.w) X.A (f v) (EP X pins σ Q) X.xe s
/-- a call of a value that is known (a builtin, a type) with values -/
def CallR (X : Cx) (f : Value) (r : List V → Hp → VK → Prop) : Prop :=
  ∀ (pins : List (Addr × Obj)) (s : Shared) (σ : St) (H : Hp) (xs : List V) (us : List Value) (Q : VK), Inv X pins σ H s → Vals xs us → r xs H Q →
    wpAny (model X.prog X.w) X.A (call f us) (EP X pins σ Q) X.xe s
def tOp (r : R2) (ta tb : TE) : TE := fun σ H Q => ta σ H fun x H1 => tb σ H1 fun y H2 => r x y H2 Q
def tUn (r : V → Hp → VK → Prop) (ta : TE) : TE := fun σ H Q => ta σ H fun x H1 => r x H1 Q
/-- ints in, under C, and a value out -/
def rI (C : Int → Int → Prop) (g : Int → Int → V) : R2 := fun x y H Q => ∃ i j, x = .int i ∧ y = .int j ∧ C i j ∧ Q (g i j) H
def rI0 (g : Int → Int → V) : R2 := fun x y H Q => ∃ i j, x = .int i ∧ y = .int j ∧ Q (g i j) H
def rU (g : Int → V) : V → Hp → VK → Prop := fun x H Q => ∃ i, x = .int i ∧ Q (g i) H

section
variable {X : Cx} {a b c : Expr} {ta tb tc : TE} {pos : Pos}

theorem binT (ha : PE X a ta) (hb : PE X b tb) {pins : List (Addr × Obj)} {s : Shared} {σ : St} {H : Hp} {R : V → V → Hp → Prop} (I : Inv X pins σ H s)
    (h : ta σ H fun x H1 => tb σ H1 fun y H2 => R x y H2) {Q : Value → Shared → Prop} {f : Value → Value → Sem Value}
    (hf : ∀ v u s2 x y H2, Inv X pins σ H2 s2 → RelV x v → RelV y u → R x y H2 → wpAny (model X.prog X.w) X.A (f v u) Q X.xe s2) :
    wpAny (model X.prog X.w) X.A (eval a X.env) (fun v s₁ => wpAny (model X.prog X.w) X.A (eval b X.env) (fun u s₂ => wpAny (model X.prog X.w) X.A (f v u) Q X.xe s₂) X.xe s₁) X.xe s := by
  refine thn (ha pins s σ H _ I h) fun v s1 ⟨x, H1, I1, r1, q1⟩ => ?_
  refine thn (hb pins s1 σ H1 _ I1 q1) fun u s2 ⟨y, H2, I2, r2, q2⟩ => ?_
  exact hf v u s2 x y H2 I2 r1 r2 q2

theorem pe_op {op : Operator} {r : R2} (ho : OpR X (binaryOp op) r) (ha : PE X a ta) (hb : PE X b tb) : PE X (.BinOp a op b pos) (tOp r ta tb) := by
  intro pins s σ H Q I h
  exact wpAny_BinOp (binT ha hb I h fun v u s2 x y H2 I2 rx ry q => ho pins s2 σ H2 x y v u Q I2 rx ry q)
theorem pe_un {op : UnaryOp} {r : V → Hp → VK → Prop} (ho : UnR X (unaryOp op) r) (ha : PE X a ta) : PE X (.UnaryOp op a pos) (tUn r ta) := by
  intro pins s σ H Q I h
  exact UnaryOp_ (thn (ha pins s σ H _ I h) fun v s1 ⟨x, H1, I1, r1, q1⟩ => ho pins s1 σ H1 x v Q I1 r1 q1)
/-! ### ints -/
theorem opI {f : Value → Value → Sem Value} {C : Int → Int → Prop} {g : Int → Int → Int}
    (rule : ∀ (i j : Int) (t u : Tok) (s : Shared) (Q : Value → Shared → Prop) (E : Value → Shared → Prop), C i j → Q (.int (g i j) s.toks) { s with toks := s.toks + 1 } → wpAny (model X.prog X.w) X.A (f (.int i t) (.int j u)) Q E s) :
    OpR X f (rI C fun i j => .int (g i j)) := by
  intro pins s σ H x y v u Q I rx ry h
  obtain ⟨i, j, rfl, rfl, hc, q⟩ := h
  obtain ⟨t, rfl⟩ := rx
  obtain ⟨t', rfl⟩ := ry
  exact rule i j t t' s _ _ hc ⟨.int (g i j), H, I.tok _, ⟨_, rfl⟩, q⟩
theorem opI0 {f : Value → Value → Sem Value} {g : Int → Int → Int}
    (rule : ∀ (i j : Int) (t u : Tok) (s : Shared) (Q : Value → Shared → Prop) (E : Value → Shared → Prop), Q (.int (g i j) s.toks) { s with toks := s.toks + 1 } → wpAny (model X.prog X.w) X.A (f (.int i t) (.int j u)) Q E s) :
    OpR X f (rI0 fun i j => .int (g i j)) := by
  intro pins s σ H x y v u Q I rx ry h
  obtain ⟨i, j, rfl, rfl, q⟩ := h
  obtain ⟨t, rfl⟩ := rx
  obtain ⟨t', rfl⟩ := ry
  exact rule i j t t' s _ _ ⟨.int (g i j), H, I.tok _, ⟨_, rfl⟩, q⟩
theorem opB0 {f : Value → Value → Sem Value} {g : Int → Int → Bool}
    (rule : ∀ (i j : Int) (t u : Tok) (s : Shared) (Q : Value → Shared → Prop) (E : Value → Shared → Prop), Q (.bool (g i j)) s → wpAny (model X.prog X.w) X.A (f (.int i t) (.int j u)) Q E s) :
    OpR X f (rI0 fun i j => .bl (g i j)) := by
  intro pins s σ H x y v u Q I rx ry h
  obtain ⟨i, j, rfl, rfl, q⟩ := h
  obtain ⟨t, rfl⟩ := rx
  obtain ⟨t', rfl⟩ := ry
  exact rule i j t t' s _ _ ⟨.bl (g i j), H, I, rfl, q⟩

def CDiv (i j : Int) : Prop := 0 < j ∧ j < 1073741824
def CPow (i j : Int) : Prop := 0 ≤ j ∧ j ≤ 1000000 ∧ i.natAbs < 2 ^ 64
def CMul (i j : Int) : Prop := (-(2 ^ 64) < i ∧ i < 2 ^ 64) ∨ (-(2 ^ 64) < j ∧ j < 2 ^ 64)
theorem CMul.ok {i j : Int} (h : CMul i j) : IntMulOk i j := by
  rcases h with ⟨h1, h2⟩ | ⟨h1, h2⟩
  · exact .of_left (intBits_le_64 h1 h2)
  · exact .of_right (intBits_le_64 h1 h2)
theorem op_add : OpR X (binaryOp .Add) (rI0 fun i j => .int (i + j)) := opI0 fun _ _ _ _ _ _ _ q => add_int q
theorem op_sub : OpR X (binaryOp .Sub) (rI0 fun i j => .int (i - j)) := opI0 fun _ _ _ _ _ _ _ q => sub_int q
theorem op_mul : OpR X (binaryOp .Mult) (rI CMul fun i j => .int (i * j)) := opI fun _ _ _ _ _ _ _ hc q => mul_int q hc.ok
/-- // by a positive divisor -/
theorem op_fdiv : OpR X (binaryOp .FloorDiv) (rI CDiv fun i j => .int (i / j)) := opI fun i j _ _ _ _ _ hc q => by
  have h1 : (0 : Int) < j := hc.1
  have h2 : j < 1073741824 := hc.2
  exact floordiv_int (by omega) (by rw [Int.fdiv_eq_ediv_of_nonneg i (by omega)]; exact q) (.inl (PyProof.noPylong_small (by omega)))
/-- % by a positive divisor of any size -/
theorem op_mod : OpR X (binaryOp .Mod) (rI (fun _ j => 0 < j) fun i j => .int (i % j)) := opI fun i j _ _ _ _ _ hc q => by
  have h1 : (0 : Int) < j := hc
  exact mod_int' (by omega) (by rw [Int.fmod_eq_emod_of_nonneg i (by omega)]; exact q)
theorem op_pow : OpR X (binaryOp .Pow) (rI CPow fun i j => .int (i ^ j.toNat)) := opI fun _ _ _ _ _ _ _ hc q => pow_int_small hc.1 hc.2.1 hc.2.2 q
theorem unI {f : Value → Sem Value} {g : Int → Int}
    (rule : ∀ (i : Int) (t : Tok) (s : Shared) (Q : Value → Shared → Prop) (E : Value → Shared → Prop), Q (.int (g i) s.toks) { s with toks := s.toks + 1 } → wpAny (model X.prog X.w) X.A (f (.int i t)) Q E s) :
    UnR X f (rU fun i => .int (g i)) := by
  intro pins s σ H x v Q I rx h
  obtain ⟨i, rfl, q⟩ := h
  obtain ⟨t, rfl⟩ := rx
  exact rule i t s _ _ ⟨.int (g i), H, I.tok _, ⟨_, rfl⟩, q⟩
theorem un_neg : UnR X (unaryOp .USub) (rU fun i => .int (-i)) := unI fun _ _ _ _ _ q => neg_int q
end

section
variable {X : Cx} {a b c : Expr} {ta tb tc : TE} {pos : Pos}
theorem fin_bl {pins : List (Addr × Obj)} {σ : St} {H : Hp} {s : Shared} {Q : VK} {k k' : Bool} (I : Inv X pins σ H s) (q : Q (.bl k) H) (e : k = k') : EP X pins σ Q (.bool k') s := by
  subst e
  exact ⟨.bl k, H, I, rfl, q⟩
theorem op_lt : OpR X (compareOp .Lt) (rI0 fun i j => .bl (decide (i < j))) := opB0 fun _ _ _ _ _ _ _ q => lt_int q
theorem op_le : OpR X (compareOp .LtE) (rI0 fun i j => .bl (decide (i ≤ j))) := opB0 fun _ _ _ _ _ _ _ q => le_int q
theorem op_gt : OpR X (compareOp .Gt) (rI0 fun i j => .bl (decide (j < i))) := opB0 fun _ _ _ _ _ _ _ q => gt_int q
theorem op_ge : OpR X (compareOp .GtE) (rI0 fun i j => .bl (decide (j ≤ i))) := opB0 fun _ _ _ _ _ _ _ q => ge_int q
/-- is None, is not None: the right side a value none -/
theorem op_isN : OpR X (compareOp .Is) (fun x y H Q => y = .non ∧ Q (.bl (decide (x = .non))) H) := by
  intro pins s σ H x y v u Q I rx ry h
  obtain ⟨rfl, q⟩ := h
  cases ry
  refine is_none_gen (fin_bl I q ?_)
  cases x <;> first
    | (cases rx; rfl)
    | (obtain ⟨t, rfl⟩ := rx; rfl)
theorem op_notN : OpR X (compareOp .IsNot) (fun x y H Q => y = .non ∧ Q (.bl (!decide (x = .non))) H) := by
  intro pins s σ H x y v u Q I rx ry h
  obtain ⟨rfl, q⟩ := h
  cases ry
  refine isnot_none_gen (fin_bl I q ?_)
  cases x <;> first
    | (cases rx; rfl)
    | (obtain ⟨t, rfl⟩ := rx; rfl)

/-- two rules for one operation: by cases -/
theorem OpR.or {f : Value → Value → Sem Value} {r r' : R2} (h : OpR X f r) (h' : OpR X f r') : OpR X f (fun x y H Q => r x y H Q ∨ r' x y H Q) := by
  intro pins s σ H x y v u Q I rx ry q
  rcases q with q | q
  · exact h pins s σ H x y v u Q I rx ry q
  · exact h' pins s σ H x y v u Q I rx ry q

theorem nomark (b : Expr) {op : CmpOp} (h : op ≠ .In := by decide) (h2 : op ≠ .NotIn := by decide) : behindInMarks op b = false := by
  have e1 : (op == CmpOp.In) = false := by cases op <;> first | rfl | exact absurd rfl h
  have e2 : (op == CmpOp.NotIn) = false := by cases op <;> first | rfl | exact absurd rfl h2
  cases b <;> simp [behindInMarks, e1, e2]
/-- a comparison as a value; hm: nomark b, or (for in, not in) by with_unfolding_all rfl -/
theorem pe_cmpR {op : CmpOp} {r : R2} (ho : OpR X (compareOp op) r) (ha : PE X a ta) (hb : PE X b tb) (hm : behindInMarks op b = false) : PE X (.Compare a [op] [b] pos) (tOp r ta tb) := by
  intro pins s σ H Q I h
  exact wpAny_Compare1 (binT ha hb I h fun v u s2 x y H2 I2 rx ry q => ho pins s2 σ H2 x y v u Q I2 rx ry q) hm
/-- a reading of a value as a test -/
def tTest (t : TE) : TT := fun σ H Q => t σ H fun x H' => ∃ k, x = .bl k ∧ Q k H'
theorem pt_cmpR {op : CmpOp} {r : R2} (ho : OpR X (compareOp op) r) (ha : PE X a ta) (hb : PE X b tb) (hm : behindInMarks op b = false) : PT X (.Compare a [op] [b] pos) (tTest (tOp r ta tb)) := by
  intro pins s σ H Q I h
  refine wpAny_isTrue_Compare1 (thn (ha pins s σ H _ I h) fun v s1 ⟨x, H1, I1, r1, q1⟩ => thn (hb pins s1 σ H1 _ I1 q1) fun u s2 ⟨y, H2, I2, r2, q2⟩ =>
    thn (ho pins s2 σ H2 x y v u _ I2 r1 r2 q2) fun c s3 ⟨z, H3, I3, r3, k, e, q3⟩ => ?_) hm
  subst e
  cases r3
  exact wpAny_truthy_bool ⟨H3, I3, q3⟩
theorem line63 : (sizeLine : Nat) < 2 ^ 63 := by rw [sizeLine_eq]; decide
/-! ### scalar builtins, by CallR -/
theorem vals1 {x : V} {us : List Value} (r : Vals [x] us) : ∃ u, us = [u] ∧ RelV x u := by
  cases r with
  | cons r1 r2 => cases r2; exact ⟨_, rfl, r1⟩
theorem vals2 {x y : V} {us : List Value} (r : Vals [x, y] us) : ∃ u w', us = [u, w'] ∧ RelV x u ∧ RelV y w' := by
  cases r with
  | cons r1 r2 =>
    cases r2 with
    | cons r3 r4 => cases r4; exact ⟨_, _, rfl, r1, r3⟩
theorem call_max2 (hc : X.calm = true) : CallR X (.builtin "max") (fun xs H Q => ∃ i j, xs = [.int i, .int j] ∧ Q (.int (if j > i then j else i)) H) := by
  intro pins s σ H xs us Q I r h
  obtain ⟨i, j, rfl, q⟩ := h
  obtain ⟨u, w', rfl, ⟨t, rfl⟩, ⟨t', rfl⟩⟩ := vals2 r
  refine max_two_ints (I.ok.hd hc) fun h' tk k => ⟨_, H, I.kept k, ?_, q⟩
  by_cases hj : j > i
  · rw [if_pos hj, if_pos hj]; exact ⟨_, rfl⟩
  · rw [if_neg hj, if_neg hj]; exact ⟨_, rfl⟩
theorem call_min2 (hc : X.calm = true) : CallR X (.builtin "min") (fun xs H Q => ∃ i j, xs = [.int i, .int j] ∧ Q (.int (if j < i then j else i)) H) := by
  intro pins s σ H xs us Q I r h
  obtain ⟨i, j, rfl, q⟩ := h
  obtain ⟨u, w', rfl, ⟨t, rfl⟩, ⟨t', rfl⟩⟩ := vals2 r
  refine min_two_ints (I.ok.hd hc) fun h' tk k => ⟨_, H, I.kept k, ?_, q⟩
  by_cases hj : j < i
  · rw [if_pos hj, if_pos hj]; exact ⟨_, rfl⟩
  · rw [if_neg hj, if_neg hj]; exact ⟨_, rfl⟩
theorem call_int1 : CallR X (.type "int") (fun xs H Q => (∃ i, xs = [.int i] ∧ Q (.int i) H) ∨ ∃ k, xs = [.bl k] ∧ Q (.int (if k then 1 else 0)) H) := by
  intro pins s σ H xs us Q I r h
  rcases h with ⟨i, rfl, q⟩ | ⟨k, rfl, q⟩
  · obtain ⟨u, rfl, t, rfl⟩ := vals1 r
    exact call_int_int ⟨.int i, H, I, ⟨_, rfl⟩, q⟩
  · obtain ⟨u, rfl, r1⟩ := vals1 r
    cases r1
    exact call_int_bool ⟨.int (if k then 1 else 0), H, I.tok _, ⟨_, rfl⟩, q⟩
end
end L2

namespace L2
open PySem PySem.Spec PyProof.Rows

section
variable {prog : Program} {w : World} {A : Around} {E : Value → Shared → Prop} {s : Shared} {K : PySem.W.Frag} {x dx C f : Addr} {mA : Str → Option Value} {name : Str} {v : Value}

end

theorem RelO.some_of {v : V} {o : Option Value} (r : RelO (some v) o) : ∃ u, o = some u ∧ RelV v u := by
  cases o with
  | none => exact (show False from r).elim
  | some u => exact ⟨u, rfl, r⟩
theorem RelO.none_of {o : Option Value} (r : RelO none o) : o = none := by
  cases o with
  | none => rfl
  | some u => exact (show False from r).elim
section
variable {P : Program} {w : World} {H H' : Hp} {h h' : Heap} {a C dx : Addr} {fs fs' : List (Str × V)}
end

/-! ### what of the text a class must have -/
structure Cls (K : PySem.W.Frag) (C : Addr) : Prop where
  pg : PySem.W.plainGet K C Str.empty = true
  hd : PySem.W.hasDictIn K C = true
  po : PySem.W.plainOver K C = true
  sa : PySem.W.findIn K (.ref C) "__setattr__" = some (some (.builtin "object.__setattr__"))
theorem Cls.get {K : PySem.W.Frag} {C : Addr} (c : Cls K C) (f : Str) : PySem.W.plainGet K C f = true := c.pg
section
variable {X : Cx} {pins : List (Addr × Obj)} {σ : St} {H : Hp} {s : Shared} {a C dx : Addr} {fs : List (Str × V)} {f : Str} {v : V} {A : Around} {E : Value → Shared → Prop}

/-- a new instance, tracked, without attributes -/
theorem Inv.made (I : Inv X pins σ H s) : Inv X pins σ (upd (upd H s.heap.objs.size (.own (s.heap.objs.size + 1))) (s.heap.objs.size + 1) (.ins C s.heap.objs.size []))
    { s with heap := (s.heap.push PySem.W.emptyDict).push (PySem.W.instObj C s.heap.objs.size) } := by
  have e1 : (s.heap.push PySem.W.emptyDict).get? s.heap.objs.size = some PySem.W.emptyDict := Heap.get?_push_size s.heap rfl
  have e2 : ((s.heap.push PySem.W.emptyDict).push (PySem.W.instObj C s.heap.objs.size)).get? (s.heap.objs.size + 1) = some (PySem.W.instObj C s.heap.objs.size) := by
    have := Heap.get?_push_size (s.heap.push PySem.W.emptyDict) (o := PySem.W.instObj C s.heap.objs.size) rfl
    rwa [Heap.size_push] at this
  have e3 : (s.heap.push PySem.W.emptyDict).Ns s.heap.objs.size (fun _ => none) := ⟨PySem.W.emptyDict, #[], _, e1, rfl, (fun e he => absurd he (by simp)), fun _ => rfl⟩
  have I1 := I.laid (a := s.heap.objs.size) (o := .own (s.heap.objs.size + 1)) (h' := s.heap.push PySem.W.emptyDict) (t' := s.toks) (fun b u q => Heap.get?_push_of_some _ q) (Nat.le_refl _) ⟨_, e1⟩
  refine I1.laid (a := s.heap.objs.size + 1) (o := .ins C s.heap.objs.size []) (t' := s.toks) (fun b u q => Heap.get?_push_of_some _ q) (Nat.le_of_eq (Heap.size_push _ _)) ?_
  have ne : s.heap.objs.size ≠ s.heap.objs.size + 1 := Nat.ne_of_lt (Nat.lt_succ_self _)
  refine ⟨by rw [upd_ne ne, upd_same], Nat.zero_le _, ne, e2, fun _ => none, (Heap.Ns1.of_empty e3).at fun o q => Heap.get?_push_of_some _ q, fun _ => True.intro, fun y hy => absurd rfl hy⟩

end

section
variable {X : Cx} {o e value : Expr} {f : Str} {pos pos' tpos : Pos} {ta tv : TE}
end

/-! ### isinstance -/
section
variable {X : Cx} {pins : List (Addr × Obj)} {σ : St} {H : Hp} {s : Shared} {A : Around} {E : Value → Shared → Prop} {Q : Value → Shared → Prop} {c : Value} {b : Bool}
end
end L2

namespace L2
open PySem PySem.Spec PyProof.Rows

/-! ### room -/
structure Room (k : Nat) (A : Around) : Prop where
  hd : A.handled = none
  dp : A.depth + 3 * k + 5 < recursionLimit
  un : A.units + 16 * k + 200 < cLine
theorem Room.mono {j k : Nat} {A : Around} (r : Room k A) (h : j ≤ k) : Room j A := ⟨r.hd, by have := r.dp; omega, by have := r.un; omega⟩
theorem Room.deeper {k : Nat} {A : Around} (r : Room (k + 1) A) (env : Env) : Room k (A.deeper env) :=
  ⟨r.hd, by have := r.dp; show A.depth + 1 + 3 * k + 5 < _; omega, by have := r.un; show A.units + 3 + 16 * k + 200 < _; omega⟩
theorem Room.in1 {k : Nat} {A : Around} (r : Room (k + 1) A) : Room k A.in1 :=
  ⟨r.hd, by have := r.dp; show A.depth + 3 * k + 5 < _; omega, by have := r.un; show A.units + 1 + 16 * k + 200 < _; omega⟩
theorem Room.depth {k : Nat} {A : Around} (r : Room k A) : A.depth < recursionLimit := by have := r.dp; omega
theorem Room.units {k : Nat} {A : Around} (r : Room k A) : A.units + 64 < cLine := by have := r.un; omega
/-! ### argument lists and displays -/
def tNil : TA := fun _ H Q => Q [] H
def tCons (ta : TE) (tr : TA) : TA := fun σ H Q => ta σ H fun x H1 => tr σ H1 fun xs H2 => Q (x :: xs) H2
section
variable {X : Cx} {e : Expr} {es : List Expr} {te : TE} {t : TA} {pos : Pos}
theorem pa_nil : PA X [] tNil := fun _ _ _ _ H Q I h => Calls.spliced_nil ⟨[], H, I, .nil, h⟩
theorem pa_cons (ha : PE X e te) (hr : PA X es t) (hs : starEach (e :: es) X.env = (false, eval e X.env) :: starEach es X.env := by rfl) : PA X (e :: es) (tCons te t) := by
  intro pos pins s σ H Q I h
  rw [hs]
  show wpAny _ _ (spliced ((false, eval e X.env) :: backTo pos (starEach es X.env))) _ _ s
  refine Calls.spliced_cons (thn (ha pins s σ H _ I h) fun u s1 ⟨x, H1, I1, r1, q1⟩ => ?_)
  exact thn (hr pos pins s1 σ H1 _ I1 q1) fun us s2 ⟨xs, H2, I2, r2, q2⟩ => ⟨x :: xs, H2, I2, .cons r1 r2, q2⟩

/-- a tuple, a list of written items -/
def tTup (t : TA) : TE := fun σ H Q => t σ H fun xs H1 => xs.length ≤ sizeLine ∧ ∀ p, H1 p = none → Q (.ref p) (upd H1 p (.tup xs))
def tLst (t : TA) : TE := fun σ H Q => t σ H fun xs H1 => xs.length ≤ sizeLine ∧ ∀ p, H1 p = none → Q (.ref p) (upd H1 p (.lst xs))
theorem pe_tup {x1} (h : PA X es t) : PE X (.Tuple es x1 pos) (tTup t) := by
  intro pins s σ H Q I hq
  refine wpAny_Tuple_spliced (thn (h pos pins s σ H _ I hq) fun us s1 ⟨xs, H1, I1, r, z, q⟩ => ⟨by rw [← r.length]; exact z, ?_⟩)
  have hf : H1 s1.heap.objs.size = none := I1.hok.fresh (Nat.le_refl _)
  refine ⟨.ref s1.heap.objs.size, upd H1 s1.heap.objs.size (.tup xs), I1.laid (t' := s1.toks) (fun b u e => Heap.get?_push_of_some _ e) (Nat.le_refl _) ?_, rfl, q _ hf⟩
  exact ⟨z, us, r, ⟨_, Heap.get?_push_size _ rfl, rfl, _, rfl⟩⟩
theorem pe_lst (h : PA X es t) : PE X (.List es pos) (tLst t) := by
  intro pins s σ H Q I hq
  refine wpAny_List_spliced (thn (h pos pins s σ H _ I hq) fun us s1 ⟨xs, H1, I1, r, z, q⟩ => ⟨by rw [← r.length]; exact z, ?_⟩)
  have hf : H1 s1.heap.objs.size = none := I1.hok.fresh (Nat.le_refl _)
  refine ⟨.ref s1.heap.objs.size, upd H1 s1.heap.objs.size (.lst xs), I1.laid (t' := s1.toks) (fun b u e => Heap.get?_push_of_some _ e) (Nat.le_refl _) ?_, rfl, q _ hf⟩
  exact ⟨z, us, 0, r, Heap.get?_push_size _ rfl⟩
end

/-! ### what a def promises -/
/-- a def's promise: the bound arguments in the parameters' order, the heap, the wanted end, the wanted exception -/
abbrev Sp := List V → Hp → VK → XK → Prop
/-- how an exception lies behind a call (file 08 gives it): the callers' frames, abstract heap and state ahead of the call, the wish, the exception, the state -/
abbrev CXT := List Env → Hp → Shared → XK → Value → Shared → Prop

/-- the state at a call -/
structure Env0 (P : Program) (w : World) (K : PySem.W.Frag) (mg : Str → Option Value) (base : Heap) (A : Around) (outer : List Env) (s : Shared) (H : Hp) : Prop where
  frames : A.frames = some outer
  mod : Mod K mg base
  bs : ∀ b o, base.get? b = some o → s.heap.get? b = some o ∧ H b = none
  bsz : base.objs.size ≤ s.heap.objs.size
  funs : s.heap.FunFrames base outer
  frf : ∀ b ∈ frs outer, H b = none
  hok : HOk P w H s.heap
  bare : AllBare s.gens
/-- a call's end -/
def CE (outer : List Env) (P : Program) (w : World) (H : Hp) (s : Shared) (Q : VK) (u : Value) (s' : Shared) : Prop :=
  ∃ v H', s'.os = s.os ∧ AllBare s'.gens ∧ Un (frs outer) [] H H' s.heap s'.heap ∧ HOk P w H' s'.heap ∧ RelV v u ∧ Q v H'
def CR (CX : CXT) (outer : List Env) (P : Program) (w : World) (H : Hp) (s : Shared) (Q : VK) (E : XK) (r : Result) (s' : Shared) : Prop :=
  match r with
  | .ok (.ret u) => CE outer P w H s Q u s'
  | .ok _ => False
  | .error e => CX outer H s E e s'
structure FnOk (P : Program) (w : World) (K : PySem.W.Frag) (mg : Str → Option Value) (base : Heap) (CX : CXT) (k : Nat) (f : Addr) (fd : FuncData) (ps : List Str) (sp : Sp) : Prop where
  len : ∀ vs H Q E, sp vs H Q E → vs.length = ps.length
  run : ∀ (A : Around) (outer : List Env) (s : Shared) (H : Hp) (args : Args) (us : List Value) (vs : List V) (Q : VK) (E : XK), Room k A → Env0 P w K mg base A outer s H → BindsTo s fd args (ps.zip us) → Vals vs us → sp vs H Q E →
    codeAny (model P w) A (.call (.ref f) args) (CR CX outer P w H s Q E) s
theorem FnOk.mono {P : Program} {w : World} {K : PySem.W.Frag} {mg : Str → Option Value} {base : Heap} {CX : CXT} {j k : Nat} {f : Addr} {fd : FuncData} {ps : List Str} {sp : Sp} (F : FnOk P w K mg base CX j f fd ps sp) (h : j ≤ k) :
    FnOk P w K mg base CX k f fd ps sp := ⟨F.len, fun A outer s H args us vs Q E hr => F.run A outer s H args us vs Q E (hr.mono h)⟩
/-- a weaker promise -/
theorem FnOk.imp {P : Program} {w : World} {K : PySem.W.Frag} {mg : Str → Option Value} {base : Heap} {CX : CXT} {k : Nat} {f : Addr} {fd : FuncData} {ps : List Str} {sp sp' : Sp} (F : FnOk P w K mg base CX k f fd ps sp)
    (h : ∀ vs H Q E, sp' vs H Q E → sp vs H Q E) : FnOk P w K mg base CX k f fd ps sp' :=
  ⟨fun vs H Q E q => F.len vs H Q E (h _ _ _ _ q), fun A outer s H args us vs Q E hr he hb hv hs => F.run A outer s H args us vs Q E hr he hb hv (h _ _ _ _ hs)⟩

theorem Env0.in1 {P : Program} {w : World} {K : PySem.W.Frag} {mg : Str → Option Value} {base : Heap} {A : Around} {outer : List Env} {s : Shared} {H : Hp} (e : Env0 P w K mg base A outer s H) :
    Env0 P w K mg base A.in1 outer s H := ⟨e.frames, e.mod, e.bs, e.bsz, e.funs, e.frf, e.hok, e.bare⟩

section
variable {X : Cx} {pins : List (Addr × Obj)} {σ : St} {H : Hp} {s s' : Shared}
/-- from a body: what a callee wants -/
theorem Inv.env0 (I : Inv X pins σ H s) : Env0 X.prog X.w X.K X.mg X.base X.A X.stack s H :=
  ⟨I.ok.frames, I.ok.mod, I.bs, Nat.le_trans I.ok.bsz I.sz, I.stack, I.stkFree, I.hok, I.bare⟩
/-- behind a call -/
theorem Inv.after {Q : VK} {u : Value} (I : Inv X pins σ H s) (h : CE X.stack X.prog X.w H s Q u s') : EP X pins σ Q u s' := by
  obtain ⟨v, H', os, bare, un, hok, r, q⟩ := h
  obtain ⟨hh, g, d, t, os'⟩ := s'
  obtain rfl : os' = s.os := os
  exact ⟨v, H', I.call (h' := hh) (g' := g) (d' := d) (t' := t) (ch := []) un hok bare (fun b z => absurd z (by simp)), r, q⟩
end

/-! ### calls -/
/-- f(..): the written arguments, then the defaults dvs; E: what is wanted of an exception -/
def tCall (sp : Sp) (dvs : List V) (E : XK) (t : TA) : TE := fun σ H Q => t σ H fun vs H1 => sp (vs ++ dvs) H1 Q E
/-- how the parameters are bound: us the positional arguments, kw the keywords' values by name, ds the defaults that fill up -/
def Binds (K : PySem.W.Frag) (fd : FuncData) (ps : List Str) (ds : List Value) : Prop :=
  ∀ (s : Shared) (us : List Value), K.In s.heap → (us ++ ds).length = ps.length → BindsTo s fd ⟨us, []⟩ (ps.zip (us ++ ds))
/-- every parameter is given -/
theorem Binds.all {K : PySem.W.Frag} {fd : FuncData} {ps : List Str} (h : ∀ us : List Value, us.length = ps.length → bindArgs fd ⟨us, []⟩ = pure (ps.zip us)) : Binds K fd ps [] := fun s us _ hl => by
  rw [List.append_nil] at hl ⊢
  exact .of_eq (h us hl)

/-- an exception of a callee reaches what this body wants of exceptions -/
def Passes (CX : CXT) (X : Cx) (E : XK) : Prop := ∀ (pins : List (Addr × Obj)) (σ : St) (H : Hp) (s : Shared) (e : Value) (s' : Shared), Inv X pins σ H s → CX X.stack H s E e s' → X.xe e s'

section
variable {X : Cx} {CX : CXT} {k : Nat} {f C : Addr} {fd : FuncData} {ps : List Str} {sp : Sp} {dvs : List V} {ds : List Value} {E : XK} {x m : Str} {p pos apos : Pos} {e o : Expr} {es : List Expr} {ta : TE} {t : TA}

/-- the callee runs -/
theorem run_fn {pins : List (Addr × Obj)} {σ : St} {H : Hp} {s : Shared} {Q : VK} {us : List Value} {vs : List V} (F : FnOk X.prog X.w X.K X.mg X.base CX k f fd ps sp) (hr : Room k X.A) (hb : Binds X.K fd ps ds) (hd : Vals dvs ds) (hx : Passes CX X E)
    (I : Inv X pins σ H s) (r : Vals vs us) (h : sp (vs ++ dvs) H Q E) : wpAny (model X.prog X.w) X.A (call (.ref f) us) (EP X pins σ Q) X.xe s := by
  have r2 : Vals (vs ++ dvs) (us ++ ds) := r.append hd
  have hl : (us ++ ds).length = ps.length := by rw [← r2.length]; exact F.len _ _ _ _ h
  refine wpAny_call (codeAny_mono (F.run X.A X.stack s H ⟨us, []⟩ (us ++ ds) (vs ++ dvs) Q E hr I.env0 (hb s us I.kIn hl) r2 h) fun r s' hq => ?_)
  cases r with
  | error e => exact hx pins σ H s e s' I hq
  | ok fl =>
    cases fl with
    | ret u => exact I.after hq
    | next => exact False.elim hq
    | brk => exact False.elim hq
    | cont => exact False.elim hq

theorem pe_call (F : FnOk X.prog X.w X.K X.mg X.base CX k f fd ps sp) (hr : Room k X.A) (hg : Gl X x) (hm : X.mg x = some (.ref f)) (hk : PySem.W.keepIn X.K (.ref f) = true) (hb : Binds X.K fd ps ds) (hd : Vals dvs ds) (hx : Passes CX X E)
    (ha : PA X (e :: es) t) (hdb : (x == ("__debug__" : Str)) = false := by decide) (he : starEach (e :: es) X.env = (false, eval e X.env) :: starEach es X.env := by rfl) (hpl : (backTo pos (starEach es X.env)).any (·.1) = false := by rfl) :
    PE X (.Call (.Name x p) (e :: es) [] pos) (tCall sp dvs E t) := by
  intro pins s σ H Q I h
  refine wpAny_Call_Name_kw (ld_glob I hg hm ?_ hdb)
  refine PySem.W.callWith_K (h₀ := X.base) I.ok.mod.kin hk (thn (ha pos pins s σ H _ I h) fun us s1 ⟨vs, H1, I1, r, q⟩ => ⟨I1.kIn, ?_⟩) he hpl
  exact run_fn F hr hb hd hx I1 r q
end

section
variable {X : Cx} {CX : CXT} {k : Nat} {f C : Addr} {fd : FuncData} {ps ks : List Str} {sp : Sp} {E : XK} {x m : Str} {p pos apos kpos : Pos} {e o : Expr} {es : List Expr} {kws : List Keyword} {te ta : TE} {t tk : TA} {nm : Option Str}
variable {g : List Value → List Value → List Value} {gV : List V → List V → List V}
end

/-! ### a def's body keeps its promise -/
/-- names: the parameters first -/
structure FnScope (N P : List Str) (sc : Scope) : Prop where
  kind : sc.kind = .function
  co : sc.isCoroutine = false
  gen : sc.isGenerator = false
  nd : N.Nodup
  pre : N.take P.length = P
  par : ∀ x ∈ P, sc.names.lookup x = some .local ∨ sc.names.lookup x = some .cell
  nofree : ∀ y ∈ sc.names, y.2 ≠ .free

theorem bindL_out {kindOf : Str → Option NameKind} {x : Str} : ∀ {binds : List (Str × Value)} {m : Str → Option Value}, (∀ v, (x, v) ∉ binds) → bindL kindOf binds m x = m x
  | [], _, _ => rfl
  | (n, v) :: r, m, h => by
    unfold bindL
    rw [bindL_out fun w hw => h w (List.mem_cons_of_mem _ hw)]
    split
    · have : x ≠ n := by rintro rfl; exact h v List.mem_cons_self
      simp [this]
    · rfl
theorem bindC_out {kindOf : Str → Option NameKind} {x : Str} : ∀ {binds : List (Str × Value)} {m : Str → Option Value}, (∀ v, (x, v) ∉ binds) → bindC kindOf binds m x = m x
  | [], _, _ => rfl
  | (n, v) :: r, m, h => by
    unfold bindC
    rw [bindC_out fun w hw => h w (List.mem_cons_of_mem _ hw)]
    split
    · rfl
    · have : x ≠ n := by rintro rfl; exact h v List.mem_cons_self
      simp [this]
theorem bindL_get {kindOf : Str → Option NameKind} {x : Str} {v : Value} : ∀ {P : List Str} {vs : List Value} {i : Nat} {m : Str → Option Value}, P.Nodup → P[i]? = some x → vs[i]? = some v → kindOf x = some .local →
    bindL kindOf (P.zip vs) m x = some v
  | [], _, _, _, _, h, _, _ => by simp at h
  | _ :: _, [], _, _, _, _, h, _ => by simp at h
  | p :: P, w :: vs, 0, m, nd, h1, h2, hk => by
    simp at h1 h2; subst h1; subst h2
    show bindL kindOf ((p, w) :: P.zip vs) m p = _
    unfold bindL
    rw [bindL_out fun v hv => (List.nodup_cons.mp nd).1 (List.of_mem_zip hv).1, if_pos hk]
    simp
  | p :: P, w :: vs, i + 1, m, nd, h1, h2, hk => by
    show bindL kindOf ((p, w) :: P.zip vs) m x = _
    unfold bindL
    exact bindL_get (i := i) (List.nodup_cons.mp nd).2 (by simpa using h1) (by simpa using h2) hk
theorem bindC_get {kindOf : Str → Option NameKind} {x : Str} {v : Value} : ∀ {P : List Str} {vs : List Value} {i : Nat} {m : Str → Option Value}, P.Nodup → P[i]? = some x → vs[i]? = some v → kindOf x ≠ some .local →
    bindC kindOf (P.zip vs) m x = some v
  | [], _, _, _, _, h, _, _ => by simp at h
  | _ :: _, [], _, _, _, _, h, _ => by simp at h
  | p :: P, w :: vs, 0, m, nd, h1, h2, hk => by
    simp at h1 h2; subst h1; subst h2
    show bindC kindOf ((p, w) :: P.zip vs) m p = _
    unfold bindC
    rw [bindC_out fun v hv => (List.nodup_cons.mp nd).1 (List.of_mem_zip hv).1, if_neg hk]
    simp
  | p :: P, w :: vs, i + 1, m, nd, h1, h2, hk => by
    show bindC kindOf ((p, w) :: P.zip vs) m x = _
    unfold bindC
    exact bindC_get (i := i) (List.nodup_cons.mp nd).2 (by simpa using h1) (by simpa using h2) hk

/-- the names' values at the entry -/
def start (N : List Str) (vs : List V) : St := vs.map some ++ List.replicate (N.length - vs.length) none

/-- the context of a def's body, at its entry; an exception leaves the frame, then lies as CX says -/
def cxOf (CX : CXT) (P : Program) (w : World) (K : PySem.W.Frag) (mg : Str → Option Value) (base : Heap) (N : List Str) (qual : Str) (scope : Scope) (f : Addr) (cd : Value) (A : Around) (outer : List Env) (s : Shared) (H : Hp) (E : XK) : Cx where
  prog := P
  w := w
  K := K
  mg := mg
  base := base
  A := A.deeper (envOfC qual scope s.heap.objs.size f cd)
  N := N
  s₀ := s
  H₀ := H
  env := envOfC qual scope s.heap.objs.size f cd
  outer := outer
  stack := envOfC qual scope s.heap.objs.size f cd :: outer
  ex := []
  calm := true
  fn := fun _ => true
  pn := []
  xe := fun e s' => wpAny (model P w) (A.deeper (envOfC qual scope s.heap.objs.size f cd)) (leaving (envOfC qual scope s.heap.objs.size f cd) e) (fun _ s'' => CX outer H s E e s'') (fun e' s'' => CX outer H s E e' s'') s'

theorem cell_has {sc : Scope} {n : Nat} {x : Str} (h : sc.names.lookup x = some .cell) : ∃ c, (cellsFrom n sc.names []).lookup x = some c := by
  have q := PySem.W.cellsFrom_some sc.names n [] (.inl h)
  exact Option.isSome_iff_exists.mp q

theorem inv_start {CX : CXT} {P : Program} {w : World} {K : PySem.W.Frag} {mg : Str → Option Value} {base : Heap} {N ps : List Str} {qual : Str} {scope : Scope} {f : Addr} {cd : Value} {A : Around} {outer : List Env} {s s1 : Shared} {H : Hp} {E : XK} {us : List Value} {vs : List V}
    (S : FnScope N ps scope) (hd : A.handled = none) (e0 : Env0 P w K mg base A outer s H) (hl : vs.length = ps.length) (r : Vals vs us)
    (x : InCallC s s.heap.objs.size (bindL (envOfC qual scope s.heap.objs.size f cd).kindOf (ps.zip us) fun _ => none) (cellsFrom (s.heap.objs.size + 1) scope.names []) (bindC (envOfC qual scope s.heap.objs.size f cd).kindOf (ps.zip us) fun _ => none) s1) :
    Inv (cxOf CX P w K mg base N qual scope f cd A outer s H E) [] (start N vs) H s1 := by
  have hpl : ps.length ≤ N.length := by have := congrArg List.length S.pre; rw [List.length_take] at this; omega
  obtain ⟨h1, tk, rfl, hk⟩ := x.done
  have noA : ∀ b : Addr, b ∉ (cxOf CX P w K mg base N qual scope f cd A outer s H E).ex := fun b z => absurd (show b ∈ ([] : List Addr) from z) (by simp)
  refine ⟨⟨e0.mod, S.kind, rfl, rfl, Nat.le_refl _, fun y z c h1 h2 => ?_, fun y hy => ?_, fun y c _ h => ?_, fun _ => hd, Around.frames_deeper e0.frames, .inr ⟨rfl, rfl⟩, fun b z => absurd z (noA b), e0.bs, e0.bsz, fun b _ _ => noA b, fun b z => absurd z (noA b), e0.funs, e0.frf⟩,
    rfl, e0.bare, Un.kept hk, ⟨_, x.toInCall.ns, fun i y v h1 h2 h3 => ?_⟩, fun y c h => ⟨_, x.cell y c h⟩, e0.hok.fresh (Nat.le_refl _), fun y c h => ?_, fun p hp => absurd (show p ∈ ([] : List (Addr × Obj)) from hp) (by simp), e0.hok.kept hk, ?_⟩
  · exact name_of_addr x.apart (PySem.mem_of_lookup h1) (PySem.mem_of_lookup h2)
  · have hy : scope.names.lookup y = some .cell ∨ scope.names.lookup y = some .free := hy
    rcases hy with hy | hy
    · exact cell_has hy
    · exact absurd rfl (S.nofree _ (PySem.mem_of_lookup hy))
  · exact Nat.le_of_lt (x.above y c (PySem.mem_of_lookup h))
  · have hi : i < vs.length := by
      unfold start at h2
      by_cases hi : i < vs.length
      · exact hi
      · rw [List.getElem?_append_right (by simpa using hi)] at h2
        rw [List.getElem?_replicate] at h2
        split at h2 <;> cases h2
    have ha : vs[i]? = some v := by
      unfold start at h2
      rw [List.getElem?_append_left (by simpa using hi), List.getElem?_map] at h2
      cases e : vs[i]? with
      | none => rw [e] at h2; cases h2
      | some a => rw [e] at h2; cases h2; rfl
    obtain ⟨u, hu, rv⟩ := r.get ha
    have hp : ps[i]? = some y := by
      rw [← S.pre, List.getElem?_take_of_lt (by omega)]; exact h1
    have ndP : ps.Nodup := by rw [← S.pre]; exact S.nd.sublist (List.take_sublist _ _)
    refine ⟨u, rv, ?_⟩
    rcases S.par y (List.mem_of_getElem? hp) with k | k
    · exact .inl ⟨k, bindL_get ndP hp hu k⟩
    · obtain ⟨c, e⟩ := cell_has (n := s.heap.objs.size + 1) k
      refine .inr ⟨.inl k, c, e, ?_⟩
      have q := x.cell y c e
      rw [bindC_get ndP hp hu (by show scope.names.lookup y ≠ _; rw [k]; decide)] at q
      exact q
  · exact e0.hok.fresh (Nat.le_of_lt (x.above y c (PySem.mem_of_lookup h)))
  · unfold start
    show _ = N.length
    rw [List.length_append, List.length_map, List.length_replicate]
    omega

/-- THE RULE: a def (or a method) of the text, by its body. The body's reading t is chosen for each entry; it is run at the parameters' values -/
theorem fn_of {CX : CXT} {P : Program} {w : World} {K : PySem.W.Frag} {mg : Str → Option Value} {base : Heap} {k : Nat} {f : Addr} {name qual : Str} {params : Arguments} {body : List Stmt} {scope : Scope} {dV kV doc pm cdv ct oc : Value} {an od : Option Addr}
    {osl : Array (Option Value)} {N ps : List Str} {sp : Sp} (lk : K.lookup f = some ⟨oc, od, .func (PySem.W.fnOf name qual params body scope dV kV doc pm an cdv ct), osl⟩) (hcd : PySem.W.codeIn K cdv qual = true) (S : FnScope N ps scope)
    (len : ∀ vs H Q E, sp vs H Q E → vs.length = ps.length)
    (hbody : ∀ (A : Around) (outer : List Env) (s : Shared) (H : Hp) (vs : List V) (Q : VK) (E : XK), Room k (A.deeper (envOfC qual scope s.heap.objs.size f cdv)) → sp vs H Q E →
      ∃ t, PSs (cxOf CX P w K mg base N qual scope f cdv A outer s H E) body t ∧ t { nx := fun _ H' => Q .non H', rt := Q } (start N vs) H) :
    FnOk P w K mg base CX (k + 1) f (PySem.W.fnOf name qual params body scope dV kV doc pm an cdv ct) ps sp := by
  refine ⟨len, fun A outer s H args us vs Q E hr e0 hb r hsp => ?_⟩
  have hl := len _ _ _ _ hsp
  have KX : K.In s.heap := e0.mod.kin.keeps fun b o e => (e0.bs b o e).1
  have lim : s.heap.NoLimit := e0.mod.nolimit.keeps fun b o e => (e0.bs b o e).1
  have hkind : ∀ y ∈ ps.zip us, scope.names.lookup y.1 = some .local ∨ (scope.names.lookup y.1 = some .cell ∧ ((cellsFrom (s.heap.objs.size + 1) scope.names []).lookup y.1).isSome = true) := fun ⟨n, v⟩ hy => by
    rcases S.par n (List.of_mem_zip hy).1 with q | q
    · exact .inl q
    · exact .inr ⟨q, PySem.W.cellsFrom_some _ _ _ (.inl q)⟩
  refine codeAny_call_function hr.depth (KX _ _ lk) rfl S.co S.gen rfl (PySem.W.codeRec_of KX hcd) (hb _ _ _ _ ?_)
  refine wpAny_newFunctionEnv_cells S.kind hkind fun env he s1 x => ?_
  subst he
  refine ⟨lim.keeps x.toInCall.keep, codeAny_func ?_⟩
  obtain ⟨t, ht, hq⟩ := hbody A outer s H vs Q E (hr.deeper _) hsp
  have I : Inv (cxOf CX P w K mg base N qual scope f cdv A outer s H E) [] (start N vs) H s1 := inv_start S hr.hd e0 hl r x
  refine wpAny_mono (ht [] s1 (start N vs) H _ I hq) (fun fl s' hs => ?_) fun e s' hs => hs
  have fin : ∀ {σ' : St} {H' : Hp} {v : V} {u : Value}, Inv (cxOf CX P w K mg base N qual scope f cdv A outer s H E) [] σ' H' s' → RelV v u → Q v H' → CE outer P w H s Q u s' :=
    fun {σ' H' v u} J rv q => ⟨v, H', J.os, J.bare, J.base, J.hok, rv, q⟩
  cases fl with
  | ret u =>
    obtain ⟨v, σ', H', J, rv, q⟩ := hs
    exact fin J rv q
  | next =>
    obtain ⟨σ', H', J, q⟩ := hs
    exact fin (v := V.non) (u := Value.none) J rfl q
  | brk =>
    obtain ⟨_, _, _, q⟩ := hs
    exact False.elim q
  | cont =>
    obtain ⟨_, _, _, q⟩ := hs
    exact False.elim q
end L2

namespace L2
open PySem PySem.Spec PyProof.Rows
section
variable {X : Cx} {x : Str} {p pos : Pos} {e : Expr} {es : List Expr} {t : TA} {id T : String} {r : List V → Hp → VK → Prop}

def tCB (r : List V → Hp → VK → Prop) (t : TA) : TE := fun σ H Q => t σ H fun vs H1 => r vs H1 Q
/-- f(e, ..), f a built-in function -/
theorem pe_callB (hc : CallR X (.builtin id) r) (hg : Gl X x) (hm : X.mg x = none) (hv : bootBuiltins x = some (.builtin id)) (ha : PA X (e :: es) t) (hn : x ≠ "__name__" := by decide) (hdb : (x == ("__debug__" : Str)) = false := by decide)
    (he : starEach (e :: es) X.env = (false, eval e X.env) :: starEach es X.env := by rfl) (hpl : (backTo pos (starEach es X.env)).any (·.1) = false := by rfl) : PE X (.Call (.Name x p) (e :: es) [] pos) (tCB r t) := by
  intro pins s σ H Q I h
  refine wpAny_Call_Name_kw (ld_blt I hg hm hv ?_ hn hdb)
  exact PyProof.Rows.callWith_builtin1 (thn (ha pos pins s σ H _ I h) fun us s1 ⟨vs, H1, I1, r1, q1⟩ => hc pins s1 σ H1 vs us Q I1 r1 q1) he hpl
/-- T(e, ..), T a built-in type -/
theorem pe_callTy (hc : CallR X (.type T) r) (hg : Gl X x) (hm : X.mg x = none) (hv : bootBuiltins x = some (.type T)) (ha : PA X (e :: es) t) (hn : x ≠ "__name__" := by decide) (hdb : (x == ("__debug__" : Str)) = false := by decide)
    (he : starEach (e :: es) X.env = (false, eval e X.env) :: starEach es X.env := by rfl) (hpl : (backTo pos (starEach es X.env)).any (·.1) = false := by rfl) : PE X (.Call (.Name x p) (e :: es) [] pos) (tCB r t) := by
  intro pins s σ H Q I h
  refine wpAny_Call_Name_kw (ld_blt I hg hm hv ?_ hn hdb)
  exact PyProof.Rows.callWith_type1 (thn (ha pos pins s σ H _ I h) fun us s1 ⟨vs, H1, I1, r1, q1⟩ => hc pins s1 σ H1 vs us Q I1 r1 q1) he hpl
end
end L2

namespace HT
open PySem PyProof.Rows

section
open PySem.SeqAt
open PySem.AutoSeq1 (wpAny_loadPart')
open PySem.MeetsSeq PySem.MeetsSeq2 PySem.MeetsSeq3

end

section
variable {prog : Program} {w : World} {A : Around} {E : Value → Shared → Prop} {s : Shared}

/-- t + u, t not empty -/
theorem cat_tup {t b : Addr} {vs ws : List Value} {Q : Value → Shared → Prop} (ht : IsTup s.heap t vs.toArray) (hb : IsTup s.heap b ws.toArray) (hv : vs ≠ [])
    (h1 : ws = [] → Q (.ref t) s) (h2 : ws ≠ [] → Q (.ref s.heap.objs.size) { s with heap := s.heap.push { cls := .type "tuple", data := .seq (vs ++ ws).toArray } })
    (hsz : vs.length + ws.length ≤ sizeLine) : wpAny (model prog w) A (binaryOp .Add (.ref t) (.ref b)) Q E s := by
  obtain ⟨⟨cls, dd, data, sl⟩, ho, hc, n, hd⟩ := id ht
  obtain ⟨⟨cls2, dd2, data2, sl2⟩, ho2, hc2, n2, hd2⟩ := id hb
  simp only at hc hd hc2 hd2
  subst hc hd hc2 hd2
  have e : vs.toArray ++ ws.toArray = (vs ++ ws).toArray := by simp
  by_cases hw : ws = []
  · exact concat_meets ⟨_, ho, rfl⟩ ⟨_, ho2, rfl⟩ noFill_tuple_add seq_tuple_add PySem.F.slot_tuple_add PySem.F.entry_tuple_add (PySem.F.args_tuple_add_2 _ _)
      (tuple_addW1 t b vs.toArray ws.toArray n n2 dd dd2 sl sl2 (by simpa using hv) (by simp [hw])) ⟨ho, ho2, h1 hw⟩
  · refine concat_meets ⟨_, ho, rfl⟩ ⟨_, ho2, rfl⟩ noFill_tuple_add seq_tuple_add PySem.F.slot_tuple_add PySem.F.entry_tuple_add (PySem.F.args_tuple_add_2 _ _)
      (tuple_addW2 t b vs.toArray ws.toArray n n2 dd dd2 sl sl2 (by simpa using hv) (by simpa using hw) (by rw [List.size_toArray, List.size_toArray]; exact hsz)) ⟨ho, ho2, ?_⟩
    rw [e]
    exact h2 hw

/-! ### t[a:b], not the whole -/
/-- a slice's bound as a place among n (d where it is left out) -/
def sIx (n d : Nat) : Option Int → Nat
  | none => d
  | some v => if v < 0 then (v + (n : Int)).toNat else min v.toNat n
theorem sIx_nat (n d k : Nat) : sIx n d (some (k : Int)) = min k n := by
  show (if (k : Int) < 0 then ((k : Int) + (n : Int)).toNat else min (k : Int).toNat n) = min k n
  rw [if_neg (by omega), Int.toNat_natCast]
theorem sIx_le (n d : Nat) (hd : d ≤ n) (o : Option Int) : sIx n d o ≤ n := by
  cases o with
  | none => exact hd
  | some v =>
    show (if v < 0 then (v + (n : Int)).toNat else min v.toNat n) ≤ n
    by_cases hv : v < 0
    · rw [if_pos hv]; omega
    · rw [if_neg hv]; exact Nat.min_le_right _ _
theorem clip_eq (v : Int) (n d : Nat) : (if v < 0 then max (v + (n : Int)) 0 else min v (n : Int)) = ((sIx n d (some v) : Nat) : Int) := by
  show (if v < 0 then max (v + (n : Int)) 0 else min v (n : Int)) = (((if v < 0 then (v + (n : Int)).toNat else min v.toNat n) : Nat) : Int)
  by_cases hv : v < 0
  · simp only [if_pos hv]; omega
  · simp only [if_neg hv]; omega
theorem adjust_gen (lo hi : Option Int) (n : Nat) : Builtin.Slice.sliceAdjust lo hi 1 (n : Int) = (((sIx n 0 lo : Nat) : Int), ((sIx n n hi : Nat) : Int)) := by
  have h1 : ¬ ((1 : Int) < 0) := by omega
  unfold Builtin.Slice.sliceAdjust
  simp only [h1, if_false]
  refine Prod.ext ?_ ?_
  · cases lo with
    | none => rfl
    | some v => exact clip_eq v n 0
  · cases hi with
    | none => rfl
    | some v => exact clip_eq v n n
theorem places_gen (i j : Nat) : Builtin.Slice.slicePlaces (i : Int) (j : Int) 1 = j - i := by
  unfold Builtin.Slice.slicePlaces
  have h1 : (1 : Int) > 0 := by omega
  simp only [h1, if_true, Int.ediv_one]
  split <;> omega
theorem slicePart_ {v : Value} {o : Option Int} {Q : Option Int → Shared → Prop} (p : IsPart v o) (h : Q o s) : wpAny (model prog w) A (Builtin.Slice.slicePartIndex v) Q E s := by
  cases p with
  | none => exact slicePart_none h
  | int i t => exact slicePart_int h
theorem sliceApplied_gen {sl : Addr} {vl vu : Value} {lo hi : Option Int} {n : Nat} {Q : Int × Int × Nat → Shared → Prop} (hs : s.heap.IsSliceOf sl vl vu .none) (pl : IsPart vl lo) (pu : IsPart vu hi)
    (h : Q (((sIx n 0 lo : Nat) : Int), 1, sIx n n hi - sIx n 0 lo) s) : wpAny (model prog w) A (Builtin.Slice.sliceApplied (.ref sl) (pure (n : Int))) Q E s := by
  obtain ⟨os, hos, hcs, hds⟩ := id hs
  unfold Builtin.Slice.sliceApplied Builtin.Slice.sliceFields
  refine wpAny_bind (wpAny_bind (wpAny_field hos hds (x := vl) rfl (wpAny_bind (wpAny_field hos hds (x := vu) rfl (wpAny_bind (wpAny_field hos hds (x := .none) rfl (wpAny_pure ?_)))))))
  refine wpAny_bind (slicePart_none ?_)
  show wpAny _ _ (if ((1 : Int) == 0) = true then _ else _) _ _ s
  rw [if_neg (by decide)]
  refine wpAny_bind (slicePart_ pl (wpAny_bind (slicePart_ pu (wpAny_bind (wpAny_pure ?_)))))
  show wpAny _ _ (match Builtin.Slice.sliceAdjust lo hi 1 (n : Int) with | (lo, hi) => pure (lo, (1 : Int), Builtin.Slice.slicePlaces lo hi 1)) _ _ s
  rw [adjust_gen lo hi n]
  show wpAny _ _ (pure (((sIx n 0 lo : Nat) : Int), (1 : Int), Builtin.Slice.slicePlaces ((sIx n 0 lo : Nat) : Int) ((sIx n n hi : Nat) : Int) 1)) _ _ s
  rw [places_gen]
  exact wpAny_pure h
theorem pick_gen (xs : Array Value) (i k : Nat) : ((List.range k).filterMap fun (m : Nat) => xs[((i : Int) + (m : Int) * 1).toNat]?).toArray = ((xs.toList.drop i).take k).toArray := by
  have e : (fun (m : Nat) => xs[((i : Int) + (m : Int) * 1).toNat]?) = fun m => xs[i + m]? := by
    funext m
    have : ((i : Int) + (m : Int) * 1).toNat = i + m := by omega
    rw [this]
  rw [e]
  have := pick_run xs i k
  rw [List.filterMap_map] at this
  have e2 : ((fun x => xs[x]?) ∘ fun x => i + x) = fun m => xs[i + m]? := rfl
  rw [e2] at this
  rw [this]

theorem getItem_tuple_cut {t sl : Addr} {items : Array Value} {vl vu : Value} {lo hi : Option Int} {Q : Value → Shared → Prop} (ht : IsTup s.heap t items) (hs : s.heap.IsSliceOf sl vl vu .none) (pl : IsPart vl lo) (pu : IsPart vu hi)
    (hw : ¬ (sIx items.size 0 lo = 0 ∧ sIx items.size items.size hi = items.size))
    (h : Q (.ref s.heap.objs.size) { s with heap := s.heap.push { cls := .type "tuple", data := .seq ((items.toList.drop (sIx items.size 0 lo)).take (sIx items.size items.size hi - sIx items.size 0 lo)).toArray } })
    (hsz : items.size ≤ sizeLine) : wpAny (model prog w) A (getItem (.ref t) (.ref sl)) Q E s := by
  have htake : sizeOk (.seq ((items.toList.drop (sIx items.size 0 lo)).take (sIx items.size items.size hi - sIx items.size 0 lo)).toArray) := by
    show ((items.toList.drop (sIx items.size 0 lo)).take (sIx items.size items.size hi - sIx items.size 0 lo)).toArray.size ≤ sizeLine
    rw [List.size_toArray, List.length_take, List.length_drop, Array.length_toList]
    omega
  have hj : sIx items.size items.size hi ≤ items.size := sIx_le _ _ (Nat.le_refl _) hi
  obtain ⟨os, hos, hcs, hds⟩ := id hs
  have hTs : s.TypeIs (.ref sl) "slice" := ⟨os, hos, hcs⟩
  unfold getItem
  try with_reducible refine wpAny_holding ?_
  first | refine wpAny_bind (wpAny_pure ?_) | skip
  refine wpAny_bind (wpAny_sequenceKey ht.typeIs (by decide) ?_)
  refine wpAny_bind (wpAny_callSpecial?_slot (name := Str.ofString "__getitem__") ht.typeIs PyProof.Rows.slot_tuple_getitem
    (wpAny_call_entry PyProof.Rows.slot_tuple_getitem ht.typeIs entry_tuple_getitem ?_ (args_tuple_getitem _ _)))
  show wpAny _ _ (Builtin.Tuple.tupleItemsOf (.ref t) >>= _) _ _ s
  refine wpAny_bind (tupleItemsOf_ ht ?_)
  refine wpAny_bind (wpAny_typeOf hTs ?_)
  rw [if_pos (by decide)]
  refine wpAny_bind (sliceApplied_gen hs pl pu ?_)
  have hno : ¬ ((((sIx items.size 0 lo : Nat) : Int) == 0 && (1 : Int) == 1 && (sIx items.size items.size hi - sIx items.size 0 lo) == items.size) = true) := by
    intro q
    rw [Bool.and_eq_true, Bool.and_eq_true] at q
    have q1 : ((sIx items.size 0 lo : Nat) : Int) = 0 := eq_of_beq q.1.1
    have q2 : sIx items.size items.size hi - sIx items.size 0 lo = items.size := eq_of_beq q.2
    exact hw ⟨by omega, by omega⟩
  show wpAny _ _ (if (((sIx items.size 0 lo : Nat) : Int) == 0 && (1 : Int) == 1 && (sIx items.size items.size hi - sIx items.size 0 lo) == items.size) = true then _ else _) _ _ s
  rw [if_neg hno, pick_gen]
  first
    | exact wpAny_bind (m := Builtin.Tuple.tupleExact _) (wpAny_newObj_type (wpAny_pure ⟨_, rfl, wpAny_pure h⟩) htake)
    | exact wpAny_bind (m := Builtin.Tuple.tupleExact _) (wpAny_newObj_type (wpAny_bind (wpAny_pure (wpAny_pure ⟨_, rfl, wpAny_pure h⟩))) htake)
    | exact wpAny_bind (wpAny_bind (m := Builtin.Tuple.tupleExact _) (wpAny_newObj_type (wpAny_pure (wpAny_pure ⟨_, rfl, wpAny_pure h⟩)) htake))
    | exact wpAny_bind (wpAny_bind (m := Builtin.Tuple.tupleExact _) (wpAny_newObj_type (wpAny_pure ⟨_, rfl, wpAny_pure h⟩) htake))
end
end HT

namespace L2
open PySem PySem.Spec PyProof.Rows

/-! ### the parts of a slice -/
abbrev TO := St → Hp → (Option Int → Hp → Prop) → Prop
/-- a slice's part (left out, or an int) -/
def PO (X : Cx) (e : Option Expr) (t : TO) : Prop :=
  ∀ (pins : List (Addr × Obj)) (s : Shared) (σ : St) (H : Hp) (Q : Option Int → Hp → Prop), Inv X pins σ H s → t σ H Q →
    wpAny (model X.prog X.w) X.A (evalPart e X.env) (fun u s' => ∃ o H', Inv X pins σ H' s' ∧ IsPart u o ∧ Q o H') X.xe s
def tNoPart : TO := fun _ H Q => Q none H
def tPart (t : TE) : TO := fun σ H Q => t σ H fun x H1 => ∃ i, x = .int i ∧ Q (some i) H1

section
variable {X : Cx} {e : Expr} {te : TE} {lo hi : Option Expr} {tl th : TO} {pos p2 : Pos}

theorem po_none : PO X none tNoPart := by
  intro pins s σ H Q I h
  rw [evalPart_none]
  exact wpAny_pure ⟨none, H, I, .none, h⟩
theorem po_some (h : PE X e te) : PO X (some e) (tPart te) := by
  intro pins s σ H Q I hw
  rw [evalPart_some]
  refine thn (h pins s σ H _ I hw) fun u s1 ⟨x, H1, I1, r1, q1⟩ => ?_
  obtain ⟨i, rfl, q⟩ := q1
  obtain ⟨t, rfl⟩ := r1
  exact ⟨some i, H1, I1, .int i t, q⟩

/-- what a slice of a value is, by values: the slice object stands at sl -/
def SlR (X : Cx) (r : V → Option Int → Option Int → Hp → VK → Prop) : Prop :=
  ∀ (pins : List (Addr × Obj)) (s : Shared) (σ : St) (H : Hp) (x : V) (v vl vu : Value) (lo hi : Option Int) (sl : Addr) (Q : VK), Inv X pins σ H s → RelV x v → s.heap.IsSliceOf sl vl vu .none → IsPart vl lo → IsPart vu hi → r x lo hi H Q →
    ∃ T id, typeLookup (.type T) "__getitem__" = pure (some (.builtin id)) ∧ s.TypeIs v T ∧ wpAny (model X.prog X.w) X.A (getItem v (.ref sl)) (EP X pins σ Q) X.xe s
theorem SlR.or {r r' : V → Option Int → Option Int → Hp → VK → Prop} (h : SlR X r) (h' : SlR X r') : SlR X (fun x lo hi H Q => r x lo hi H Q ∨ r' x lo hi H Q) := by
  intro pins s σ H x v vl vu lo hi sl Q I rx hs pl pu q
  rcases q with q | q
  · exact h pins s σ H x v vl vu lo hi sl Q I rx hs pl pu q
  · exact h' pins s σ H x v vl vu lo hi sl Q I rx hs pl pu q
def tSl (r : V → Option Int → Option Int → Hp → VK → Prop) (te : TE) (tl th : TO) : TE := fun σ H Q => te σ H fun x H1 => tl σ H1 fun l H2 => th σ H2 fun u H3 => r x l u H3 Q
/-- a[lo:hi], any a -/
theorem pe_slice {r : V → Option Int → Option Int → Hp → VK → Prop} (hr : SlR X r) (he : PE X e te) (hl : PO X lo tl) (hu : PO X hi th) : PE X (.Subscript e (.Slice lo hi none p2) pos) (tSl r te tl th) := by
  intro pins s σ H Q I h
  refine Subscript_ (thn (he pins s σ H _ I h) fun v s1 ⟨x, H1, I1, r1, q1⟩ => ?_)
  refine wpAny_Slice (thn (hl pins s1 σ H1 _ I1 q1) fun vl s2 ⟨l, H2, I2, pl, q2⟩ => thn (hu pins s2 σ H2 _ I2 q2) fun vu s3 ⟨u, H3, I3, pu, q3⟩ => ?_)
  rw [evalPart_none]
  refine wpAny_pure ?_
  have I4 : Inv X pins σ H3 { s3 with heap := s3.heap.push { cls := .type "slice", data := .fields #[vl, vu, .none] } } := I3.kept (t' := s3.toks) fun b ob q => Heap.get?_push_of_some _ q
  obtain ⟨T, id, hT, ht, hg⟩ := hr pins { s3 with heap := s3.heap.push { cls := .type "slice", data := .fields #[vl, vu, .none] } } σ H3 x v vl vu l u s3.heap.objs.size Q I4 r1 (Heap.IsSliceOf.new ..) pl pu q3
  show wpAny (model X.prog X.w) X.A (subscriptTail e (.Slice lo hi none p2) v (.ref s3.heap.objs.size)) (EP X pins σ Q) X.xe { s3 with heap := s3.heap.push { cls := .type "slice", data := .fields #[vl, vu, .none] } }
  exact tail_any (ops := [.ref s3.heap.objs.size, v]) ht hT hg (by with_unfolding_all rfl)

/-- the items of xs[lo:hi] -/
def cutV (xs : List V) (lo hi : Option Int) : List V := (xs.drop (HT.sIx xs.length 0 lo)).take (HT.sIx xs.length xs.length hi - HT.sIx xs.length 0 lo)
theorem cutV_length (xs : List V) (lo hi : Option Int) : (cutV xs lo hi).length ≤ xs.length := by
  unfold cutV
  rw [List.length_take, List.length_drop]
  omega
/-- t[lo:hi], not the whole of it (the whole would be t itself) -/
def rSlT (K : PySem.W.Frag) : V → Option Int → Option Int → Hp → VK → Prop := fun x lo hi H Q => ∃ a xs, x = .ref a ∧ SqT K H a xs ∧
  ¬ (HT.sIx xs.length 0 lo = 0 ∧ HT.sIx xs.length xs.length hi = xs.length) ∧ ∀ p, H p = none → Q (.ref p) (upd H p (.tup (cutV xs lo hi)))
theorem sl_tup : SlR X (rSlT X.K) := by
  intro pins s σ H x v vl vu lo hi sl Q I rx hs pl pu h
  obtain ⟨a, xs, rfl, hx, hw, q⟩ := h
  cases rx
  obtain ⟨its, r, ht, hz⟩ := I.tuple hx
  have hlen : its.toArray.size = xs.length := by rw [List.size_toArray]; exact r.length.symm
  refine ⟨"tuple", _, PyProof.Rows.slot_tuple_getitem.lookup, ht.typeIs, ?_⟩
  refine HT.getItem_tuple_cut ht hs pl pu (by rw [hlen]; exact hw) ?_ (by rw [hlen]; exact hz)
  rw [hlen]
  refine ⟨.ref s.heap.objs.size, _, I.laid (t' := s.toks) (o := .tup (cutV xs lo hi)) (fun b ob q => Heap.get?_push_of_some _ q) (Nat.le_refl _) ?_, rfl, q _ (I.hok.fresh (Nat.le_refl _))⟩
  exact ⟨Nat.le_trans (cutV_length xs lo hi) hz, _, (r.drop (HT.sIx xs.length 0 lo)).take (HT.sIx xs.length xs.length hi - HT.sIx xs.length 0 lo), IsTup.new _ _⟩

/-- t + u, t not empty: u empty gives t itself -/
def rCatT (K : PySem.W.Frag) : R2 := fun x y H Q => ∃ a b xs ys, x = .ref a ∧ y = .ref b ∧ SqT K H a xs ∧ SqT K H b ys ∧ xs ≠ [] ∧ xs.length + ys.length ≤ sizeLine ∧
  (ys = [] → Q (.ref a) H) ∧ (ys ≠ [] → ∀ p, H p = none → Q (.ref p) (upd H p (.tup (xs ++ ys))))
theorem Vals.nil_iff {xs : List V} {us : List Value} (r : Vals xs us) : us = [] ↔ xs = [] := by
  cases r with
  | nil => simp
  | cons _ _ => simp
theorem op_catT : OpR X (binaryOp .Add) (rCatT X.K) := by
  intro pins s σ H x y v u Q I rx ry h
  obtain ⟨a, b, xs, ys, rfl, rfl, ha, hb, hx, hz, q1, q2⟩ := h
  cases rx
  cases ry
  obtain ⟨its, r1, p1, _⟩ := I.tuple ha
  obtain ⟨its2, r2, p2, _⟩ := I.tuple hb
  refine HT.cat_tup p1 p2 (fun z => hx (r1.nil_iff.mp z)) (fun z => ⟨.ref a, H, I, rfl, q1 (r2.nil_iff.mp z)⟩) (fun z => ?_) (by rw [← r1.length, ← r2.length]; exact hz)
  refine ⟨.ref s.heap.objs.size, _, I.laid (t' := s.toks) (o := .tup (xs ++ ys)) (fun b ob q => Heap.get?_push_of_some _ q) (Nat.le_refl _) ?_, rfl, q2 (fun w => z (r2.nil_iff.mpr w)) _ (I.hok.fresh (Nat.le_refl _))⟩
  exact ⟨by rw [List.length_append]; exact hz, _, r1.append r2, IsTup.new _ _⟩
end
end L2

namespace L2
open PySem PySem.Spec PyProof.Rows

/-! ### places -/
/-- the place that an index of any sign means -/
def ixN (n : Nat) (i : Int) : Option Nat := if 0 ≤ i then (if i < n then some i.toNat else none) else if -(n : Int) ≤ i then some (i + n).toNat else none
def atI {α : Type} (xs : List α) (i : Int) : Option α := (ixN xs.length i).bind fun j => xs[j]?
theorem ixN_seq {n : Nat} {i : Int} {j : Nat} (h : ixN n i = some j) : seqIndex? i n = some j ∧ j < n ∧ -(n : Int) ≤ i ∧ i < n := by
  unfold ixN at h
  by_cases h0 : 0 ≤ i
  · rw [if_pos h0] at h
    by_cases h1 : i < n
    · rw [if_pos h1] at h
      have e : i.toNat = j := Option.some.inj h
      exact ⟨by rw [seqIndex_of h0 h1, e], by omega, by omega, h1⟩
    · rw [if_neg h1] at h; cases h
  · rw [if_neg h0] at h
    by_cases h1 : -(n : Int) ≤ i
    · rw [if_pos h1] at h
      have e : (i + n).toNat = j := Option.some.inj h
      exact ⟨by rw [seqIndex_neg (by omega) h1, e], by omega, h1, by omega⟩
    · rw [if_neg h1] at h; cases h
theorem atI_get {α : Type} {xs : List α} {i : Int} {v : α} (h : atI xs i = some v) : ∃ j, seqIndex? i xs.length = some j ∧ xs[j]? = some v ∧ j < xs.length ∧ -(xs.length : Int) ≤ i ∧ i < xs.length := by
  unfold atI at h
  cases e : ixN xs.length i with
  | none => rw [e] at h; cases h
  | some j =>
    rw [e] at h
    obtain ⟨h1, h2, h3, h4⟩ := ixN_seq e
    exact ⟨j, h1, h, h2, h3, h4⟩
theorem atI_last {α : Type} (xs : List α) (v : α) : atI (xs ++ [v]) (-1) = some v := by
  have hl : (xs ++ [v]).length = xs.length + 1 := by simp
  have e : ixN (xs ++ [v]).length (-1) = some xs.length := by
    unfold ixN
    rw [hl, if_neg (by decide), if_pos (by omega)]
    congr 1
    omega
  unfold atI
  rw [e]
  show (xs ++ [v])[xs.length]? = some v
  simp

/-! ### what may be subscripted -/
/-- what stands as an index of a plain subscript -/
def PlainIx (b : Expr) : Prop := ∀ o i, subscripted b false o i = operate [o, i] (getItem o i)
/-- a subscript by values -/
def IxR (X : Cx) (r : R2) : Prop :=
  ∀ (value slice : Expr) (pins : List (Addr × Obj)) (s : Shared) (σ : St) (H : Hp) (x y : V) (v u : Value) (Q : VK), Inv X pins σ H s → RelV x v → RelV y u → r x y H Q →
    subscripted slice false v u = operate [v, u] (getItem v u) → wpAny (model X.prog X.w) X.A (subscriptTail value slice v u) (EP X pins σ Q) X.xe s
/-- a call of a builtin's method by values: the receiver, the arguments -/
def MtR (X : Cx) (id : String) (r : V → List V → Hp → VK → Prop) : Prop :=
  ∀ (pins : List (Addr × Obj)) (s : Shared) (σ : St) (H : Hp) (x : V) (xs : List V) (v : Value) (us : List Value) (Q : VK), Inv X pins σ H s → RelV x v → Vals xs us → r x xs H Q →
    wpAny (model X.prog X.w) X.A (call (.builtin id) (v :: us)) (EP X pins σ Q) X.xe s
section
variable {X : Cx} {a b : Expr} {ta tb : TE} {pos : Pos}
theorem IxR.or {r r' : R2} (h : IxR X r) (h' : IxR X r') : IxR X (fun x y H Q => r x y H Q ∨ r' x y H Q) := by
  intro value slice pins s σ H x y v u Q I rx ry q hs
  rcases q with q | q
  · exact h value slice pins s σ H x y v u Q I rx ry q hs
  · exact h' value slice pins s σ H x y v u Q I rx ry q hs
theorem MtR.or {id : String} {r r' : V → List V → Hp → VK → Prop} (h : MtR X id r) (h' : MtR X id r') : MtR X id (fun x xs H Q => r x xs H Q ∨ r' x xs H Q) := by
  intro pins s σ H x xs v us Q I rx rs q
  rcases q with q | q
  · exact h pins s σ H x xs v us Q I rx rs q
  · exact h' pins s σ H x xs v us Q I rx rs q
/-- a[b] -/
theorem pe_ix {r : R2} (hr : IxR X r) (ha : PE X a ta) (hb : PE X b tb) (hs : PlainIx b) : PE X (.Subscript a b pos) (tOp r ta tb) := by
  intro pins s σ H Q I h
  exact Subscript_ (binT ha hb I h fun v u s2 x y H2 I2 rx ry q => hr a b pins s2 σ H2 x y v u Q I2 rx ry q (hs _ _))

def rIxL (K : PySem.W.Frag) : R2 := fun x y H Q => ∃ p xs i v, x = .ref p ∧ y = .int i ∧ SqL K H p xs ∧ atI xs i = some v ∧ Q v H
def rIxT (K : PySem.W.Frag) : R2 := fun x y H Q => ∃ p xs i v, x = .ref p ∧ y = .int i ∧ SqT K H p xs ∧ atI xs i = some v ∧ Q v H
theorem ix_list : IxR X (rIxL X.K) := by
  intro value slice pins s σ H x y v u Q I rx ry h hs
  obtain ⟨p, xs, i, z, rfl, rfl, hq, he, q⟩ := h
  cases rx
  obtain ⟨t, rfl⟩ := ry
  obtain ⟨its, r, pl, hz⟩ := I.list hq
  obtain ⟨j, h1, h2, h3, h4, h5⟩ := atI_get he
  obtain ⟨w, ew, rw'⟩ := r.get h2
  have hl := r.length
  have hn := line63
  have fin : EP X pins σ Q w s := ⟨z, H, I, rw', q⟩
  by_cases h0 : 0 ≤ i
  · have hj : i.toNat = j := by
      rw [seqIndex_of h0 h5] at h1
      exact Option.some.inj h1
    exact item_listR pl.isList h0 (by omega) (by rw [hj]; simpa using ew) fin hs
  · have hj : (i + (its.toArray.size : Int)).toNat = j := by
      rw [seqIndex_neg (by omega) h4] at h1
      rw [List.size_toArray, ← hl]
      exact Option.some.inj h1
    exact subscriptTail_builtinR (x := w) pl.isList.typeIs slot_list_getitem.lookup
      (wpAny_getItem_list_neg (Q := fun r s' => r = w ∧ EP X pins σ Q r s') pl.isList (by omega) (by rw [List.size_toArray] <;> omega) (by omega) (by rw [hj]; simpa using ew) ⟨rfl, fin⟩) hs
theorem ix_tup : IxR X (rIxT X.K) := by
  intro value slice pins s σ H x y v u Q I rx ry h hs
  obtain ⟨p, xs, i, z, rfl, rfl, hq, he, q⟩ := h
  cases rx
  obtain ⟨t, rfl⟩ := ry
  obtain ⟨its, r, pl, hz⟩ := I.tuple hq
  obtain ⟨j, h1, h2, h3, h4, h5⟩ := atI_get he
  obtain ⟨w, ew, rw'⟩ := r.get h2
  have hl := r.length
  have hn := line63
  have fin : EP X pins σ Q w s := ⟨z, H, I, rw', q⟩
  exact subscriptTail_builtinR (x := w) pl.typeIs slot_tuple_getitem.lookup
    (getItem_tuple (j := j) (Q := fun r s' => r = w ∧ EP X pins σ Q r s') pl (by omega) (by omega) (by rw [List.size_toArray, ← hl]; exact h1) (by simpa using ew) ⟨rfl, fin⟩) hs
/-! ### xs[i] = v, any sign -/
/-- the list's object behind a store -/
theorem mapSeq_set (its : List Value) (n j : Nat) (u : Value) : Obj.mapSeq (·.setIfInBounds j u) { cls := .type "list", data := .seq its.toArray n } = { cls := .type "list", data := .seq (its.set j u).toArray n } := by
  simp [Obj.mapSeq]
theorem Inv.lst {pins : List (Addr × Obj)} {σ : St} {H : Hp} {s : Shared} {p : Addr} {xs : List V} (I : Inv X pins σ H s) (h : H p = some (.lst xs)) :
    ∃ (its : List Value) (n : Nat), Vals xs its ∧ s.heap.get? p = some { cls := .type "list", data := .seq its.toArray n } ∧ xs.length ≤ sizeLine := by
  obtain ⟨z, its, n, r, e⟩ := I.hok p _ h
  exact ⟨its, n, r, e, z⟩
/-- the list at p is written by an update of its object -/
theorem Inv.lstUpd {pins : List (Addr × Obj)} {σ : St} {H : Hp} {s : Shared} {p : Addr} {xs ys : List V} {its its' : List Value} {n n' : Nat} {f : Obj → Obj} (I : Inv X pins σ H s) (h : H p = some (.lst xs))
    (ho : s.heap.get? p = some { cls := .type "list", data := .seq its.toArray n }) (hf : f { cls := .type "list", data := .seq its.toArray n } = { cls := .type "list", data := .seq its'.toArray n' }) (r : Vals ys its') (hz : ys.length ≤ sizeLine) (t : Nat) :
    Inv X pins σ (upd H p (.lst ys)) { s with heap := s.heap.update p f, toks := t } := by
  have e : (s.heap.update p f).get? p = some { cls := .type "list", data := .seq its'.toArray n' } := by
    rw [Heap.get?_update_self f ho (by rw [hf] <;> rfl), hf]
  refine I.write (x := p) (e := p) (by rw [h]; trivial) (.inl rfl) (fun b u hb q => (Heap.get?_update_other _ _ (Ne.symm hb)).trans q) ⟨_, e⟩ ?_
  exact ⟨hz, its', n', r, e⟩
def rSetL : V → V → V → Hp → (Hp → Prop) → Prop := fun o i v H Q => ∃ p xs k j, o = .ref p ∧ i = .int k ∧ H p = some (.lst xs) ∧ ixN xs.length k = some j ∧ Q (upd H p (.lst (xs.set j v)))
theorem set_list : PSet X rSetL := by
  intro pins s σ H o i v ov iv u Q I ro ri rv h
  obtain ⟨p, xs, k, j, rfl, rfl, hp, hj, q⟩ := h
  cases ro
  obtain ⟨t, rfl⟩ := ri
  obtain ⟨its, n, r, ho, hz⟩ := I.lst hp
  obtain ⟨h1, h2, h3, h4⟩ := ixN_seq hj
  have hl := r.length
  have hn := line63
  have I' : Inv X pins σ (upd H p (.lst (xs.set j v))) { s with heap := s.heap.update p (Obj.mapSeq (·.setIfInBounds j u)) } :=
    I.lstUpd hp ho (mapSeq_set its n j u) (r.set rv j) (by rw [List.length_set]; exact hz) s.toks
  by_cases h0 : 0 ≤ k
  · have hk : k.toNat = j := by
      rw [seqIndex_of h0 h4] at h1
      exact Option.some.inj h1
    exact PySem.W.ki_setAt ho h0 (by omega) (by rw [List.size_toArray, ← hl]; exact h4) (by rw [hk]; exact ⟨_, I', q⟩)
  · have hk : (k + (its.toArray.size : Int)).toNat = j := by
      rw [seqIndex_neg (by omega) h3] at h1
      rw [List.size_toArray, ← hl]
      exact Option.some.inj h1
    exact PySem.W.ki_setBack ho (by omega) (by rw [List.size_toArray, ← hl]; exact h3) (by omega) (by rw [hk]; exact ⟨_, I', q⟩)

/-! ### slices -/
theorem slice_bounds (lo hi : Option Int) (n : Nat) : (sliceBounds lo hi none n).1 = ((HT.sIx n 0 lo : Nat) : Int) ∧ (sliceBounds lo hi none n).2.1 = ((HT.sIx n n hi : Nat) : Int) ∧ (sliceBounds lo hi none n).2.2 = 1 := by
  refine ⟨?_, ?_, rfl⟩
  · cases lo with
    | none => simp [sliceBounds, HT.sIx]
    | some i =>
      simp only [sliceBounds, HT.sIx, Option.getD_none, show (1 : Int) > 0 by decide, if_true]
      by_cases h : i < 0
      · simp only [h, if_true] <;> omega
      · simp only [h, if_false] <;> omega
  · cases hi with
    | none => simp [sliceBounds, HT.sIx]
    | some i =>
      simp only [sliceBounds, HT.sIx, Option.getD_none, show (1 : Int) > 0 by decide, if_true]
      by_cases h : i < 0
      · simp only [h, if_true] <;> omega
      · simp only [h, if_false] <;> omega
theorem slicePick_cut (its : List Value) (lo hi : Option Int) : slicePick its.toArray lo hi none = ((its.drop (HT.sIx its.length 0 lo)).take (HT.sIx its.length its.length hi - HT.sIx its.length 0 lo)).toArray := by
  obtain ⟨h1, h2, h3⟩ := slice_bounds lo hi its.toArray.size
  unfold slicePick
  rw [h1, h2, h3]
  simp only [sliceRange_one, pick_run, List.size_toArray] <;> rfl
/-- xs[lo:hi] of a list: a new list -/
def rSlL (K : PySem.W.Frag) : V → Option Int → Option Int → Hp → VK → Prop := fun x lo hi H Q => ∃ a xs, x = .ref a ∧ SqL K H a xs ∧ ∀ p, H p = none → Q (.ref p) (upd H p (.lst (cutV xs lo hi)))
theorem sl_list : SlR X (rSlL X.K) := by
  intro pins s σ H x v vl vu lo hi sl Q I rx hs pl pu h
  obtain ⟨a, xs, rfl, hx, q⟩ := h
  cases rx
  obtain ⟨its, r, ht, hz⟩ := I.list hx
  have hlen := r.length
  refine ⟨"list", _, slot_list_getitem.lookup, ht.isList.typeIs, ?_⟩
  refine wpAny_getItem_list_slice ht.isList hs pl pu .none (by simp) ?_ (by rw [List.size_toArray] <;> omega)
  rw [slicePick_cut, ← hlen]
  refine ⟨.ref s.heap.objs.size, _, I.laid (t' := s.toks) (o := .lst (cutV xs lo hi)) (fun b ob q => Heap.get?_push_of_some _ q) (Nat.le_refl _) ?_, rfl, q _ (I.hok.fresh (Nat.le_refl _))⟩
  exact ⟨Nat.le_trans (cutV_length xs lo hi) hz, _, 0, (r.drop (HT.sIx xs.length 0 lo)).take (HT.sIx xs.length xs.length hi - HT.sIx xs.length 0 lo), Heap.get?_push_size _ rfl⟩

/-! ### len, list(x), tuple(x) of any list or tuple that is read -/
theorem call_len_seq : CallR X (.builtin "len") (fun xs H Q => ∃ p ys, xs = [.ref p] ∧ (SqL X.K H p ys ∨ SqT X.K H p ys) ∧ Q (.int ys.length) H) := by
  intro pins s σ H xs us Q I r h
  obtain ⟨p, ys, rfl, hq, q⟩ := h
  obtain ⟨u, rfl, rx⟩ := vals1 r
  cases rx
  have hn := line63
  rcases hq with hq | hq
  · obtain ⟨its, r', pl, hz⟩ := I.list hq
    have hlen := r'.length
    exact Calls.call_len_list pl.isList (by simp only [List.size_toArray] <;> omega) ⟨.int ys.length, H, I.tok _, ⟨s.toks + 1, by rw [List.size_toArray, hlen]⟩, q⟩
  · obtain ⟨its, r', pl, hz⟩ := I.tuple hq
    have hlen := r'.length
    exact len_tuple pl (by simp only [List.size_toArray] <;> omega) ⟨.int ys.length, H, I.tok _, ⟨s.toks + 1, by rw [List.size_toArray, hlen]⟩, q⟩
theorem CallR.or {f : Value} {r r' : List V → Hp → VK → Prop} (h : CallR X f r) (h' : CallR X f r') : CallR X f (fun xs H Q => r xs H Q ∨ r' xs H Q) := by
  intro pins s σ H xs us Q I rs q
  rcases q with q | q
  · exact h pins s σ H xs us Q I rs q
  · exact h' pins s σ H xs us Q I rs q
theorem call_tuple_of : CallR X (.type "tuple") (fun xs H Q => ∃ p ys, xs = [.ref p] ∧ ((SqL X.K H p ys ∧ ∀ l, H l = none → Q (.ref l) (upd H l (.tup ys))) ∨ (SqT X.K H p ys ∧ Q (.ref p) H))) := by
  intro pins s σ H xs us Q I r h
  obtain ⟨p, ys, rfl, h⟩ := h
  obtain ⟨u, rfl, rx⟩ := vals1 r
  cases rx
  rcases h with ⟨hq, q⟩ | ⟨hq, q⟩
  · obtain ⟨its, r', pl, hz⟩ := I.list hq
    have hlen := r'.length
    refine call_tuple_list pl.isList (fun h' kp => ?_) (by simp only [List.size_toArray] <;> omega)
    have I1 : Inv X pins σ H { s with heap := h' } := I.kept (t' := s.toks) kp
    have I2 : Inv X pins σ (upd H h'.objs.size (.tup ys)) { s with heap := h'.push { cls := .type "tuple", data := .seq its.toArray } } :=
      I1.laid (t' := s.toks) (fun b o e => Heap.get?_push_of_some _ e) (Nat.le_refl _) (show ObjOk X.prog X.w _ _ _ (.tup ys) from ⟨hz, its, r', IsTup.new _ _⟩)
    exact ⟨.ref h'.objs.size, _, I2, rfl, q _ (I1.hok.fresh (Nat.le_refl _))⟩
  · obtain ⟨its, r', pl, hz⟩ := I.tuple hq
    exact call_tuple_same pl ⟨.ref p, H, I, rfl, q⟩

/-! ### the call of a builtin's method: o.m(..) -/
/-- the value is of that builtin type -/
def tyV (K : PySem.W.Frag) (T : String) (x : V) (H : Hp) : Prop := match x with
  | .str _ => T = "str"
  | .int _ => T = "int"
  | .ref p => (T = "list" ∧ ∃ xs, SqL K H p xs) ∨ (T = "tuple" ∧ ∃ o, K.lookup p = some o ∧ o.cls = .type "tuple" ∧ o.dict = none) ∨
      (T = "dict" ∧ ((∃ kvs, H p = some (.dK kvs)) ∨ ∃ kvs, H p = some (.dT kvs))) ∨ (T = "set" ∧ ∃ S n, H p = some (.set S n))
  | _ => False
theorem tyV_is {pins : List (Addr × Obj)} {σ : St} {H : Hp} {s : Shared} {T : String} {x : V} {v : Value} (I : Inv X pins σ H s) (r : RelV x v) (ty : tyV X.K T x H) :
    s.TypeIs v T ∧ ∀ a, v = .ref a → ∃ ob, s.heap.get? a = some ob ∧ ob.dict = none := by
  cases x with
  | str z =>
    obtain ⟨t, rfl⟩ := r
    cases (show T = "str" from ty)
    exact ⟨typeIs_str s z t, fun _ e => nomatch e⟩
  | int i =>
    obtain ⟨t, rfl⟩ := r
    cases (show T = "int" from ty)
    exact ⟨typeIs_int s i t, fun _ e => nomatch e⟩
  | ref p =>
    cases r
    rcases ty with ⟨rfl, xs, hq⟩ | ⟨rfl, o, hk, hc, hd⟩ | ⟨rfl, hk⟩ | ⟨rfl, S, n, hk⟩
    · obtain ⟨its, _, pl, _⟩ := I.list hq
      refine ⟨pl.isList.typeIs, fun a e => ?_⟩
      cases e
      obtain ⟨o, n, e, c, hd, _⟩ := pl
      exact ⟨o, e, hd⟩
    · refine ⟨⟨o, I.kIn p o hk, hc⟩, fun a e => ?_⟩
      cases e
      exact ⟨o, I.kIn _ o hk, hd⟩
    · have z : ∃ o, s.heap.get? p = some o ∧ o.ExactDict := by
        rcases hk with ⟨kvs, hk⟩ | ⟨kvs, hk⟩
        · obtain ⟨_, _, _, _, o, _, _, e, ex, _⟩ := I.hok p _ hk
          exact ⟨o, e, ex⟩
        · obtain ⟨_, _, _, _, o, _, _, e, ex, _⟩ := I.hok p _ hk
          exact ⟨o, e, ex⟩
      obtain ⟨o, e, ex⟩ := z
      refine ⟨⟨o, e, ex.1⟩, fun a e2 => ?_⟩
      cases e2
      exact ⟨o, e, ex.2.1⟩
    · obtain ⟨o, _, _, _, e, ex, _⟩ := I.hok p _ hk
      refine ⟨⟨o, e, ex.1⟩, fun a e2 => ?_⟩
      cases e2
      exact ⟨o, e, ex.2.1⟩
  | _ => exact False.elim ty
def tBM (K : PySem.W.Frag) (T : String) (r : V → List V → Hp → VK → Prop) (to : TE) (t : TA) : TE := fun σ H Q => to σ H fun x H1 => tyV K T x H1 ∧ t σ H1 fun xs H2 => r x xs H2 Q
variable {o e : Expr} {es : List Expr} {to : TE} {t : TA} {name : Str} {apos cpos : Pos} {T id : String} {r : V → List V → Hp → VK → Prop}
theorem pe_bm (pa : PlainAttrs T) (slot : Slot T name id) (hty : typeOf (.builtin id) = pure (.type "method_descriptor")) (hm : MtR X id r) (ho : PE X o to) (ha : PA X (e :: es) t)
    (hbase : attributeBase o name X.env (eval o X.env) = eval o X.env := by rfl)
    (hfew : ((backTo cpos (starEach (e :: es) X.env)).all (fun x => !x.1) && (backToKw cpos (keywordEach [] X.env)).all (fun x => x.1.isSome)
      && decide ((e :: es).length + ([] : List Keyword).length + (if ([] : List Keyword).isEmpty then 0 else 1) < 30)) = true := by rfl)
    (hline : (apos.endLine == cpos.line) = true := by rfl) (hs : starEach (e :: es) X.env = (false, eval e X.env) :: starEach es X.env := by rfl) (hplain : (backTo cpos (starEach es X.env)).any (·.1) = false := by rfl) :
    PE X (.Call (.Attribute o name apos) (e :: es) [] cpos) (tBM X.K T r to t) := by
  intro pins s σ H Q I h
  refine wpAny_Call_method_late hbase hfew hline rfl (thn (ho pins s σ H _ I h) fun v s1 ⟨x, H1, I1, r1, ty, q1⟩ => ?_)
  obtain ⟨h1, h2⟩ := tyV_is I1 r1 ty
  refine ⟨T, id, pa, slot, hty, h1, h2, ?_⟩
  have hA := ha cpos pins s1 σ H1 _ I1 q1
  rw [hs] at hA ⊢
  refine Calls.callWith_builtin (by show (false || (backTo cpos (starEach es X.env)).any (·.1)) = false; rw [hplain] <;> rfl) (Calls.evalArgs_plain ?_)
  exact thn hA fun us s2 ⟨vs, H2, I2, r2, q2⟩ => hm pins s2 σ H2 x vs v us Q I2 r1 r2 q2
/- xs.append(e), list.index on a module's tuple .. are MtR facts of 06m -/
end
end L2

namespace L2
open PySem PySem.Spec PyProof.Rows

def MtM (X : Cx) (id : String) (r : V → List V → Hp → VK → Prop) : Prop :=
  ∀ (pins : List (Addr × Obj)) (s : Shared) (σ : St) (H : Hp) (x : V) (xs : List V) (v : Value) (us : List Value) (Q : VK), Inv X pins σ H s → RelV x v → Vals xs us → r x xs H Q →
    wpAny (model X.prog X.w) X.A (call (.builtin id) (v :: us)) (EP X pins σ Q) X.xe s

/-! ### lists of values -/
theorem Vals.one : ∀ {x : V} {us : List Value}, Vals [x] us → ∃ u, us = [u] ∧ RelV x u
  | _, _, .cons r .nil => ⟨_, rfl, r⟩
theorem Vals.two : ∀ {x y : V} {us : List Value}, Vals [x, y] us → ∃ u v, us = [u, v] ∧ RelV x u ∧ RelV y v
  | _, _, _, .cons r (.cons q .nil) => ⟨_, _, rfl, r, q⟩
theorem Vals.zero : ∀ {us : List Value}, Vals [] us → us = []
  | _, .nil => rfl
theorem Vals.dropLast {xs : List V} {us : List Value} (h : Vals xs us) : Vals xs.dropLast us.dropLast := by
  induction h with
  | nil => exact .nil
  | cons r t ih =>
    cases t with
    | nil => exact .nil
    | cons q t' => exact .cons r ih
theorem Vals.eraseIdx : ∀ {xs : List V} {us : List Value} (i : Nat), Vals xs us → Vals (xs.eraseIdx i) (us.eraseIdx i)
  | _, _, _, .nil => .nil
  | _, _, 0, .cons _ t => t
  | _, _, i + 1, .cons r t => .cons r (Vals.eraseIdx i t)
theorem Vals.reverse {xs : List V} {us : List Value} (h : Vals xs us) : Vals xs.reverse us.reverse := by
  induction h with
  | nil => exact .nil
  | cons r t ih => rw [List.reverse_cons, List.reverse_cons]; exact Vals.append ih (.cons r .nil)
section
variable {X : Cx} {pins : List (Addr × Obj)} {σ : St} {H : Hp} {s : Shared} {l b : Addr} {xs ys zs : List V}

/-! ### the two steps: a tracked list is rewritten, a new list is laid -/
theorem Inv.lset {its its' : List Value} {n : Nat} {f : Array Value → Array Value} {t' : Nat} (I : Inv X pins σ H s) (hH : H l = some (.lst xs))
    (e : s.heap.get? l = some { cls := .type "list", data := .seq its.toArray n }) (hf : f its.toArray = its'.toArray) (hv : Vals ys its') (hz : ys.length ≤ sizeLine) :
    Inv X pins σ (upd H l (.lst ys)) { s with heap := s.heap.update l (Obj.mapSeq f), toks := t' } := by
  have q := PySem.IsL.update e f
  rw [hf] at q
  refine I.write (x := l) (e := l) (by rw [hH]; exact trivial) (.inl rfl) (fun b' u hb hu => (Heap.get?_update_other s.heap (Obj.mapSeq f) (Ne.symm hb)).trans hu) ⟨_, q⟩ ?_
  exact ⟨hz, its', _, hv, q⟩
theorem Inv.lnew {its : List Value} {t' : Nat} (I : Inv X pins σ H s) (hv : Vals ys its) (hz : ys.length ≤ sizeLine) :
    Inv X pins σ (upd H s.heap.objs.size (.lst ys)) { s with heap := s.heap.push { cls := .type "list", data := .seq its.toArray }, toks := t' } :=
  I.laid (fun _ _ q => Heap.get?_push_of_some _ q) (Nat.le_refl _) ⟨hz, its, 0, hv, Heap.get?_push_size _ rfl⟩
theorem Inv.fresh (I : Inv X pins σ H s) : H s.heap.objs.size = none := I.hok.fresh (Nat.le_refl _)
theorem Inv.lstM (I : Inv X pins σ H s) (hH : H l = some (.lst xs)) : xs.length ≤ sizeLine ∧ ∃ (its : List Value) (n : Nat), Vals xs its ∧ xs.length = its.length ∧ s.heap.get? l = some { cls := .type "list", data := .seq its.toArray n } := by
  obtain ⟨z, its, n, r, e⟩ := I.hok l _ hH
  exact ⟨z, its, n, r, r.length, e⟩

end

section
variable {X : Cx}

/-! ### methods -/
def rAppend : V → List V → Hp → VK → Prop := fun x vs H Q => ∃ l xs y, x = .ref l ∧ vs = [y] ∧ H l = some (.lst xs) ∧ xs.length < sizeLine ∧ Q .non (upd H l (.lst (xs ++ [y])))
theorem mt_append : MtM X "list.append" rAppend := by
  intro pins s σ H x vs v us Q I rx rv h
  obtain ⟨l, xs, y, rfl, rfl, hH, hz, q⟩ := h
  cases rx
  obtain ⟨u, rfl, ru⟩ := rv.one
  obtain ⟨z, its, n, r, hl, e⟩ := I.lstM hH
  refine call_meets F.slot_list_append ⟨_, e, rfl⟩ F.entry_list_append (F.args_list_append_2 _ _) (PySem.list_append l its.toArray n u (by rw [List.size_toArray]; omega)) ⟨e, ?_⟩
  refine ⟨.non, _, I.lset (its' := its ++ [u]) hH e (by simp) (r.append (.cons ru .nil)) ?_, rfl, q⟩
  rw [List.length_append, List.length_singleton]
  omega

end

/-! ### xs[a:b] = ys -/
section
variable {prog : Program} {w : World} {A : Around} {E : Value → Shared → Prop} {s : Shared}
end

section
variable {X : Cx}
end
end L2

namespace Att
open PySem PySem.W PySem.Calls PyProof.Rows

/-! ### the script -/
theorem ints_of_wellAll {P : Params} {h : Heap} : ∀ (ns : List Int) (vs : List Value), WellAll P h vs (ns.map WData.int) → IntsAre vs ns := by
  intro ns
  induction ns with
  | nil =>
    intro vs w
    rw [List.map_nil] at w
    cases w
    exact .nil
  | cons n ns ih =>
    intro vs w
    rw [List.map_cons] at w
    cases w with
    | cons a b =>
      cases a
      exact .cons _ _ (ih _ b)

theorem script_of {l : OpenLaw} {n : Nat} (hn : l.most = some n) {P : Params} {h : Heap} {args : List WData} {vals : List Value}
    (hpre : l.row.toRowW.claim.pre args = true) (hwl : WellAll P h vals args) :
    ∃ a vs ns, vals = [Value.ref a] ∧ args = [WData.list (ns.map WData.int)] ∧ h.get? a = some { cls := .type "list", data := .seq vs.toArray } ∧ IntsAre vs ns ∧ ns.length ≤ n := by
  have hsh : WShape.hasAll [] args [.list .int] = true := (pre_splitW hpre).1
  have hc : l.pre.holds [] { args := args } = true := (pre_splitW hpre).2
  obtain ⟨d, r, rfl, h1, h2⟩ := hasAllW_cons hsh
  obtain rfl := hasAllW_nil h2
  obtain ⟨xs, rfl, h3⟩ := hasW_list h1
  obtain ⟨ns, rfl⟩ := items_int h3
  have hlen : ns.length ≤ n := by
    unfold OpenLaw.pre at hc
    have h4 : (WTm.not (.lt (.lit (.int (n : Int))) (.len (.arg 0)))).holds [] { args := [.list (ns.map .int)] } = true := by
      have h4 := (holds_andW hc).1
      rw [hn] at h4
      exact h4
    have h5 := condW_of h4 (w_not (w_lt w_lit (w_len_list (w_arg rfl))))
    rw [List.length_map] at h5
    refine Nat.le_of_not_lt fun q => ?_
    have q' : (n : Int) < ((ns.length : Nat) : Int) := by omega
    first
      | (rw [decide_eq_true q'] at h5; exact absurd h5 (by decide))
      | (simp at h5; omega)
  cases hwl with
  | cons w1 w2 =>
    cases w2
    cases w1 with
    | list ho hall => exact ⟨_, _, ns, rfl, rfl, ho, ints_of_wellAll ns _ hall, hlen⟩

theorem post_true (l : OpenLaw) (args : List WData) : l.row.toRowW.claim.post args (.bool true) args = true :=
  postW_of (r := l.row.toRowW) (X := (true == true))
    (show WShape.has [] (.bool true) .bool = true by first | rfl | decide | simp [WShape.has, WShape.arms, WShape.armsAll])
    (show (WTm.eq .res (.lit (.bool true))).value [] { args := args, res := some (.bool true), after := args } = some (.bool (true == true)) from w_eq_bool (w_res rfl) w_lit) rfl

/-- the same from a codeAny of the CALL (for a layer whose function contracts speak of calls) -/
theorem attach_call {l : OpenLaw} {n : Nat} {q : Program} {loose : List Str} {XP : (Str → Option Value) → Heap → Prop} {YP : World → Heap → Prop} {d : DefRec}
    (hn : l.most = some n) (hdf : d.params.defaults = [])
    (call : ∀ (w : World) (s₀ s₁ : Shared) (mg mb : Str → Option Value) (fa : Addr) (o : Obj) (pm cd doc : Value) (a : Addr) (vs : List Value) (ns : List Int),
      Ground q loose [] XP w s₀ mg mb s₁.heap → YP w s₁.heap →
      s₁.heap.get? fa = some o → o.data = .func (docDef d.name d.params d.body d.scope pm cd doc) → s₁.heap.CodeRec cd d.name → mg d.name = some (.ref fa) →
      s₁.heap.get? a = some { cls := .type "list", data := .seq vs.toArray } → IntsAre vs ns → ns.length ≤ n → s₁.gens = #[] →
      codeAny (model l.prog w) callerA (.call (.ref fa) ⟨[.ref a], []⟩) (fun r s' => r = .ok (.ret (.bool true)) ∧ OldK s₁.heap s'.heap ∧ s'.os = s₁.os ∧ AllBare s'.gens) s₁) :
    WalkO q loose XP YP l.row.toRowW d [] (fun f vs => PySem.call f vs) := by
  intro w s₀ s₁ mg mb G Y fa o pm cd doc dV kV ho hd hcd hD hmg hg args vals as hpre hlay hrd hwl hlo
  obtain rfl : dV = .none := Dflts.none hD hdf
  obtain rfl : kV = .none := Dflts.noKw hD
  obtain ⟨a, vs, ns, rfl, rfl, hobj, hints, hlen⟩ := script_of hn hpre hwl
  refine enter_call (codeAny_mono (call w s₀ s₁ mg mb fa o pm cd doc a vs ns G Y ho (fd_plain hd) hcd hmg hobj hints hlen hg) fun r s' hq => ?_)
  obtain ⟨rfl, h2, h3, h4⟩ := hq
  exact ⟨.inl ⟨.bool true, .bool true, [], rfl, fun _ => rfl, .bool true, post_true l _, fun _ => ⟨List.Pairwise.nil, fun _ hm => (nomatch hm)⟩⟩, h2, h3, h4⟩

/-! ### rules over ANY heap (no ledger) from facts about the written part K: the library's own take a ledger (News) for what they write -/
section
variable {prog : Program} {w : World} {A : Around} {E : Value → Shared → Prop} {s : Shared} {K : Frag}

def ledger (h : Heap) (L d : Addr) : List (Addr × Obj) := (List.range h.objs.size).filterMap fun a => if a = L ∨ a = d then none else (h.get? a).map fun o => (a, o)
end
end Att

namespace L2
open PySem PySem.Spec PyProof.Rows

theorem vals_ints : ∀ {vs : List Value} {ns : List Int}, IntsAre vs ns → Vals (ns.map V.int) vs
  | _, _, .nil => .nil
  | _, _, .cons n t h => .cons ⟨t, rfl⟩ (vals_ints h)

/-- nothing is tracked but the script, known to the object (or it is an object of the module) -/
def Only (H : Hp) : Prop := ∀ b, H b = none ∨ ∃ o xs, H b = some (.frz o (.lst xs))

/-- THE HEAD: the law's promise, at the heap behind the top. F, the promise of the law's def, may use that base is part of the heap (so K.In base, base.Ns mainGlobals mg stand in Mod) -/
theorem law_call {P : Program} {w : World} {K : PySem.W.Frag} {mg mb : Str → Option Value} {CX : CXT} {k : Nat} {fa a : Addr} {fd : FuncData} {x : Str} {sp : Sp} {s₁ : Shared} {vs : List Value} {ns : List Int}
    (KX : K.In s₁.heap) (hns : s₁.heap.Ns mainGlobals mg) (hb : s₁.heap.Ns builtinsNs mb) (hbb : ∀ x : Str, x ≠ "__name__" → mb x = bootBuiltins x) (hlim : s₁.heap.NoLimit) (hg : s₁.gens = #[])
    (ha : s₁.heap.get? a = some { cls := .type "list", data := .seq vs.toArray }) (hi : IntsAre vs ns) (hl : ns.length ≤ sizeLine) (hr : Room k callerA)
    (F : ∀ base : Heap, K.In base → base.Ns mainGlobals mg → FnOk P w K mg base CX k fa fd [x] sp) (hbind : ∀ (s : Shared) (u : Value), BindsTo s fd ⟨[u], []⟩ [(x, u)])
    (hsp : ∀ H : Hp, Only H → SqL K H a (ns.map V.int) → sp [.ref a] H (fun v _ => v = .bl true) fun _ _ _ => False)
    (hCX : ∀ H e s', CX [] H s₁ (fun _ _ _ => False) e s' → False) :
    codeAny (model P w) callerA (.call (.ref fa) ⟨[.ref a], []⟩) (fun r s' => r = .ok (.ret (.bool true)) ∧ OldK s₁.heap s'.heap ∧ s'.os = s₁.os ∧ AllBare s'.gens) s₁ := by
  have rv := vals_ints hi
  have lenV := hi.length
  -- from an abstract heap in which nothing but the script may be tracked
  have core : ∀ H : Hp, Only H → SqL K H a (ns.map V.int) → HOk P w H s₁.heap → (∀ b, H b ≠ none → b = a) → (H a ≠ none → K.lookup a = none) →
      codeAny (model P w) callerA (.call (.ref fa) ⟨[.ref a], []⟩) (fun r s' => r = .ok (.ret (.bool true)) ∧ OldK s₁.heap s'.heap ∧ s'.os = s₁.os ∧ AllBare s'.gens) s₁ := by
    intro H hO hS hok hA hK
    have base_of : ∀ {b : Addr} {o : Obj}, s₁.heap.get? b = some o → H b = none → (hidT s₁.heap H).get? b = some o := fun e n => hidT_get e n
    have noA : ∀ {b : Addr} {o : Obj} {es : Array DictEntry} {ep : Nat}, s₁.heap.get? b = some o → o.data = .dict es ep → H b = none := fun {b o es ep} e d => by
      cases q : H b with
      | none => rfl
      | some u =>
        have e' : b = a := hA b (by rw [q]; simp)
        subst e'
        rw [ha] at e; cases e
        have d' : Data.seq vs.toArray _ = Data.dict es ep := d
        cases d'
    have nsK : ∀ {b : Addr} {m : Str → Option Value}, s₁.heap.Ns b m → (hidT s₁.heap H).Ns b m := fun {b m} ⟨o, es, ep, e, d, r⟩ => ⟨o, es, ep, base_of e (noA e d), d, r⟩
    have hKb : K.In (hidT s₁.heap H) := fun b o e => base_of (KX b o e) (by
      cases q : H b with
      | none => rfl
      | some u =>
        have e' : b = a := hA b (by rw [q]; simp)
        subst e'
        rw [hK (by rw [q]; simp)] at e; cases e)
    have hM : Mod K mg (hidT s₁.heap H) := ⟨hKb, nsK hns, ⟨mb, nsK hb, hbb⟩, let ⟨mc, h1, h2⟩ := hlim; ⟨mc, nsK h1, h2⟩⟩
    have e0 : Env0 P w K mg (hidT s₁.heap H) callerA [] s₁ H := ⟨rfl, hM, fun b o e => of_hidT e, Nat.le_of_eq (hidT_size _ _), trivial, fun b hb => absurd (show b ∈ ([] : List Addr) from hb) (by simp), hok, .of_eq hg⟩
    refine codeAny_mono ((F _ hKb (nsK hns)).run callerA [] s₁ H ⟨[.ref a], []⟩ [.ref a] [.ref a] _ _ hr e0 (hbind s₁ (.ref a)) (.cons rfl .nil) (hsp H hO hS)) fun r s' h => ?_
    cases r with
    | error e => exact (hCX H e s' h).elim
    | ok fl =>
      cases fl with
      | next => exact False.elim h
      | brk => exact False.elim h
      | cont => exact False.elim h
      | ret u =>
        obtain ⟨v, H', os, bare, un, hok', r', q⟩ := h
        have q' : v = .bl true := q
        subst q'
        obtain rfl : u = Value.bool true := r'
        refine ⟨rfl, OldK.of_keep fun b o e => ?_, os, bare⟩
        cases q : H b with
        | none => exact un.keep b o e q (by intro z; exact absurd (show b ∈ ([] : List Addr) from z) (by simp)) (by simp)
        | some u =>
          rcases hO b with z | ⟨ob, xs, z⟩
          · rw [q] at z; cases z
          · have z2 := un.frzs b ob _ z
            obtain ⟨e1, _⟩ := hok b _ z
            obtain ⟨e2, _⟩ := hok' b _ z2
            rw [e] at e1; cases e1
            exact e2
  cases hk : K.lookup a with
  | some o =>
    -- the script is one of the module's own objects
    have e := KX a o hk
    rw [ha] at e
    cases e
    refine core (fun _ => none) (fun _ => .inl rfl) (.inr ⟨_, vs.toArray, _, hk, rfl, rfl, rfl, by rw [List.size_toArray, lenV]; exact hl, by simpa using rv⟩) (fun b u z => by have z' : (none : Option HO) = some u := z; cases z') (fun b z => absurd rfl z) fun z => absurd rfl z
  | none =>
    refine core (fun b => if b = a then some (.frz { cls := .type "list", data := .seq vs.toArray } (.lst (ns.map V.int))) else none) (fun b => ?_) (.inl (.inr ⟨{ cls := .type "list", data := .seq vs.toArray }, if_pos rfl⟩)) (fun b u z => ?_) (fun b z => ?_) fun _ => hk
    · by_cases hb : b = a
      · exact .inr ⟨_, _, if_pos hb⟩
      · exact .inl (if_neg hb)
    · by_cases hb : b = a
      · have z' := (if_pos hb).symm.trans z
        cases z'
        subst hb
        exact ⟨ha, by rw [List.length_map]; exact hl, vs, _, rv, ha⟩
      · have z' := (if_neg hb).symm.trans z
        cases z'
    · by_cases hb : b = a
      · exact hb
      · exact absurd (if_neg hb) z
end L2

namespace L2
open PySem PySem.Spec PyProof.Rows

abbrev KOf {K : PySem.W.Frag} {h : Heap} (_ : K.In h) : PySem.W.Frag := K

/-- the goal that k_head leaves (case hc), from the law's promise. F gives the function object fd (K's own) once, then the promise over every base -/
theorem walk_of {l : PySem.W.OpenLaw} {n k : Nat} {q : Program} {loose : List Str} {XP : (Str → Option Value) → Heap → Prop} {YP : World → Heap → Prop} {d : DefRec} {K : Params → PySem.W.Frag} {CX : World → CXT} {sp : World → Sp} {x : Str}
    (hn : l.most = some n) (hn2 : n ≤ sizeLine) (hdf : d.params.defaults = []) (hr : Room k callerA)
    (hY : ∀ (w : World) (h : Heap), YP w h → (K w.params).In h)
    (F : ∀ (w : World) (mg : Str → Option Value) (fa : Addr) (h : Heap), (K w.params).In h → h.Ns mainGlobals mg → mg d.name = some (.ref fa) →
      ∃ fd : FuncData, (∀ (s : Shared) (u : Value), BindsTo s fd ⟨[u], []⟩ [(x, u)]) ∧
        ∀ base : Heap, (K w.params).In base → base.Ns mainGlobals mg → FnOk l.prog w (K w.params) mg base (CX w) k fa fd [x] (sp w))
    (hsp : ∀ (w : World) (H : Hp) (a : Addr) (ns : List Int), ns.length ≤ n → Only H → SqL (K w.params) H a (ns.map V.int) → sp w [.ref a] H (fun v _ => v = .bl true) fun _ _ _ => False)
    (hCX : ∀ (w : World) (H : Hp) (s : Shared) (e : Value) (s' : Shared), CX w [] H s (fun _ _ _ => False) e s' → False) :
    PySem.W.WalkO q loose XP YP l.row.toRowW d [] (fun f vs => PySem.call f vs) := by
  refine Att.attach_call hn hdf fun w s₀ s₁ mg mb fa o pm cd doc a vs ns G Y ho hd hcd hmg hobj hints hlen hg => ?_
  have KX := hY w _ Y
  obtain ⟨fd, hb, hF⟩ := F w mg fa _ KX G.T.g hmg
  exact law_call KX G.T.g G.T.b G.T.builtins G.T.nolimit hg hobj hints (Nat.le_trans hlen hn2) hr hF hb (fun H hO hS => hsp w H a ns hlen hO hS) fun H e s' => hCX w H s₁ e s'
end L2

/- THE LAST THEOREM (shape; LID, My.* are yours):
   My.Adr: a structure of the addresses that your layer names (classes, functions); My.Txt K t: a structure (Prop) of the equations over K;
   My.txt_mk : {K} {implicit addresses ..} (e1 : nsIn K mainGlobals "law" = some (some (.ref f))) (e2 : K.lookup f = some ⟨oc, od, .func (fnOf "law" "law" params body scope dV kV doc pm an cdv ct), sl⟩) (e3 : codeIn K cdv "law" = true) .. : ∃ t, My.Txt K t

set_option maxRecDepth 100000 in
set_option maxHeartbeats 0 in
theorem PySem.Challenge.cw_LID_holds : PySem.Challenge.rw_LID.Holds := by
  w_on; o_law; k_head; (case hw => w_witness2)
  k_fill
  refine L2.walk_of (l := PySem.Challenge.rw_LID) (n := 63) (k := 40) (x := "script") (CX := fun w => ..) (sp := fun _ => My.sp_law) rfl (by decide) rfl ⟨rfl, by decide, by decide⟩ (fun w h Y => PySem.W.kIn_of Y) ?F ?S ?C
  case F =>
    intro w mg fa h KX G hmg
    have T : ∃ t, My.Txt (L2.KOf KX) t := by
      dsimp only [L2.KOf]                          -- K must stand as «<heap const> w.params» for k_is
      refine' My.txt_mk ?e1 ?e2 ?e3 ..
      (case e1 => PySem.W.k_is)                    -- in the order: a name -> its address -> its object -> its parts
      (case e2 => PySem.W.k_is)
      ..
    obtain ⟨t, T⟩ := T
    have e0 := hmg.symm.trans (PySem.W.mg_of KX G T.law)
    cases e0                                       -- fa is the law's own address
    exact ⟨_, fun s u => .of_eq rfl, fun base kb nb => My.law_fn T kb nb⟩     -- if «.of_eq rfl» comes too early: refine' ⟨_, ?b, fun base kb nb => My.law_fn T kb nb⟩; exact fun s u => .of_eq rfl
  case S => exact fun w H a ns hl hO hS => ..
  case C => exact ..
(the tactic k_is has no namespace: write k_is) -/

/-! SHORT WORDS over the layer: a def of the text, its body, what a loop and a test want. -/
namespace L2
open PySem PySem.Spec PyProof.Rows

def defArgs (s : Stmt) : Arguments := match s with
  | .FunctionDef _ a _ _ _ _ _ _ _ _ => a
  | _ => { posonlyargs := [], args := [], vararg := none, kwonlyargs := [], kw_defaults := [], kwarg := none, defaults := [] }
def defBody (s : Stmt) : List Stmt := match s with
  | .FunctionDef _ _ b _ _ _ _ _ _ _ => b
  | _ => []
def defScope (s : Stmt) : Scope := match s with
  | .FunctionDef _ _ _ _ _ _ sc _ _ _ => sc
  | _ => { kind := .function, names := [], isGenerator := false, isCoroutine := false }

/-! ### no exception leaves a def -/
abbrev CX0 : CXT := fun _ _ _ _ _ _ => False
abbrev E0 : XK := fun _ _ _ => False
theorem pass0 {X : Cx} : Passes CX0 X E0 := fun _ _ _ _ _ _ _ h => h.elim

/-! ### a def (or method) of the text as it stands behind the top -/
structure Fun (K : PySem.W.Frag) (x qual : Str) (st : Stmt) (f : Addr) (fd : FuncData) : Prop where
  ex : ∃ (oc : Value) (od : Option Addr) (kV doc pm : Value) (an : Option Addr) (cdv ct : Value) (osl : Array (Option Value)),
    fd = PySem.W.fnOf x qual (defArgs st) (defBody st) (defScope st) .none kV doc pm an cdv ct ∧ K.lookup f = some ⟨oc, od, .func fd, osl⟩ ∧ PySem.W.codeIn K cdv qual = true
  kp : PySem.W.keepIn K (.ref f) = true
section
variable {P : Program} {w : World} {K : PySem.W.Frag} {mg : Str → Option Value} {base : Heap}
/-- THE RULE for a def: its body as a term of rules, and the reading of that term -/
theorem Fun.ok {x qual : Str} {st : Stmt} {f : Addr} {fd : FuncData} {N ps : List Str} {k : Nat} {sp : Sp} (F : Fun K x qual st f fd) (S : FnScope N ps (defScope st)) (len : ∀ vs H Q E, sp vs H Q E → vs.length = ps.length)
    (hbody : ∀ (cdv : Value) (A : Around) (outer : List Env) (s : Shared) (H : Hp) (vs : List V) (Q : VK) (E : XK), Room k (A.deeper (envOfC qual (defScope st) s.heap.objs.size f cdv)) → sp vs H Q E →
      ∃ t, PSs (cxOf CX0 P w K mg base N qual (defScope st) f cdv A outer s H E).nox (defBody st) t ∧ t { nx := fun _ H' => Q .non H', rt := Q } (start N vs) H) : FnOk P w K mg base CX0 (k + 1) f fd ps sp := by
  obtain ⟨oc, od, kV, doc, pm, an, cdv, ct, osl, rfl, lk, hcd⟩ := F.ex
  refine fn_of lk hcd S len fun A outer s H vs Q E hr hsp => ?_
  obtain ⟨t, h, q⟩ := hbody cdv A outer s H vs Q E hr hsp
  exact ⟨t, h.nox, q⟩
/-- how its arguments bind (no defaults): h is «fun _ _ _ _ _ _ us hl => match us, hl with | [_, _], _ => rfl», one _ a parameter -/
theorem Fun.binds {x qual : Str} {st : Stmt} {f : Addr} {fd : FuncData} {ps : List Str} (F : Fun K x qual st f fd)
    (h : ∀ (kV doc pm : Value) (an : Option Addr) (cdv ct : Value) (us : List Value), us.length = ps.length → bindArgs (PySem.W.fnOf x qual (defArgs st) (defBody st) (defScope st) .none kV doc pm an cdv ct) ⟨us, []⟩ = pure (ps.zip us)) : Binds K fd ps [] := by
  obtain ⟨oc, od, kV, doc, pm, an, cdv, ct, osl, rfl, lk, hcd⟩ := F.ex
  exact .all (h kV doc pm an cdv ct)
theorem fun_mk {x qual : Str} {st : Stmt} {f : Addr} {oc : Value} {od an : Option Addr} {osl : Array (Option Value)} {kV doc pm cdv ct : Value} (l : K.lookup f = some ⟨oc, od, .func (PySem.W.fnOf x qual (defArgs st) (defBody st) (defScope st) .none kV doc pm an cdv ct), osl⟩)
    (c : PySem.W.codeIn K cdv qual = true) (k : PySem.W.keepIn K (.ref f) = true) : Fun K x qual st f (PySem.W.fnOf x qual (defArgs st) (defBody st) (defScope st) .none kV doc pm an cdv ct) := ⟨⟨oc, od, kV, doc, pm, an, cdv, ct, osl, rfl, l, c⟩, k⟩
end
theorem hu_of {A : Around} {k : Nat} (hr : Room k A) : A.units + 1 < cLine := Nat.lt_of_le_of_lt (Nat.add_le_add_left (by decide : 1 ≤ 64) _) hr.units
/-! ### expressions in short: the name that stands in the i-th slot -/
section
variable {X : Cx}
end

/-! ### tests -/
theorem iteF {A B : Prop} (h : B) : if false = true then A else B := by
  rw [if_neg Bool.false_ne_true]
  exact h
theorem iteT {A B : Prop} (h : A) : if true = true then A else B := by
  rw [if_pos rfl]
  exact h
/-! ### heaps -/
/-- all that was tracked is as it was -/
def Same (H H' : Hp) : Prop := ∀ b o, H b = some o → H' b = some o
theorem Same.refl (H : Hp) : Same H H := fun _ _ h => h
theorem Same.trans {H H1 H2 : Hp} (a : Same H H1) (b : Same H1 H2) : Same H H2 := fun c o h => b c o (a c o h)
theorem Same.free {H H' : Hp} (e : Same H H') {l : Addr} (h : H' l = Option.none) : H l = Option.none := by
  cases q : H l with
  | none => rfl
  | some o =>
    rw [e l o q] at h
    cases h
theorem Same.seq {K : PySem.W.Frag} {H H' : Hp} {a : Addr} {xs : List V} (e : Same H H') (h : SqL K H a xs) : SqL K H' a xs := by
  rcases h with (h | ⟨o, h⟩) | h
  · exact .inl (.inl (e _ _ h))
  · exact .inl (.inr ⟨o, e _ _ h⟩)
  · exact .inr h

end L2

set_option maxHeartbeats 4000000
namespace L2
open PySem PySem.Spec PyProof.Rows
/-! ### lists of pairs as tables -/
section
variable {κ : Type} [DecidableEq κ]
def valV (kvs : List (κ × V)) (k : κ) : Option V := (kvs.find? fun kv => decide (kv.1 = k)).map (·.2)
/-- in its place, or at the end -/
def putK (kvs : List (κ × V)) (k : κ) (v : V) : List (κ × V) :=
  if (kvs.any fun kv => decide (kv.1 = k)) = true then kvs.map (fun kv => if kv.1 = k then (kv.1, v) else kv) else kvs ++ [(k, v)]
def dropK (kvs : List (κ × V)) (k : κ) : List (κ × V) := kvs.filter fun kv => decide (kv.1 ≠ k)

theorem valV_pos {p : κ × V} {r : List (κ × V)} {k : κ} (e : p.1 = k) : valV (p :: r) k = some p.2 := by simp [valV, List.find?_cons, e]
theorem valV_neg {p : κ × V} {r : List (κ × V)} {k : κ} (e : ¬ p.1 = k) : valV (p :: r) k = valV r k := by simp [valV, List.find?_cons, e]
theorem valV_any (k : κ) : ∀ kvs : List (κ × V), (kvs.any fun kv => decide (kv.1 = k)) = (valV kvs k).isSome
  | [] => rfl
  | p :: r => by
    rw [List.any_cons]
    by_cases e : p.1 = k
    · simp only [valV_pos e, decide_eq_true e, Bool.true_or, Option.isSome_some]
    · rw [valV_neg e, decide_eq_false e, Bool.false_or]; exact valV_any k r
theorem length_putK (kvs : List (κ × V)) (k : κ) (v : V) : (putK kvs k v).length ≤ kvs.length + 1 := by
  unfold putK
  split
  · rw [List.length_map]; omega
  · rw [List.length_append, List.length_cons, List.length_nil]; omega
theorem RelO.isSome_eq {o : Option V} {u : Option Value} (r : RelO o u) : o.isSome = u.isSome := by
  cases o with
  | none => cases u with
    | none => rfl
    | some _ => exact (show False from r).elim
  | some _ => cases u with
    | none => exact (show False from r).elim
    | some _ => rfl
theorem RelO.getD {o : Option V} {u : Option Value} {d : V} {d' : Value} (r : RelO o u) (rd : RelV d d') : RelV (o.getD d) (u.getD d') := by
  cases o with
  | none => cases u with
    | none => exact rd
    | some _ => exact (show False from r).elim
  | some _ => cases u with
    | none => exact (show False from r).elim
    | some _ => exact r

/-- raw tables of the same keys -/
theorem KV.val {kvs : List (κ × V)} {vs : List (κ × Value)} (r : KV kvs vs) (k : κ) : RelO (valV kvs k) (valueAt vs k) := by
  unfold KV at r
  induction r with
  | nil => exact True.intro
  | @cons p q ps qs h t ih =>
    obtain ⟨h1, h2⟩ := h
    by_cases e : p.1 = k
    · have e' : q.1 = k := h1.symm.trans e
      have b : valueAt (q :: qs) k = some q.2 := by simp [valueAt, List.find?_cons, e']
      rw [valV_pos e, b]; exact h2
    · have e' : ¬ q.1 = k := fun z => e (h1.trans z)
      have b : valueAt (q :: qs) k = valueAt qs k := by simp [valueAt, List.find?_cons, e']
      rw [valV_neg e, b]; exact ih
theorem KV.any {kvs : List (κ × V)} {vs : List (κ × Value)} (r : KV kvs vs) (k : κ) : (kvs.any fun kv => decide (kv.1 = k)) = vs.any fun kv => decide (kv.1 = k) := by
  unfold KV at r
  induction r with
  | nil => rfl
  | cons h t ih => rw [List.any_cons, List.any_cons, ih, h.1]
theorem KV.repl {kvs : List (κ × V)} {vs : List (κ × Value)} (r : KV kvs vs) (k : κ) {y : V} {u : Value} (ry : RelV y u) :
    KV (kvs.map fun kv => if kv.1 = k then (kv.1, y) else kv) (vs.map fun kv => if kv.1 = k then (kv.1, u) else kv) := by
  unfold KV at r ⊢
  induction r with
  | nil => exact .nil
  | @cons p q ps qs h t ih =>
    rw [List.map_cons, List.map_cons]
    refine .cons ?_ ih
    obtain ⟨h1, h2⟩ := h
    by_cases e : p.1 = k
    · rw [if_pos e, if_pos (h1.symm.trans e)]; exact ⟨h1, ry⟩
    · rw [if_neg e, if_neg (fun z => e (h1.trans z))]; exact ⟨h1, h2⟩
theorem KV.put {kvs : List (κ × V)} {vs : List (κ × Value)} (r : KV kvs vs) (k : κ) {y : V} {u : Value} (ry : RelV y u) : KV (putK kvs k y) (stored vs k u) := by
  unfold putK stored
  rw [r.any k]
  by_cases e : (vs.any fun kv => decide (kv.1 = k)) = true
  · rw [if_pos e, if_pos e]; exact r.repl k ry
  · rw [if_neg e, if_neg e]; exact Paired.snoc r ⟨rfl, ry⟩
theorem KV.drop {kvs : List (κ × V)} {vs : List (κ × Value)} (r : KV kvs vs) (k : κ) : KV (dropK kvs k) (without vs k) := by
  unfold KV at r ⊢
  unfold dropK without
  induction r with
  | nil => exact .nil
  | @cons p q ps qs h t ih =>
    obtain ⟨h1, h2⟩ := h
    rw [List.filter_cons, List.filter_cons]
    by_cases e : p.1 = k
    · have a : ¬ decide (p.1 ≠ k) = true := by simp [e]
      have b : ¬ decide (q.1 ≠ k) = true := by simp [h1.symm.trans e]
      rw [if_neg a, if_neg b]; exact ih
    · have e' : ¬ q.1 = k := fun z => e (h1.trans z)
      have a : decide (p.1 ≠ k) = true := by simp [e]
      have b : decide (q.1 ≠ k) = true := by simp [e']
      rw [if_pos a, if_pos b]; exact .cons ⟨h1, h2⟩ ih
theorem KV.keys {kvs : List (κ × V)} {vs : List (κ × Value)} (r : KV kvs vs) : kvs.map (·.1) = vs.map (·.1) := by
  unfold KV at r
  induction r with
  | nil => rfl
  | cons h t ih => rw [List.map_cons, List.map_cons, ih, h.1]
theorem KV.length {kvs : List (κ × V)} {vs : List (κ × Value)} (r : KV kvs vs) : kvs.length = vs.length := Paired.length r
theorem dropK_le (kvs : List (κ × V)) (k : κ) : (dropK kvs k).length ≤ kvs.length := List.length_filter_le _ _
end


/-! ### a tracked dict, its keys ints and texts or tuples of these -/
theorem kV_is {P : Program} {w : World} {k : Key} {u : Value} (r : RelV (kV k) u) : (mixKind P w).is k u = true := by
  cases k with
  | inl i => obtain ⟨t, e⟩ := (show ∃ t, u = Value.int i t from r); subst e; exact mixKind_int P w i t
  | inr x => obtain ⟨t, e⟩ := (show ∃ t, u = Value.str x t from r); subst e; exact mixKind_str P w x t
theorem items_are {P : Program} {w : World} : ∀ {ks : List Key} {us : List Value}, Vals (ks.map kV) us → ItemsAre (mixKind P w) ks us
  | [], _, r => by rw [List.map_nil] at r; cases r; exact .nil
  | k :: ks, _, r => by
    rw [List.map_cons] at r
    cases r with
    | cons h t => exact .cons (kV_is h) (items_are t)

/-- raw entries of a dict with tuple keys -/
abbrev KT (H : Hp) : List (List Key × V) → List (List Key × Addr × Value) → Prop := Paired fun p q => p.1 = q.1 ∧ H q.2.1 = some (.tup (p.1.map kV)) ∧ RelV p.2 q.2.2
theorem KT.val {H : Hp} {kvs : List (List Key × V)} {xs : List (List Key × Addr × Value)} (r : KT H kvs xs) (k : List Key) : RelO (valV kvs k) ((atKey xs k).map (·.2)) := by
  induction r with
  | nil => exact True.intro
  | @cons p q ps qs h t ih =>
    obtain ⟨h1, _, h2⟩ := h
    by_cases e : p.1 = k
    · have e' : q.1 = k := h1.symm.trans e
      have b : atKey (q :: qs) k = some q.2 := by simp [atKey, List.find?_cons, e']
      rw [valV_pos e, b]; exact h2
    · have e' : ¬ q.1 = k := fun z => e (h1.trans z)
      have b : atKey (q :: qs) k = atKey qs k := by simp [atKey, List.find?_cons, e']
      rw [valV_neg e, b]; exact ih
theorem KT.repl {H : Hp} {kvs : List (List Key × V)} {xs : List (List Key × Addr × Value)} (r : KT H kvs xs) (k : List Key) {y : V} {u : Value} (ry : RelV y u) :
    KT H (kvs.map fun kv => if kv.1 = k then (kv.1, y) else kv) (xs.map (putAt k u)) := by
  induction r with
  | nil => exact .nil
  | @cons p q ps qs h t ih =>
    rw [List.map_cons, List.map_cons]
    refine .cons ?_ ih
    obtain ⟨h1, h2, h3⟩ := h
    unfold putAt
    by_cases e : p.1 = k
    · rw [if_pos e, if_pos (h1.symm.trans e)]; exact ⟨h1, h2, ry⟩
    · rw [if_neg e, if_neg (fun z => e (h1.trans z))]; exact ⟨h1, h2, h3⟩
theorem KT.put {H : Hp} {kvs : List (List Key × V)} {xs : List (List Key × Addr × Value)} (r : KT H kvs xs) (k : List Key) {b : Addr} {y : V} {u : Value} (hb : H b = some (.tup (k.map kV))) (ry : RelV y u) :
    KT H (putK kvs k y) (storedH xs k b u) := by
  have e : (kvs.any fun kv => decide (kv.1 = k)) = (atKey xs k).isSome := by
    rw [valV_any, (r.val k).isSome_eq, Option.isSome_map]
  unfold putK storedH
  rw [e]
  by_cases q : (atKey xs k).isSome = true
  · rw [if_pos q, if_pos q]; exact r.repl k ry
  · rw [if_neg q, if_neg q]; exact Paired.snoc r ⟨rfl, hb, ry⟩
theorem KT.keeps {H H' : Hp} {kvs : List (List Key × V)} {xs : List (List Key × Addr × Value)} (r : KT H kvs xs) (ht : ∀ b ys, H b = some (.tup ys) → H' b = some (.tup ys)) : KT H' kvs xs :=
  Paired.mapP r fun _ _ z => ⟨z.1, ht _ _ z.2.1, z.2.2⟩

section
variable {P : Program} {w : World} {H : Hp} {h : Heap} {a : Addr}
theorem rd_of {u : HO} (ok : HOk P w H h) (e : Rd H a u) : ObjOk P w H h a u := e.ok ok
theorem dk_rd {kvs : List (Key × V)} (ok : HOk P w H h) (e : Rd H a (.dK kvs)) : kvs.length ≤ sizeLine ∧ (a == sysModules) = false ∧ ∃ vs, KV kvs vs ∧ h.DictOf (mixKind P w) a vs :=
  show ObjOk P w H h a (.dK kvs) from rd_of ok e
theorem dk_of {kvs : List (Key × V)} (ok : HOk P w H h) (e : H a = some (.dK kvs)) : kvs.length ≤ sizeLine ∧ (a == sysModules) = false ∧ ∃ vs, KV kvs vs ∧ h.DictOf (mixKind P w) a vs := dk_rd ok (.inl e)
/-- a tracked tuple of ints and texts is a key -/
theorem key_of {ks : List Key} (ok : HOk P w H h) (e : H a = some (.tup (ks.map kV))) : (tupleKind (mixKind P w)).is h ks a := by
  obtain ⟨_, its, r, o, h1, h2, n, h3⟩ := (show ObjOk P w H h a (.tup (ks.map kV)) from ok a _ e)
  exact ⟨o, its.toArray, n, h1, h2, h3, by simpa using items_are r⟩
theorem dt_rd {kvs : List (List Key × V)} (ok : HOk P w H h) (e : Rd H a (.dT kvs)) : kvs.length ≤ sizeLine ∧ (a == sysModules) = false ∧
    ∃ xs, KT H kvs xs ∧ h.DictOfH (tupleKind (mixKind P w)) a xs := by
  obtain ⟨z, y, xs, r, o, es, ep, h1, h2, h3, h4, h5⟩ := (show ObjOk P w H h a (.dT kvs) from rd_of ok e)
  refine ⟨z, y, xs, r, o, es, ep, h1, h2, h3, h4, fun x hx => ?_, h5⟩
  have all : ∀ {l : List (List Key × V)} {m : List (List Key × Addr × Value)}, KT H l m → ∀ x ∈ m, (tupleKind (mixKind P w)).is h x.1 x.2.1 := by
    intro l m q
    induction q with
    | nil => intro x hx; exact nomatch hx
    | @cons p q ps qs hq t ih =>
      intro x hx
      rcases List.mem_cons.mp hx with e | hx
      · subst e
        exact key_of ok (by rw [← hq.1]; exact hq.2.1)
      · exact ih x hx
  exact all r x hx
theorem dt_of {kvs : List (List Key × V)} (ok : HOk P w H h) (e : H a = some (.dT kvs)) : kvs.length ≤ sizeLine ∧ (a == sysModules) = false ∧
    ∃ xs, KT H kvs xs ∧ h.DictOfH (tupleKind (mixKind P w)) a xs := dt_rd ok (.inl e)
end

/-- what the dict at a holds at the key y -/
def DGet (H : Hp) (a : Addr) (y : V) (r : Option V) : Prop :=
  (∃ kvs k, Rd H a (.dK kvs) ∧ y = kV k ∧ r = valV kvs k) ∨ ∃ kvs k b, Rd H a (.dT kvs) ∧ y = .ref b ∧ H b = some (.tup (k.map kV)) ∧ r = valV kvs k
/-- the heap behind a[y] = v -/
def DPut (H : Hp) (a : Addr) (y v : V) (H' : Hp) : Prop :=
  (∃ kvs k, H a = some (.dK kvs) ∧ y = kV k ∧ kvs.length < sizeLine ∧ H' = upd H a (.dK (putK kvs k v))) ∨
  ∃ kvs k b, H a = some (.dT kvs) ∧ y = .ref b ∧ H b = some (.tup (k.map kV)) ∧ kvs.length < sizeLine ∧ H' = upd H a (.dT (putK kvs k v))
theorem DGet.k {H : Hp} {a : Addr} {kvs : List (Key × V)} {k : Key} (e : H a = some (.dK kvs)) : DGet H a (kV k) (valV kvs k) := .inl ⟨kvs, k, .inl e, rfl, rfl⟩
theorem DGet.t {H : Hp} {a b : Addr} {kvs : List (List Key × V)} {k : List Key} (e : H a = some (.dT kvs)) (eb : H b = some (.tup (k.map kV))) : DGet H a (.ref b) (valV kvs k) := .inr ⟨kvs, k, b, .inl e, rfl, eb, rfl⟩
theorem DPut.k {H : Hp} {a : Addr} {kvs : List (Key × V)} {k : Key} {v : V} (e : H a = some (.dK kvs)) (hl : kvs.length < sizeLine) : DPut H a (kV k) v (upd H a (.dK (putK kvs k v))) := .inl ⟨kvs, k, e, rfl, hl, rfl⟩
theorem DPut.t {H : Hp} {a b : Addr} {kvs : List (List Key × V)} {k : List Key} {v : V} (e : H a = some (.dT kvs)) (eb : H b = some (.tup (k.map kV))) (hl : kvs.length < sizeLine) :
    DPut H a (.ref b) v (upd H a (.dT (putK kvs k v))) := .inr ⟨kvs, k, b, e, rfl, eb, hl, rfl⟩


section
variable {X : Cx} {pins : List (Addr × Obj)} {σ : St} {H : Hp} {s : Shared} {a : Addr} {y v : V} {u r : Value} {o : Option V} {A : Around} {E : Value → Shared → Prop}

theorem Inv.big (I : Inv X pins σ H s) : sysModules < s.heap.objs.size := by
  have h : mainGlobals < s.heap.objs.size := (I.mod.glob.keeps I.bk).lt
  exact Nat.lt_trans (by decide) h

/-- d[y], there -/
theorem d_getItem {Q : Value → Shared → Prop} (hu : A.units + 1 < cLine) (I : Inv X pins σ H s) (g : DGet H a y (some v)) (ry : RelV y u) (h : ∀ w' s', Inv X pins σ H s' → RelV v w' → Q w' s') :
    wpAny (model X.prog X.w) A (getItem (.ref a) u) Q E s := by
  rcases g with ⟨kvs, k, e, ey, l⟩ | ⟨kvs, k, b, e, ey, eb, l⟩
  · subst ey
    obtain ⟨z, hd, vs, rel, dd⟩ := dk_rd I.hok e
    obtain ⟨w', hw, rw'⟩ := RelO.some_of (v := v) (o := valueAt vs k) (by rw [l]; exact rel.val k)
    exact wpAny_getItem_of (kV_is ry) dd.mapOf hw (h w' _ (I.tok _) rw')
  · subst ey
    cases (show u = Value.ref b from ry)
    obtain ⟨z, hd, xs, rel, dd⟩ := dt_rd I.hok e
    obtain ⟨w', hw, rw'⟩ := RelO.some_of (v := v) (o := (atKey xs k).map (·.2)) (by rw [l]; exact rel.val k)
    obtain ⟨p, hp, hp2⟩ := Option.map_eq_some_iff.mp hw
    refine wpAny_getItem_heap (tupleKind_room_in1 hu) (key_of I.hok eb) dd hp ?_
    rw [hp2]
    exact h w' _ (I.tok _) rw'
/-- a dict's object is replaced -/
theorem d_write {h' : Heap} {t' : Nat} {ob : HO} (I : Inv X pins σ H s) (mu : Mut (H a)) (hs : Heap.SameBut a s.heap h') (he : ∃ q, h'.get? a = some q) (new : ObjOk X.prog X.w (upd H a ob) h' a ob) :
    Inv X pins σ (upd H a ob) { s with heap := h', toks := t' } :=
  I.write (x := a) (e := a) mu (.inl rfl) (fun b q hb z => (hs.2 b hb).trans z) he new
theorem dk_new {P : Program} {w : World} {H' : Hp} {h' : Heap} {kvs : List (Key × V)} {vs : List (Key × Value)} (z : kvs.length ≤ sizeLine) (hd : (a == sysModules) = false) (rel : KV kvs vs) (dd : h'.DictOf (mixKind P w) a vs) :
    ObjOk P w H' h' a (.dK kvs) := ⟨z, hd, vs, rel, dd⟩
/-- d[y] = v -/
theorem d_setItem {H' : Hp} {Q : Unit → Shared → Prop} (hu : A.units + 1 < cLine) (I : Inv X pins σ H s) (g : DPut H a y v H') (ry : RelV y u) (rv : RelV v r) (h : ∀ s', Inv X pins σ H' s' → Q () s') :
    wpAny (model X.prog X.w) A (setItem (.ref a) u r) Q E s := by
  rcases g with ⟨kvs, k, e, ey, l, eH⟩ | ⟨kvs, k, b, e, ey, eb, l, eH⟩
  · subst ey eH
    obtain ⟨z, hd, vs, rel, dd⟩ := dk_of I.hok e
    have hz : vs.length ≤ sizeLine := by rw [← rel.length]; exact z
    have hl : (putK kvs k v).length ≤ sizeLine := by have := length_putK kvs k v; omega
    refine wpAny_setItem_pairs (hsz := hz) (kV_is ry) dd fun h' dd' hs => h _ ?_
    have he : ∃ q, h'.get? a = some q := let ⟨q, _, _, hq, _⟩ := dd'; ⟨q, hq⟩
    exact d_write I (by rw [e]; exact True.intro) hs he (dk_new hl hd (rel.put k rv) dd')
  · subst ey eH
    cases (show u = Value.ref b from ry)
    obtain ⟨z, hd, xs, rel, dd⟩ := dt_of I.hok e
    have hz : xs.length ≤ sizeLine := by rw [← Paired.length rel]; exact z
    have hl : (putK kvs k v).length ≤ sizeLine := by have := length_putK kvs k v; omega
    refine wpAny_setItem_heap (hsz := hz) (tupleKind_room_in1 hu) (key_of I.hok eb) dd fun h' dd' hs => h _ ?_
    obtain ⟨q, es, ep, hq, h2, h3, h4, _, h5⟩ := dd'
    refine d_write I (by rw [e]; exact True.intro) hs ⟨q, hq⟩ ⟨hl, hd, _, (rel.put k eb rv).keeps fun c ys ec => ?_, q, es, ep, hq, h2, h3, h4, h5⟩
    rw [upd_ne (ne_of ec e (fun z => nomatch z))]
    exact ec
end

section
variable {X : Cx} {pins : List (Addr × Obj)} {σ : St} {H : Hp} {s : Shared} {a : Addr} {kvs : List (Key × V)} {k : Key} {u : Value} {A : Around} {E : Value → Shared → Prop}
/-- d.pop(k[, x]), there -/
theorem d_pop {v : V} {more : List Value} {Q : Value → Shared → Prop} (I : Inv X pins σ H s) (e : H a = some (.dK kvs)) (ry : RelV (kV k) u) (l : valV kvs k = some v) (hm : more = [] ∨ ∃ x, more = [x])
    (h : ∀ w' s', Inv X pins σ (upd H a (.dK (dropK kvs k))) s' → RelV v w' → Q w' s') : wpAny (model X.prog X.w) A (call (.builtin "dict.pop") (.ref a :: u :: more)) Q E s := by
  obtain ⟨z, hd, vs, rel, dd⟩ := dk_of I.hok e
  obtain ⟨w', hw, rw'⟩ := RelO.some_of (v := v) (o := valueAt vs k) (by rw [← l]; exact rel.val k)
  have hp : (keyPart u).isSome = true := by
    cases k with
    | inl i => obtain ⟨t, q⟩ := (show ∃ t, u = Value.int i t from ry); subst q; rfl
    | inr x => obtain ⟨t, q⟩ := (show ∃ t, u = Value.str x t from ry); subst q; rfl
  have ha : argsOk "dict.pop" ⟨.ref a :: u :: more, []⟩ := by
    rcases hm with q | ⟨x, q⟩
    · subst q; exact PySem.F.args_dict_pop_2 _ _
    · subst q; exact PySem.F.args_dict_pop_3 _ _ _
  refine call_meetsIn PySem.F.slot_dict_pop dd.typeIs PySem.F.entry_dict_pop ha (meets_dict_pop_there (mixKind X.prog X.w) a (kV_is ry) more hm hp)
    ⟨vs, w', dd, by rw [← rel.length]; exact z, hw, fun h' dd' hs => h w' _ ?_ rw'⟩
  have he : ∃ q, h'.get? a = some q := let ⟨q, _, _, hq, _⟩ := dd'; ⟨q, hq⟩
  exact d_write I (by rw [e]; exact True.intro) hs he (dk_new (Nat.le_trans (dropK_le kvs k) z) hd (rel.drop k) dd')
/-- d.pop(k, x), not there -/
theorem d_popD {r : Value} {Q : Value → Shared → Prop} (I : Inv X pins σ H s) (e : H a = some (.dK kvs)) (ry : RelV (kV k) u) (l : valV kvs k = none) (h : ∀ s', Inv X pins σ H s' → Q r s') :
    wpAny (model X.prog X.w) A (call (.builtin "dict.pop") [.ref a, u, r]) Q E s := by
  obtain ⟨z, hd, vs, rel, dd⟩ := dk_of I.hok e
  have hn : valueAt vs k = none := RelO.none_of (by rw [← l]; exact rel.val k)
  have hp : (keyPart u).isSome = true := by
    cases k with
    | inl i => obtain ⟨t, q⟩ := (show ∃ t, u = Value.int i t from ry); subst q; rfl
    | inr x => obtain ⟨t, q⟩ := (show ∃ t, u = Value.str x t from ry); subst q; rfl
  exact call_meetsIn PySem.F.slot_dict_pop dd.typeIs PySem.F.entry_dict_pop (PySem.F.args_dict_pop_3 _ _ _) (meets_dict_pop_default (mixKind X.prog X.w) a (kV_is ry) hd hp r) ⟨vs, dd, hn, h _ (I.tok _)⟩
/-- len(d) -/
theorem d_len {Q : Value → Shared → Prop} (I : Inv X pins σ H s) (e : Rd H a (.dK kvs)) (h : ∀ t s', Inv X pins σ H s' → Q (.int kvs.length t) s') : wpAny (model X.prog X.w) A (call (.builtin "len") [.ref a]) Q E s := by
  obtain ⟨z, hd, vs, rel, dd⟩ := dk_rd I.hok e
  refine call_len_dict hd dd (by rw [← rel.length]; rw [sizeLine_eq] at z; omega) ?_
  rw [← rel.length]
  exact h _ _ (I.tok _)
end


theorem dict_typeIs {X : Cx} {pins : List (Addr × Obj)} {σ : St} {H : Hp} {s : Shared} {a : Addr} {y : V} {o : Option V} (I : Inv X pins σ H s) (g : DGet H a y o) : s.TypeIs (.ref a) "dict" := by
  rcases g with ⟨kvs, k, e, _, _⟩ | ⟨kvs, k, b, e, _, _, _⟩
  · obtain ⟨_, _, vs, _, dd⟩ := dk_rd I.hok e
    exact dd.typeIs
  · obtain ⟨_, _, xs, _, dd⟩ := dt_rd I.hok e
    exact dd.typeIs
section
variable {X : Cx} {o i e value : Expr} {pos pos' tpos : Pos} {td ty tv : TE}
end


/-! ### displays -/
theorem dk_empty {P : Program} {w : World} {H : Hp} (h : Heap) (hb : sysModules < h.objs.size) : ObjOk P w H (h.push { cls := .type "dict", data := .dict #[] }) h.objs.size (.dK []) :=
  ⟨Nat.zero_le _, beq_eq_false_iff_ne.mpr (Ne.symm (Nat.ne_of_lt hb)), [], .nil, Heap.DictOf.new h⟩
section
variable {X : Cx} {pos : Pos}
end

def mergeK (kvs more : List (Key × V)) : List (Key × V) := more.foldl (fun acc kv => putK acc kv.1 kv.2) kvs
theorem KV.merge : ∀ {more : List (Key × V)} {rs : List (Key × Value)} {kvs : List (Key × V)} {vs : List (Key × Value)}, KV more rs → KV kvs vs → KV (mergeK kvs more) (merged vs rs) := by
  intro more rs kvs vs r
  unfold KV at r
  induction r generalizing kvs vs with
  | nil => intro q; exact q
  | @cons p q ps qs h t ih =>
    intro r0
    have e : KV (putK kvs p.1 p.2) (stored vs q.1 q.2) := by
      have := r0.put p.1 h.2
      rw [← h.1]; exact this
    exact ih e
section
variable {X : Cx} {pins : List (Addr × Obj)} {σ : St} {H : Hp} {s : Shared} {a : Addr} {y d : V} {u r : Value} {o : Option V} {A : Around} {E : Value → Shared → Prop}
end

section
variable {X : Cx} {o e f : Expr} {apos cpos : Pos} {td ty tx : TE}
end

/-! ### dict(d): a copy -/
section
variable {X : Cx} {pins : List (Addr × Obj)} {σ : St} {H : Hp} {s : Shared} {a : Addr} {kvs : List (Key × V)} {A : Around} {E : Value → Shared → Prop}
end


section
variable {X : Cx} {pins : List (Addr × Obj)} {σ : St} {H : Hp} {s : Shared} {a : Addr} {y : V} {u : Value} {A : Around} {E : Value → Shared → Prop}
end
section
variable {X : Cx}
/-- len of a dict -/
theorem call_lenD : CallR X (.builtin "len") (fun xs H Q => ∃ a kvs, xs = [V.ref a] ∧ H a = some (.dK kvs) ∧ Q (.int kvs.length) H) := by
  intro pins s σ H xs us Q I r h
  obtain ⟨a, kvs, rfl, ha, q⟩ := h
  obtain ⟨u, rfl, ru⟩ := vals1 r
  cases ru
  exact d_len I (.inl ha) fun t s' I' => ⟨.int kvs.length, H, I', ⟨t, rfl⟩, q⟩
end
/-! ### a dict's pairs: keys that differ -/
section
variable {κ : Type} [DecidableEq κ]
end
end L2

/-! ## D: data. Tuples and lists as plain data, mutable things by number; each def is a Lean function. -/
namespace D
open PySem PySem.Spec PyProof.Rows L2

abbrev St := L2.St
inductive DV where
  | non | bl (b : Bool) | int (i : Int) | str (x : Str) | tup (xs : List DV) | lst (xs : List DV) | ref (i : Nat)

/-- a mutable thing of the world -/
inductive OV where
  | lst (xs : List DV)
  | dic (kvs : List (Key × DV))
  | ins (C : Addr) (fs : List (Str × DV))

abbrev Hs := List OV
abbrev M := StateT Hs Option

mutual
def RepV (K : PySem.W.Frag) (ρ : List Addr) (B : Addr → Prop) (H : Hp) : DV → V → Prop
  | .non, v => v = .non
  | .bl b, v => v = .bl b
  | .int i, v => v = .int i
  | .str x, v => v = .str x
  | .tup ds, v => ∃ a xs, v = .ref a ∧ ¬ B a ∧ SqT K H a xs ∧ RepL K ρ B H ds xs
  | .lst ds, v => ∃ a xs, v = .ref a ∧ ¬ B a ∧ SqL K H a xs ∧ RepL K ρ B H ds xs
  | .ref i, v => ∃ a, v = .ref a ∧ ρ[i]? = some a
def RepL (K : PySem.W.Frag) (ρ : List Addr) (B : Addr → Prop) (H : Hp) : List DV → List V → Prop
  | [], xs => xs = []
  | d :: ds, xs => ∃ x r, xs = x :: r ∧ RepV K ρ B H d x ∧ RepL K ρ B H ds r
end

def ORep (K : PySem.W.Frag) (ρ : List Addr) (B : Addr → Prop) (H : Hp) (a : Addr) : OV → Prop
  | .lst ds => ∃ xs, H a = some (.lst xs) ∧ RepL K ρ B H ds xs
  | .dic kvs => ∃ xs : List (Key × V), H a = some (.dK xs) ∧ xs.map (·.1) = kvs.map (·.1) ∧ RepL K ρ B H (kvs.map (·.2)) (xs.map (·.2))
  | .ins C fs => ∃ (dx : Addr) (xs : List (Str × V)), H a = some (.ins C dx xs) ∧ xs.map (·.1) = fs.map (·.1) ∧ RepL K ρ B H (fs.map (·.2)) (xs.map (·.2))

structure Gr (K : PySem.W.Frag) (ρ : List Addr) (B : Addr → Prop) (H : Hp) (ρ' : List Addr) (B' : Addr → Prop) (H' : Hp) : Prop where
  pre : ρ <+: ρ'
  ban : ∀ a, B a → B' a
  new : ∀ a, B' a → B a ∨ (H a = none ∧ K.lookup a = none)
  rnew : ∀ a ∈ ρ', a ∈ ρ ∨ H a = none
  keep : ∀ a o, a ∉ ρ → H a = some o → H' a = some o
  trk : ∀ a, H' a = none → H a = none

structure WOk (K : PySem.W.Frag) (ρ : List Addr) (B : Addr → Prop) (hp : Hs) (H : Hp) : Prop where
  len : ρ.length = hp.length
  nd : ρ.Nodup
  obj : ∀ (i : Nat) (a : Addr) (o : OV), ρ[i]? = some a → hp[i]? = some o → ORep K ρ B H a o
  rb : ∀ a ∈ ρ, B a
  bt : ∀ a, B a → H a ≠ none

section
variable {K : PySem.W.Frag} {ρ ρ' ρ'' : List Addr} {B B' B'' : Addr → Prop} {H H' H'' : Hp}

theorem Gr.refl : Gr K ρ B H ρ B H := ⟨List.prefix_rfl, fun _ h => h, fun _ h => .inl h, fun _ h => .inl h, fun _ _ _ h => h, fun _ h => h⟩
theorem Gr.trans (a : Gr K ρ B H ρ' B' H') (b : Gr K ρ' B' H' ρ'' B'' H'') : Gr K ρ B H ρ'' B'' H'' where
  pre := a.pre.trans b.pre
  ban := fun x h => b.ban x (a.ban x h)
  new := fun x h => (b.new x h).elim (a.new x) fun z => .inr ⟨a.trk x z.1, z.2⟩
  rnew := fun x h => (b.rnew x h).elim (a.rnew x) fun z => .inr (a.trk x z)
  keep := fun x o hn h => b.keep x o (fun z => (a.rnew x z).elim hn (fun z => by rw [h] at z; cases z)) (a.keep x o hn h)
  trk := fun x h => a.trk x (b.trk x h)

structure Gs (K : PySem.W.Frag) (ρ : List Addr) (B : Addr → Prop) (H : Hp) (ρ' : List Addr) (B' : Addr → Prop) (H' : Hp) : Prop where
  pre : ρ <+: ρ'
  new : ∀ a, B' a → B a ∨ (H a = none ∧ K.lookup a = none)
  keep : ∀ a o, ¬ B a → H a = some o → H' a = some o
  trk : ∀ a, H' a = none → H a = none
theorem Gr.gs (rb : ∀ a ∈ ρ, B a) (g : Gr K ρ B H ρ' B' H') : Gs K ρ B H ρ' B' H' := ⟨g.pre, g.new, fun a o nb h => g.keep a o (fun z => nb (rb a z)) h, g.trk⟩
theorem Gs.refl : Gs K ρ B H ρ B H := ⟨List.prefix_rfl, fun _ h => .inl h, fun _ _ _ h => h, fun _ h => h⟩
theorem Gs.trans (a : Gs K ρ B H ρ' B' H') (b : Gs K ρ' B' H' ρ'' B'' H'') : Gs K ρ B H ρ'' B'' H'' where
  pre := a.pre.trans b.pre
  new := fun x h => (b.new x h).elim (a.new x) fun z => .inr ⟨a.trk x z.1, z.2⟩
  keep := fun x o nb h => b.keep x o (fun z => (a.new x z).elim nb fun q => by rw [h] at q; cases q.1) (a.keep x o nb h)
  trk := fun x h => a.trk x (b.trk x h)
theorem SqT.trk {a : Addr} {xs : List V} (h : SqT K H a xs) : H a ≠ none ∨ ∃ o, K.lookup a = some o := by
  rcases h with (h | ⟨o, h⟩) | ⟨o, _, _, h, _⟩
  · exact .inl (by rw [h]; simp)
  · exact .inl (by rw [h]; simp)
  · exact .inr ⟨o, h⟩
theorem SqL.trk {a : Addr} {xs : List V} (h : SqL K H a xs) : H a ≠ none ∨ ∃ o, K.lookup a = some o := by
  rcases h with (h | ⟨o, h⟩) | ⟨o, _, _, h, _⟩
  · exact .inl (by rw [h]; simp)
  · exact .inl (by rw [h]; simp)
  · exact .inr ⟨o, h⟩
theorem Gs.ok {a : Addr} (g : Gs K ρ B H ρ' B' H') (hb : ¬ B a) (t : H a ≠ none ∨ ∃ o, K.lookup a = some o) : ¬ B' a := fun z =>
  (g.new a z).elim hb fun ⟨n, k⟩ => t.elim (fun q => q n) fun ⟨o, q⟩ => by rw [k] at q; cases q
theorem Gs.sqT {a : Addr} {xs : List V} (g : Gs K ρ B H ρ' B' H') (hr : ¬ B a) (h : SqT K H a xs) : SqT K H' a xs := by
  rcases h with (h | ⟨o, h⟩) | h
  · exact .inl (.inl (g.keep _ _ hr h))
  · exact .inl (.inr ⟨o, g.keep _ _ hr h⟩)
  · exact .inr h
theorem Gs.sqL {a : Addr} {xs : List V} (g : Gs K ρ B H ρ' B' H') (hr : ¬ B a) (h : SqL K H a xs) : SqL K H' a xs := by
  rcases h with (h | ⟨o, h⟩) | h
  · exact .inl (.inl (g.keep _ _ hr h))
  · exact .inl (.inr ⟨o, g.keep _ _ hr h⟩)
  · exact .inr h
theorem pre_get {i : Nat} {a : Addr} (p : ρ <+: ρ') (h : ρ[i]? = some a) : ρ'[i]? = some a := by
  obtain ⟨t, rfl⟩ := p
  rw [List.getElem?_append_left (List.getElem?_eq_some_iff.mp h).1]; exact h

mutual
theorem RepV.gs (g : Gs K ρ B H ρ' B' H') : ∀ (d : DV) (v : V), RepV K ρ B H d v → RepV K ρ' B' H' d v
  | .non, _, h => by unfold RepV at h ⊢; exact h
  | .bl _, _, h => by unfold RepV at h ⊢; exact h
  | .int _, _, h => by unfold RepV at h ⊢; exact h
  | .str _, _, h => by unfold RepV at h ⊢; exact h
  | .ref _, _, h => by
    unfold RepV at h ⊢
    obtain ⟨a, e, h⟩ := h
    exact ⟨a, e, pre_get g.pre h⟩
  | .tup ds, _, h => by
    unfold RepV at h ⊢
    obtain ⟨a, xs, e, nb, sq, rl⟩ := h
    exact ⟨a, xs, e, g.ok nb (SqT.trk sq), g.sqT nb sq, RepL.gs g ds xs rl⟩
  | .lst ds, _, h => by
    unfold RepV at h ⊢
    obtain ⟨a, xs, e, nb, sq, rl⟩ := h
    exact ⟨a, xs, e, g.ok nb (SqL.trk sq), g.sqL nb sq, RepL.gs g ds xs rl⟩
theorem RepL.gs (g : Gs K ρ B H ρ' B' H') : ∀ (ds : List DV) (xs : List V), RepL K ρ B H ds xs → RepL K ρ' B' H' ds xs
  | [], _, h => by unfold RepL at h ⊢; exact h
  | d :: ds, _, h => by
    unfold RepL at h ⊢
    obtain ⟨x, r, e, h1, h2⟩ := h
    exact ⟨x, r, e, RepV.gs g d x h1, RepL.gs g ds r h2⟩
end
theorem RepV.grow (rb : ∀ a ∈ ρ, B a) (g : Gr K ρ B H ρ' B' H') (d : DV) (v : V) (h : RepV K ρ B H d v) : RepV K ρ' B' H' d v := RepV.gs (g.gs rb) d v h
theorem RepL.grow (rb : ∀ a ∈ ρ, B a) (g : Gr K ρ B H ρ' B' H') (ds : List DV) (xs : List V) (h : RepL K ρ B H ds xs) : RepL K ρ' B' H' ds xs := RepL.gs (g.gs rb) ds xs h

theorem RepL.length : ∀ {ds : List DV} {xs : List V}, RepL K ρ B H ds xs → ds.length = xs.length
  | [], _, h => by unfold RepL at h; subst h; rfl
  | d :: ds, _, h => by
    unfold RepL at h
    obtain ⟨x, r, rfl, _, h2⟩ := h
    simp [RepL.length h2]
theorem RepL.get : ∀ {ds : List DV} {xs : List V} {i : Nat} {d : DV}, RepL K ρ B H ds xs → ds[i]? = some d → ∃ x, xs[i]? = some x ∧ RepV K ρ B H d x
  | [], _, _, _, _, e => by simp at e
  | d :: ds, _, 0, _, h, e => by
    unfold RepL at h
    obtain ⟨x, r, rfl, h1, _⟩ := h
    simp at e; subst e
    exact ⟨x, rfl, h1⟩
  | d :: ds, _, i + 1, _, h, e => by
    unfold RepL at h
    obtain ⟨x, r, rfl, _, h2⟩ := h
    obtain ⟨y, h3, h4⟩ := RepL.get h2 (by simpa using e)
    exact ⟨y, by simpa using h3, h4⟩
theorem RepL.nil : RepL K ρ B H [] [] := by unfold RepL; rfl
theorem RepL.cons {d : DV} {x : V} {ds : List DV} {xs : List V} (h : RepV K ρ B H d x) (t : RepL K ρ B H ds xs) : RepL K ρ B H (d :: ds) (x :: xs) := by
  unfold RepL; exact ⟨x, xs, rfl, h, t⟩
theorem RepL.append : ∀ {ds es : List DV} {xs ys : List V}, RepL K ρ B H ds xs → RepL K ρ B H es ys → RepL K ρ B H (ds ++ es) (xs ++ ys)
  | [], _, _, _, h, t => by unfold RepL at h; subst h; exact t
  | d :: ds, _, _, _, h, t => by
    unfold RepL at h
    obtain ⟨x, r, rfl, h1, h2⟩ := h
    exact RepL.cons h1 (RepL.append h2 t)
theorem RepL.one {d : DV} {x : V} (h : RepV K ρ B H d x) : RepL K ρ B H [d] [x] := RepL.cons h RepL.nil
theorem RepL.take : ∀ (n : Nat) {ds : List DV} {xs : List V}, RepL K ρ B H ds xs → RepL K ρ B H (ds.take n) (xs.take n)
  | 0, _, _, _ => by simp; exact RepL.nil
  | _ + 1, [], _, h => by unfold RepL at h; subst h; simp; exact RepL.nil
  | n + 1, d :: ds, _, h => by
    unfold RepL at h
    obtain ⟨x, r, rfl, h1, h2⟩ := h
    exact RepL.cons h1 (RepL.take n h2)
theorem RepL.drop : ∀ (n : Nat) {ds : List DV} {xs : List V}, RepL K ρ B H ds xs → RepL K ρ B H (ds.drop n) (xs.drop n)
  | 0, _, _, h => h
  | _ + 1, [], _, h => by unfold RepL at h; subst h; simp; exact RepL.nil
  | n + 1, d :: ds, _, h => by
    unfold RepL at h
    obtain ⟨x, r, rfl, h1, h2⟩ := h
    exact RepL.drop n h2
theorem RepL.reverse : ∀ {ds : List DV} {xs : List V}, RepL K ρ B H ds xs → RepL K ρ B H ds.reverse xs.reverse
  | [], _, h => by unfold RepL at h; subst h; exact RepL.nil
  | d :: ds, _, h => by
    unfold RepL at h
    obtain ⟨x, r, rfl, h1, h2⟩ := h
    rw [List.reverse_cons, List.reverse_cons]
    exact RepL.append (RepL.reverse h2) (RepL.one h1)

/-! a new thing that is no ban (a tuple, a list that is data) -/
theorem Gr.laid {p : Addr} {o : HO} (h : H p = none) : Gr K ρ B H ρ B (upd H p o) where
  pre := List.prefix_rfl
  ban := fun _ h => h
  new := fun _ h => .inl h
  rnew := fun _ h => .inl h
  keep := fun a u _ q => by rw [upd_ne (ne_of_none q h)]; exact q
  trk := fun a q => by
    by_cases e : a = p
    · subst e; rw [upd_same] at q; cases q
    · rw [upd_ne e] at q; exact q
theorem ORep.gs {a : Addr} {o : OV} (g : Gs K ρ B H ρ' B' H') (hk : H' a = H a) (h : ORep K ρ B H a o) : ORep K ρ' B' H' a o := by
  cases o with
  | lst ds =>
    obtain ⟨xs, e, rl⟩ := h
    exact ⟨xs, hk.trans e, RepL.gs g _ _ rl⟩
  | dic kvs =>
    obtain ⟨xs, e, ek, rl⟩ := h
    exact ⟨xs, hk.trans e, ek, RepL.gs g _ _ rl⟩
  | ins C fs =>
    obtain ⟨dx, xs, e, ek, rl⟩ := h
    exact ⟨dx, xs, hk.trans e, ek, RepL.gs g _ _ rl⟩
/-- the world stays when the numbered things are as they were -/
theorem WOk.laid {hp : Hs} {p : Addr} {o : HO} (W : WOk K ρ B hp H) (h : H p = none) : WOk K ρ B hp (upd H p o) where
  len := W.len
  nd := W.nd
  obj := fun i a u e q => ORep.gs ((Gr.laid h).gs W.rb) (by
    have hb := W.bt a (W.rb a (List.mem_of_getElem? e))
    exact upd_ne (fun z => hb (z ▸ h))) (W.obj i a u e q)
  rb := W.rb
  bt := fun a z q => W.bt a z ((Gr.laid (K := K) (ρ := ρ) (B := B) h).trk a q)
end

/-! ### slots -/
inductive Sl where
  | un | val (d : DV) | acc (ds : List DV)
abbrev En := List Sl

structure Ent where
  ρ : List Addr
  B : Addr → Prop
  H : Hp

structure SOk (K : PySem.W.Frag) (Z : Ent) (env : En) (σ : St) (ρ : List Addr) (B : Addr → Prop) (hp : Hs) (H : Hp) : Prop where
  gr : Gr K Z.ρ Z.B Z.H ρ B H
  zb : ∀ a, Z.B a → Z.H a ≠ none
  wo : WOk K ρ B hp H
  slot : ∀ (i : Nat) (d : DV), env[i]? = some (.val d) → ∃ v, σ[i]? = some (some v) ∧ RepV K ρ B H d v
  accs : ∀ (i : Nat) (ds : List DV), env[i]? = some (.acc ds) → ∃ a xs, σ[i]? = some (some (.ref a)) ∧ H a = some (.lst xs) ∧ Z.H a = none ∧ B a ∧ a ∉ ρ ∧ RepL K ρ B H ds xs
  adis : ∀ (i j : Nat) (ds es : List DV) (a : Addr), env[i]? = some (.acc ds) → env[j]? = some (.acc es) → σ[i]? = some (some (.ref a)) → σ[j]? = some (some (.ref a)) → i = j
  len : σ.length = env.length

theorem SOk.grow {K : PySem.W.Frag} {Z : Ent} {env : En} {σ : St} {ρ ρ' : List Addr} {B B' : Addr → Prop} {hp hp' : Hs} {H H' : Hp} (S : SOk K Z env σ ρ B hp H) (g : Gr K ρ B H ρ' B' H') (W : WOk K ρ' B' hp' H') : SOk K Z env σ ρ' B' hp' H' where
  gr := S.gr.trans g
  zb := S.zb
  wo := W
  slot := fun i d e => let ⟨v, h1, h2⟩ := S.slot i d e; ⟨v, h1, RepV.grow S.wo.rb g d v h2⟩
  accs := fun i ds e => by
    obtain ⟨a, xs, h1, h2, h3, h4, h5, h6⟩ := S.accs i ds e
    refine ⟨a, xs, h1, g.keep a _ h5 h2, h3, g.ban a h4, fun z => ?_, RepL.grow S.wo.rb g ds xs h6⟩
    rcases g.rnew a z with q | q
    · exact h5 q
    · rw [h2] at q; cases q
  adis := S.adis
  len := S.len

/-! ### the judgements -/
abbrev DEx := En → M DV
abbrev DTx := En → M Bool
abbrev DAx := En → M (List DV)
inductive Fl where
  | nx | rt (d : DV) | bk | ct
abbrev DSx := En → M (Fl × En)

/-- what may follow: the value d, the things hp' -/
def Fol (K : PySem.W.Frag) (ρ : List Addr) (B : Addr → Prop) (H : Hp) (d : DV) (hp' : Hs) (Q : VK) : Prop :=
  ∀ v ρ' B' H', Gr K ρ B H ρ' B' H' → WOk K ρ' B' hp' H' → RepV K ρ' B' H' d v → Q v H'
def FolB (K : PySem.W.Frag) (ρ : List Addr) (B : Addr → Prop) (H : Hp) (hp' : Hs) (Q : Hp → Prop) : Prop :=
  ∀ ρ' B' H', Gr K ρ B H ρ' B' H' → WOk K ρ' B' hp' H' → Q H'
def FolL (K : PySem.W.Frag) (ρ : List Addr) (B : Addr → Prop) (H : Hp) (ds : List DV) (hp' : Hs) (Q : List V → Hp → Prop) : Prop :=
  ∀ vs ρ' B' H', Gr K ρ B H ρ' B' H' → WOk K ρ' B' hp' H' → RepL K ρ' B' H' ds vs → Q vs H'

def tD (K : PySem.W.Frag) (f : DEx) : TE := fun σ H Q => ∃ Z env ρ B hp d hp', SOk K Z env σ ρ B hp H ∧ f env hp = some (d, hp') ∧ Fol K ρ B H d hp' Q
def tDT (K : PySem.W.Frag) (f : DTx) : TT := fun σ H Q => ∃ Z env ρ B hp d hp', SOk K Z env σ ρ B hp H ∧ f env hp = some (d, hp') ∧ FolB K ρ B H hp' (Q d)
def tDA (K : PySem.W.Frag) (f : DAx) : TA := fun σ H Q => ∃ Z env ρ B hp ds hp', SOk K Z env σ ρ B hp H ∧ f env hp = some (ds, hp') ∧ FolL K ρ B H ds hp' Q
def DE (X : Cx) (e : Expr) (f : DEx) : Prop := PE X e (tD X.K f)
def DT (X : Cx) (e : Expr) (f : DTx) : Prop := PT X e (tDT X.K f)
def DW (X : Cx) (e : Expr) (f : DTx) : Prop := PW X e (tDT X.K f)
def DA (X : Cx) (es : List Expr) (f : DAx) : Prop := PA X es (tDA X.K f)

def FolS (K : PySem.W.Frag) (Z : Ent) (ρ : List Addr) (B : Addr → Prop) (H : Hp) (fl : Fl) (env' : En) (hp' : Hs) (D : Ends) : Prop :=
  ∀ σ' ρ' B' H', Gs K ρ B H ρ' B' H' → SOk K Z env' σ' ρ' B' hp' H' → match fl with
    | .nx => D.nx σ' H'
    | .bk => D.bk σ' H'
    | .ct => D.ct σ' H'
    | .rt d => ∀ v, RepV K ρ' B' H' d v → D.rt v H'
def tDS (K : PySem.W.Frag) (f : DSx) : TS := fun D σ H => ∃ Z env ρ B hp fl env' hp', SOk K Z env σ ρ B hp H ∧ f env hp = some ((fl, env'), hp') ∧ FolS K Z ρ B H fl env' hp' D
def DS (X : Cx) (st : Stmt) (f : DSx) : Prop := PS X st (tDS X.K f)
def DSs (X : Cx) (st : List Stmt) (f : DSx) : Prop := PSs X st (tDS X.K f)

section
variable {X : Cx}
theorem _root_.L2.PE.imp {e : Expr} {t t' : TE} (h : PE X e t) (i : ∀ σ H Q, t' σ H Q → t σ H Q) : PE X e t' := fun pins s σ H Q I q => h pins s σ H Q I (i σ H Q q)
theorem _root_.L2.PT.imp {e : Expr} {t t' : TT} (h : PT X e t) (i : ∀ σ H Q, t' σ H Q → t σ H Q) : PT X e t' := fun pins s σ H Q I q => h pins s σ H Q I (i σ H Q q)
theorem _root_.L2.PW.imp {e : Expr} {t t' : TT} (h : PW X e t) (i : ∀ σ H Q, t' σ H Q → t σ H Q) : PW X e t' := fun wh pins s σ H Q I q => h wh pins s σ H Q I (i σ H Q q)
theorem _root_.L2.PA.imp {es : List Expr} {t t' : TA} (h : PA X es t) (i : ∀ σ H Q, t' σ H Q → t σ H Q) : PA X es t' := fun pos pins s σ H Q I q => h pos pins s σ H Q I (i σ H Q q)
theorem _root_.L2.PS.imp {st : Stmt} {t t' : TS} (h : PS X st t) (i : ∀ Dn σ H, t' Dn σ H → t Dn σ H) : PS X st t' := fun pins s σ H Dn I q => h pins s σ H Dn I (i Dn σ H q)
theorem _root_.L2.PSs.imp {st : List Stmt} {t t' : TS} (h : PSs X st t) (i : ∀ Dn σ H, t' Dn σ H → t Dn σ H) : PSs X st t' := fun pins s σ H Dn I q => h pins s σ H Dn I (i Dn σ H q)
def KFree (K : PySem.W.Frag) (H : Hp) : Prop := ∀ a o, H a = some o → K.lookup a = none
theorem Inv.kfree {pins : List (Addr × Obj)} {σ : St} {H : Hp} {s : Shared} (I : Inv X pins σ H s) : KFree X.K H := fun a o e => by
  cases q : X.K.lookup a with
  | none => rfl
  | some ob =>
    have := (I.bs a ob (I.ok.mod.kin a ob q)).2
    rw [e] at this; cases this
theorem _root_.L2.PE.kf {e : Expr} {t : TE} (h : PE X e t) : PE X e (fun σ H Q => t σ H fun v H' => KFree X.K H' → Q v H') := fun pins s σ H Q I q =>
  thn (h pins s σ H _ I q) fun u s' ⟨v, H', I', r, z⟩ => ⟨v, H', I', r, z (Inv.kfree I')⟩

/-! bind in M -/
theorem bind_some {α β : Type} {f : M α} {g : α → M β} {hp hp' : Hs} {y : β} (h : (f >>= g) hp = some (y, hp')) : ∃ x hp1, f hp = some (x, hp1) ∧ g x hp1 = some (y, hp') := by
  change (f hp).bind (fun p => g p.1 p.2) = some (y, hp') at h
  cases q : f hp with
  | none => rw [q] at h; cases h
  | some p => rw [q] at h; exact ⟨p.1, p.2, rfl, h⟩
theorem pure_some {α : Type} {x y : α} {hp hp' : Hs} (h : (pure x : M α) hp = some (y, hp')) : x = y ∧ hp = hp' := by
  change some (x, hp) = some (y, hp') at h
  cases h; exact ⟨rfl, rfl⟩

/-- run one expression, then more -/
theorem tD.run {K : PySem.W.Frag} {f : DEx} {Z : Ent} {env : En} {σ : St} {ρ : List Addr} {B : Addr → Prop} {hp hp1 : Hs} {H : Hp} {d : DV} {Q : VK} (S : SOk K Z env σ ρ B hp H) (e : f env hp = some (d, hp1))
    (k : ∀ v ρ' B' H', Gr K ρ B H ρ' B' H' → SOk K Z env σ ρ' B' hp1 H' → RepV K ρ' B' H' d v → Q v H') : tD K f σ H Q :=
  ⟨Z, env, ρ, B, hp, d, hp1, S, e, fun v ρ' B' H' g W r => k v ρ' B' H' g (S.grow g W) r⟩

/-! ### names and constants -/
def eVar (i : Nat) : DEx := fun env => match env[i]? with
  | some (.val d) => pure d
  | _ => failure
def eC (d : DV) : DEx := fun _ => pure d
theorem eVar_some {i : Nat} {env : En} {hp hp' : Hs} {d : DV} (h : eVar i env hp = some (d, hp')) : env[i]? = some (.val d) ∧ hp = hp' := by
  unfold eVar at h
  cases q : env[i]? with
  | none => rw [q] at h; cases h
  | some z =>
    rw [q] at h
    cases z with
    | val x => obtain ⟨rfl, rfl⟩ := pure_some h; exact ⟨rfl, rfl⟩
    | un => cases h
    | acc _ => cases h
theorem de_var (i : Nat) {x : Str} {pos : Pos} (hN : X.N[i]? = some x := by rfl) (hv : Vis X.env.scope x := by first | exact Or.inl rfl | exact Or.inr (Or.inl rfl) | exact Or.inr (Or.inr rfl)) (hd : (x == ("__debug__" : Str)) = false := by decide)
    (hcd : (x == ("__classdict__" : Str)) = false := by decide) : DE X (.Name x pos) (eVar i) :=
  (pe_var hN hv hd hcd).imp fun σ H Q ⟨Z, env, ρ, B, hp, d, hp', S, e, k⟩ => by
    obtain ⟨e1, rfl⟩ := eVar_some e
    obtain ⟨v, h1, h2⟩ := S.slot i d e1
    exact ⟨v, h1, k v ρ B H Gr.refl S.wo h2⟩
theorem de_const {e : Expr} {d : DV} {v : V} (h : PE X e (tC v)) (r : ∀ K ρ B H, RepV K ρ B H d v) : DE X e (eC d) :=
  h.imp fun σ H Q ⟨Z, env, ρ, B, hp, d', hp', S, e, k⟩ => by
    obtain ⟨rfl, rfl⟩ := pure_some e
    exact k v ρ B H Gr.refl S.wo (r _ _ _ _)
theorem de_int {i : Int} {j pos} : DE X (.Constant (.int i) j pos) (eC (.int i)) := de_const pe_int fun _ _ _ _ => by unfold RepV; rfl
theorem de_bl {b : Bool} {j pos} : DE X (.Constant (.bool b) j pos) (eC (.bl b)) := de_const pe_bl fun _ _ _ _ => by unfold RepV; rfl
theorem de_non {j pos} : DE X (.Constant .none j pos) (eC .non) := de_const pe_non fun _ _ _ _ => by unfold RepV; rfl
/-- a global that is an int -/
theorem de_gint {x : Str} {i : Int} {t : Tok} {pos : Pos} (hg : Gl X x) (hm : X.mg x = some (.int i t)) (hd : (x == ("__debug__" : Str)) = false := by decide) : DE X (.Name x pos) (eC (.int i)) :=
  de_const (pe_glob (v := .int i) hg hm ⟨t, rfl⟩ hd) fun _ _ _ _ => by unfold RepV; rfl

/-! ### operations -/
def tP2 (K : PySem.W.Frag) (g : DV → DV → M DV) : R2 := fun x y H Q => ∃ ρ B hp dx dy d hp', WOk K ρ B hp H ∧ RepV K ρ B H dx x ∧ RepV K ρ B H dy y ∧ g dx dy hp = some (d, hp') ∧ Fol K ρ B H d hp' Q
def P2 (X : Cx) (f : Value → Value → Sem Value) (g : DV → DV → M DV) : Prop := OpR X f (tP2 X.K g)
def eBin (g : DV → DV → M DV) (a b : DEx) : DEx := fun env => do let x ← a env; let y ← b env; g x y
variable {a b c : Expr} {fa fb fc : DEx} {pos : Pos}
theorem eBin_imp {K : PySem.W.Frag} {g : DV → DV → M DV} {σ : St} {H : Hp} {Q : VK} (h : tD K (eBin g fa fb) σ H Q) : tOp (tP2 K g) (tD K fa) (tD K fb) σ H Q := by
  obtain ⟨Z, env, ρ, B, hp, d, hp', S, e, k⟩ := h
  obtain ⟨x, hp1, e1, e2⟩ := bind_some e
  obtain ⟨y, hp2, e3, e4⟩ := bind_some e2
  refine tD.run S e1 fun v ρ1 B1 H1 g1 S1 r1 => tD.run S1 e3 fun u ρ2 B2 H2 g2 S2 r2 => ?_
  exact ⟨ρ2, B2, hp2, x, y, d, hp', S2.wo, RepV.grow S1.wo.rb g2 _ _ r1, r2, e4, fun w ρ' B' H' g W r => k w ρ' B' H' (g1.trans (g2.trans g)) W r⟩
theorem de_bin {op : Operator} {g : DV → DV → M DV} (ho : P2 X (binaryOp op) g) (ha : DE X a fa) (hb : DE X b fb) : DE X (.BinOp a op b pos) (eBin g fa fb) :=
  (pe_op ho ha hb).imp fun _ _ _ h => eBin_imp h
theorem de_cmp {op : CmpOp} {g : DV → DV → M DV} (ho : P2 X (compareOp op) g) (ha : DE X a fa) (hb : DE X b fb) (hm : behindInMarks op b = false) : DE X (.Compare a [op] [b] pos) (eBin g fa fb) :=
  (pe_cmpR ho ha hb hm).imp fun _ _ _ h => eBin_imp h
/-- a value that is a bool, as a test -/
def asB : DV → M Bool
  | .bl b => pure b
  | _ => failure
def eB (f : DEx) : DTx := fun env => do asB (← f env)
theorem asB_some {d : DV} {c : Bool} {hp hp' : Hs} (h : asB d hp = some (c, hp')) : d = .bl c ∧ hp = hp' := by
  cases d with
  | bl b => obtain ⟨rfl, rfl⟩ := pure_some h; exact ⟨rfl, rfl⟩
  | _ => cases h
theorem RepV.blI {K : PySem.W.Frag} {ρ : List Addr} {B : Addr → Prop} {H : Hp} {b : Bool} {v : V} (h : RepV K ρ B H (.bl b) v) : v = .bl b := by unfold RepV at h; exact h
theorem RepV.intI {K : PySem.W.Frag} {ρ : List Addr} {B : Addr → Prop} {H : Hp} {b : Int} {v : V} (h : RepV K ρ B H (.int b) v) : v = .int b := by unfold RepV at h; exact h
theorem RepV.strI {K : PySem.W.Frag} {ρ : List Addr} {B : Addr → Prop} {H : Hp} {b : Str} {v : V} (h : RepV K ρ B H (.str b) v) : v = .str b := by unfold RepV at h; exact h
theorem RepV.nonI {K : PySem.W.Frag} {ρ : List Addr} {B : Addr → Prop} {H : Hp} {v : V} (h : RepV K ρ B H .non v) : v = .non := by unfold RepV at h; exact h
theorem RepV.tupI {K : PySem.W.Frag} {ρ : List Addr} {B : Addr → Prop} {H : Hp} {ds : List DV} {v : V} (h : RepV K ρ B H (.tup ds) v) : ∃ a xs, v = .ref a ∧ ¬ B a ∧ SqT K H a xs ∧ RepL K ρ B H ds xs := by unfold RepV at h; exact h
theorem RepV.lstI {K : PySem.W.Frag} {ρ : List Addr} {B : Addr → Prop} {H : Hp} {ds : List DV} {v : V} (h : RepV K ρ B H (.lst ds) v) : ∃ a xs, v = .ref a ∧ ¬ B a ∧ SqL K H a xs ∧ RepL K ρ B H ds xs := by unfold RepV at h; exact h
theorem RepV.refI {K : PySem.W.Frag} {ρ : List Addr} {B : Addr → Prop} {H : Hp} {i : Nat} {v : V} (h : RepV K ρ B H (.ref i) v) : ∃ a, v = .ref a ∧ ρ[i]? = some a := by unfold RepV at h; exact h
section
variable {K : PySem.W.Frag} {ρ : List Addr} {B : Addr → Prop} {H : Hp}
theorem rep_bl {b : Bool} : RepV K ρ B H (.bl b) (.bl b) := by unfold RepV; rfl
theorem rep_int {b : Int} : RepV K ρ B H (.int b) (.int b) := by unfold RepV; rfl
theorem rep_non : RepV K ρ B H .non .non := by unfold RepV; rfl
theorem rep_tup {a : Addr} {ds : List DV} {xs : List V} (h1 : ¬ B a) (h2 : SqT K H a xs) (h3 : RepL K ρ B H ds xs) : RepV K ρ B H (.tup ds) (.ref a) := by unfold RepV; exact ⟨a, xs, rfl, h1, h2, h3⟩
theorem rep_lst {a : Addr} {ds : List DV} {xs : List V} (h1 : ¬ B a) (h2 : SqL K H a xs) (h3 : RepL K ρ B H ds xs) : RepV K ρ B H (.lst ds) (.ref a) := by unfold RepV; exact ⟨a, xs, rfl, h1, h2, h3⟩
end
theorem dt_of {e : Expr} {f : DEx} (h : DE X e f) (he : ∀ whole, isTrue e X.env whole = (do let v ← whole; standAt e.pos; holding [v] (truthy v)) := by intro _; rfl) : DT X e (eB f) :=
  (pt_val h he).imp fun σ H Q ⟨Z, env, ρ, B, hp, d, hp', S, e, k⟩ => by
    obtain ⟨x, hp1, e1, e2⟩ := bind_some e
    obtain ⟨rfl, rfl⟩ := asB_some e2
    exact tD.run S e1 fun v ρ1 B1 H1 g1 S1 r1 => ⟨d, r1.blI, k ρ1 B1 H1 g1 S1.wo⟩
theorem dt_cmp {op : CmpOp} {g : DV → DV → M DV} (ho : P2 X (compareOp op) g) (ha : DE X a fa) (hb : DE X b fb) (hm : behindInMarks op b = false) : DT X (.Compare a [op] [b] pos) (eB (eBin g fa fb)) :=
  (pt_cmpR ho ha hb hm).imp fun σ H Q ⟨Z, env, ρ, B, hp, d, hp', S, e, k⟩ => by
    obtain ⟨x, hp1, e1, e2⟩ := bind_some e
    obtain ⟨rfl, rfl⟩ := asB_some e2
    exact eBin_imp (tD.run S e1 fun v ρ1 B1 H1 g1 S1 r1 => ⟨d, r1.blI, k ρ1 B1 H1 g1 S1.wo⟩)

/-! and, or, not -/
def eAnd (f g : DTx) : DTx := fun env => do if ← f env then g env else pure false
def eOr (f g : DTx) : DTx := fun env => do if ← f env then pure true else g env
def eNot (f : DTx) : DTx := fun env => do let b ← f env; pure (!b)
def eAndV (f g : DEx) : DEx := fun env => do if ← asB (← f env) then g env else pure (.bl false)
def eOrV (f g : DEx) : DEx := fun env => do if ← asB (← f env) then pure (.bl true) else g env
def eNotV (f : DEx) : DEx := fun env => do let b ← asB (← f env); pure (.bl (!b))
def eIf (c : DTx) (f g : DEx) : DEx := fun env => do if ← c env then f env else g env
theorem tDT.run {K : PySem.W.Frag} {f : DTx} {Z : Ent} {env : En} {σ : St} {ρ : List Addr} {B : Addr → Prop} {hp hp1 : Hs} {H : Hp} {d : Bool} {Q : Bool → Hp → Prop} (S : SOk K Z env σ ρ B hp H) (e : f env hp = some (d, hp1))
    (k : ∀ ρ' B' H', Gr K ρ B H ρ' B' H' → SOk K Z env σ ρ' B' hp1 H' → Q d H') : tDT K f σ H Q :=
  ⟨Z, env, ρ, B, hp, d, hp1, S, e, fun ρ' B' H' g W => k ρ' B' H' g (S.grow g W)⟩
variable {ca cb : DTx} {rest : List Expr}
theorem dw_and1 (h : DT X a ca) : DW X (.BoolOp .And [a] pos) ca := pw_and1 h
theorem dw_or1 (h : DT X a ca) : DW X (.BoolOp .Or [a] pos) ca := pw_or1 h
theorem dw_and (ha : DT X a ca) (hb : DW X (.BoolOp .And (b :: rest) pos) cb) : DW X (.BoolOp .And (a :: b :: rest) pos) (eAnd ca cb) :=
  (pw_and ha hb).imp fun σ H Q ⟨Z, env, ρ, B, hp, d, hp', S, e, k⟩ => by
    obtain ⟨x, hp1, e1, e2⟩ := bind_some e
    refine tDT.run S e1 fun ρ1 B1 H1 g1 S1 => ?_
    cases x with
    | true => exact iteT (tDT.run S1 e2 fun ρ2 B2 H2 g2 S2 => k ρ2 B2 H2 (g1.trans g2) S2.wo)
    | false =>
      obtain ⟨rfl, rfl⟩ := pure_some e2
      exact iteF (k ρ1 B1 H1 g1 S1.wo)
theorem dw_or (ha : DT X a ca) (hb : DW X (.BoolOp .Or (b :: rest) pos) cb) : DW X (.BoolOp .Or (a :: b :: rest) pos) (eOr ca cb) :=
  (pw_or ha hb).imp fun σ H Q ⟨Z, env, ρ, B, hp, d, hp', S, e, k⟩ => by
    obtain ⟨x, hp1, e1, e2⟩ := bind_some e
    refine tDT.run S e1 fun ρ1 B1 H1 g1 S1 => ?_
    cases x with
    | false => exact iteF (tDT.run S1 e2 fun ρ2 B2 H2 g2 S2 => k ρ2 B2 H2 (g1.trans g2) S2.wo)
    | true =>
      obtain ⟨rfl, rfl⟩ := pure_some e2
      exact iteT (k ρ1 B1 H1 g1 S1.wo)
theorem DW.pt {e : Expr} {f : DTx} (h : DW X e f) : DT X e f := h _
theorem dt_not (h : DT X a ca) : DT X (.UnaryOp .Not a pos) (eNot ca) :=
  (pt_not h).imp fun σ H Q ⟨Z, env, ρ, B, hp, d, hp', S, e, k⟩ => by
    obtain ⟨x, hp1, e1, e2⟩ := bind_some e
    obtain ⟨rfl, rfl⟩ := pure_some e2
    exact tDT.run S e1 fun ρ1 B1 H1 g1 S1 => k ρ1 B1 H1 g1 S1.wo
theorem de_one {op : BoolOp} (h : DE X a fa) : DE X (.BoolOp op [a] pos) fa := pe_one h
theorem de_and (ha : DE X a fa) (hb : DE X (.BoolOp .And (b :: rest) pos) fb) : DE X (.BoolOp .And (a :: b :: rest) pos) (eAndV fa fb) :=
  (pe_and ha hb).imp fun σ H Q ⟨Z, env, ρ, B, hp, d, hp', S, e, k⟩ => by
    obtain ⟨x, hp1, e1, e2⟩ := bind_some e
    obtain ⟨c, hp2, e3, e4⟩ := bind_some e2
    obtain ⟨rfl, rfl⟩ := asB_some e3
    refine tD.run S e1 fun v ρ1 B1 H1 g1 S1 r1 => ⟨c, r1.blI, ?_⟩
    cases c with
    | true => exact iteT (tD.run S1 e4 fun v ρ2 B2 H2 g2 S2 r2 => k v ρ2 B2 H2 (g1.trans g2) S2.wo r2)
    | false =>
      obtain ⟨rfl, rfl⟩ := pure_some e4
      exact iteF (k _ ρ1 B1 H1 g1 S1.wo rep_bl)
theorem de_not (ha : DE X a fa) : DE X (.UnaryOp .Not a pos) (eNotV fa) :=
  (pe_not ha).imp fun σ H Q ⟨Z, env, ρ, B, hp, d, hp', S, e, k⟩ => by
    obtain ⟨x, hp1, e1, e2⟩ := bind_some e
    obtain ⟨c, hp2, e3, e4⟩ := bind_some e2
    obtain ⟨rfl, rfl⟩ := asB_some e3
    obtain ⟨rfl, rfl⟩ := pure_some e4
    exact tD.run S e1 fun v ρ1 B1 H1 g1 S1 r1 => ⟨c, r1.blI, k _ ρ1 B1 H1 g1 S1.wo rep_bl⟩
/-! ### argument lists, displays -/
def aNil : DAx := fun _ => pure []
def aCons (f : DEx) (g : DAx) : DAx := fun env => do let x ← f env; let xs ← g env; pure (x :: xs)
theorem tDA.run {K : PySem.W.Frag} {f : DAx} {Z : Ent} {env : En} {σ : St} {ρ : List Addr} {B : Addr → Prop} {hp hp1 : Hs} {H : Hp} {ds : List DV} {Q : List V → Hp → Prop} (S : SOk K Z env σ ρ B hp H) (e : f env hp = some (ds, hp1))
    (k : ∀ vs ρ' B' H', Gr K ρ B H ρ' B' H' → SOk K Z env σ ρ' B' hp1 H' → RepL K ρ' B' H' ds vs → Q vs H') : tDA K f σ H Q :=
  ⟨Z, env, ρ, B, hp, ds, hp1, S, e, fun vs ρ' B' H' g W r => k vs ρ' B' H' g (S.grow g W) r⟩
theorem da_nil : DA X [] aNil := pa_nil.imp fun σ H Q ⟨Z, env, ρ, B, hp, ds, hp', S, e, k⟩ => by
  obtain ⟨rfl, rfl⟩ := pure_some e
  exact k [] ρ B H Gr.refl S.wo RepL.nil
theorem da_cons {e : Expr} {es : List Expr} {f : DEx} {g : DAx} (ha : DE X e f) (hr : DA X es g) (hs : starEach (e :: es) X.env = (false, eval e X.env) :: starEach es X.env := by rfl) : DA X (e :: es) (aCons f g) :=
  (pa_cons ha hr hs).imp fun σ H Q ⟨Z, env, ρ, B, hp, ds, hp', S, e, k⟩ => by
    obtain ⟨x, hp1, e1, e2⟩ := bind_some e
    obtain ⟨xs, hp2, e3, e4⟩ := bind_some e2
    obtain ⟨rfl, rfl⟩ := pure_some e4
    exact tD.run S e1 fun v ρ1 B1 H1 g1 S1 r1 => tDA.run S1 e3 fun vs ρ2 B2 H2 g2 S2 r2 => k _ ρ2 B2 H2 (g1.trans g2) S2.wo (RepL.cons (RepV.grow S1.wo.rb g2 _ _ r1) r2)

def lim : Nat := 100000
theorem lim_le : lim ≤ sizeLine := by decide
def guardM (c : Bool) : M Unit := if c then pure () else failure
theorem guardM_some {c : Bool} {hp hp' : Hs} {u : Unit} (h : guardM c hp = some (u, hp')) : c = true ∧ hp = hp' := by
  cases c with
  | true => obtain ⟨_, rfl⟩ := pure_some (show (pure () : M Unit) hp = some (u, hp') from h); exact ⟨rfl, rfl⟩
  | false => cases h
def short (ds : List DV) : Bool := decide (ds.length ≤ lim)
theorem short_ok {ds : List DV} (h : short ds = true) : ds.length ≤ sizeLine := Nat.le_trans (of_decide_eq_true h) lim_le
def eTup (f : DAx) : DEx := fun env => do let xs ← f env; guardM (short xs); pure (.tup xs)
def eLst (f : DAx) : DEx := fun env => do let xs ← f env; guardM (short xs); pure (.lst xs)
/-- a new tuple, a new list that is data -/
theorem fol_tup {K : PySem.W.Frag} {ρ : List Addr} {B : Addr → Prop} {H : Hp} {hp : Hs} {ds : List DV} {xs : List V} {Q : VK} (W : WOk K ρ B hp H) (r : RepL K ρ B H ds xs) (k : Fol K ρ B H (.tup ds) hp Q) : ∀ p, H p = none → Q (.ref p) (upd H p (.tup xs)) := fun p hp' =>
  k _ ρ B _ (Gr.laid hp') (W.laid hp') (rep_tup (fun z => W.bt p z hp') (SqT.of upd_same) (RepL.grow W.rb (Gr.laid hp') _ _ r))
theorem fol_lst {K : PySem.W.Frag} {ρ : List Addr} {B : Addr → Prop} {H : Hp} {hp : Hs} {ds : List DV} {xs : List V} {Q : VK} (W : WOk K ρ B hp H) (r : RepL K ρ B H ds xs) (k : Fol K ρ B H (.lst ds) hp Q) : ∀ p, H p = none → Q (.ref p) (upd H p (.lst xs)) := fun p hp' =>
  k _ ρ B _ (Gr.laid hp') (W.laid hp') (rep_lst (fun z => W.bt p z hp') (SqL.of upd_same) (RepL.grow W.rb (Gr.laid hp') _ _ r))
theorem Fol.after {K : PySem.W.Frag} {ρ ρ1 : List Addr} {B B1 : Addr → Prop} {H H1 : Hp} {hp' : Hs} {d : DV} {Q : VK} (g : Gr K ρ B H ρ1 B1 H1) (k : Fol K ρ B H d hp' Q) : Fol K ρ1 B1 H1 d hp' Q := fun v ρ' B' H' g' W r => k v ρ' B' H' (g.trans g') W r
theorem de_tup {es : List Expr} {f : DAx} {x1} (h : DA X es f) : DE X (.Tuple es x1 pos) (eTup f) :=
  (pe_tup h).imp fun σ H Q ⟨Z, env, ρ, B, hp, d, hp', S, e, k⟩ => by
    obtain ⟨xs, hp1, e1, e2⟩ := bind_some e
    obtain ⟨_, hp2, e3, e4⟩ := bind_some e2
    obtain ⟨hs, rfl⟩ := guardM_some e3
    obtain ⟨rfl, rfl⟩ := pure_some e4
    exact tDA.run S e1 fun vs ρ1 B1 H1 g1 S1 r1 => ⟨by rw [← r1.length]; exact short_ok hs, fol_tup S1.wo r1 (k.after g1)⟩
theorem de_lst {es : List Expr} {f : DAx} (h : DA X es f) : DE X (.List es pos) (eLst f) :=
  (pe_lst h).imp fun σ H Q ⟨Z, env, ρ, B, hp, d, hp', S, e, k⟩ => by
    obtain ⟨xs, hp1, e1, e2⟩ := bind_some e
    obtain ⟨_, hp2, e3, e4⟩ := bind_some e2
    obtain ⟨hs, rfl⟩ := guardM_some e3
    obtain ⟨rfl, rfl⟩ := pure_some e4
    exact tDA.run S e1 fun vs ρ1 B1 H1 g1 S1 r1 => ⟨by rw [← r1.length]; exact short_ok hs, fol_lst S1.wo r1 (k.after g1)⟩
end
end D

/-! ## a list comprehension of one clause: its block is a context of its own -/
namespace L2
open PySem PySem.Spec PyProof.Rows

def cxComp (X : Cx) (scope : Scope) (cl : List (Str × Addr)) (C : Addr) (N : List Str) (s₀ : Shared) (H₀ : Hp) (ex : List Addr) : Cx where
  prog := X.prog
  w := X.w
  K := X.K
  mg := X.mg
  base := X.base
  A := X.A
  N := N
  s₀ := s₀
  H₀ := H₀
  env := compEnvC scope cl C X.env
  outer := X.stack
  stack := X.stack
  ex := ex
  fn := fun _ => false
  calm := X.calm
  pn := []
  xe := fun _ _ => False

def AllP {α : Type} (P : α → Prop) : List α → Prop
  | [] => True
  | x :: r => P x ∧ AllP P r
theorem AllP.mem {α : Type} {P : α → Prop} : ∀ {l : List α} {x : α}, AllP P l → x ∈ l → P x
  | [], _, _, h => nomatch h
  | y :: r, x, ⟨h1, h2⟩, h => (List.mem_cons.mp h).elim (fun e => e ▸ h1) fun e => AllP.mem h2 e
/-- the captured names: N behind its first, with the places that they have outside -/
def Caps (X : Cx) (scope : Scope) (cl : List (Str × Addr)) : List Str → List Nat → Prop
  | [], [] => True
  | y :: ys, i :: is => X.N[i]? = some y ∧ (X.env.kindOf y = some .cell ∨ X.env.kindOf y = some .free) ∧ (∃ c, cl.lookup y = some c) ∧
      (relabel scope X.env).names.lookup y ≠ some .local ∧ Caps X scope cl ys is
  | _, _ => False
theorem Caps.get {X : Cx} {scope : Scope} {cl : List (Str × Addr)} : ∀ {ys : List Str} {is : List Nat} {j : Nat} {y : Str}, Caps X scope cl ys is → ys[j]? = some y →
    ∃ i, is[j]? = some i ∧ X.N[i]? = some y ∧ (X.env.kindOf y = some .cell ∨ X.env.kindOf y = some .free) ∧ (∃ c, cl.lookup y = some c) ∧ (relabel scope X.env).names.lookup y ≠ some .local
  | [], _, _, _, _, h => by simp at h
  | y :: ys, [], _, _, h, _ => by simp [Caps] at h
  | y :: ys, i :: is, 0, z, ⟨h1, h2, h3, h4, _⟩, h => by simp at h; subst h; exact ⟨i, rfl, h1, h2, h3, h4⟩
  | y :: ys, i :: is, j + 1, z, ⟨_, _, _, _, h5⟩, h => by
    obtain ⟨k, a, b⟩ := Caps.get h5 (by simpa using h)
    exact ⟨k, by simpa using a, b⟩
theorem Caps.length {X : Cx} {scope : Scope} {cl : List (Str × Addr)} : ∀ {ys : List Str} {is : List Nat}, Caps X scope cl ys is → ys.length = is.length
  | [], [], _ => rfl
  | [], _ :: _, h => by simp [Caps] at h
  | _ :: _, [], h => by simp [Caps] at h
  | _ :: ys, _ :: is, ⟨_, _, _, _, h⟩ => by simp [Caps.length h]

/-- what a comprehension's scope must be -/
structure CompS (X : Cx) (x : Str) (scope : Scope) (cl : List (Str × Addr)) (caps : List Str) (idx : List Nat) : Prop where
  clos : closureFor scope X.env = pure cl
  cell : ∀ y ∈ scope.names, y.2 ≠ .cell
  kind : scope.kind = .function
  names : ∀ y ∈ scope.names, y.2 = .local → scope.names.lookup y.1 = some .local
  hx : scope.names.lookup x = some .local
  cls : AllP (fun p : Str × Addr => X.env.cells.lookup p.1 = some p.2) cl
  has : ((relabel scope X.env).names.all fun p => !(p.2 == .cell || p.2 == .free) || (cl.lookup p.1).isSome) = true
  cps : Caps X scope cl caps idx
  nd : (x :: caps).Nodup

def cσ (idx : List Nat) (σ : St) (o : Option V) : St := o :: idx.map fun i => (σ[i]?).join

/-- the tests of a clause -/
def PTs (X : Cx) (ifs : List Expr) (t : TT) : Prop :=
  ∀ (pins : List (Addr × Obj)) (s : Shared) (σ : St) (H : Hp) (Q : Bool → Hp → Prop), Inv X pins σ H s → t σ H Q →
    wpAny (model X.prog X.w) X.A (forIn ifs true fun c r => if r = true then do let ok ← isTrue c X.env (eval c X.env); pure (ForInStep.yield ok) else pure (ForInStep.yield r)) (TP X pins σ Q) X.xe s
theorem pts_nil {X : Cx} : PTs X [] (fun _ H Q => Q true H) := fun pins s σ H Q I h => wpAny_tests_nil ⟨H, I, h⟩
theorem pts_one {X : Cx} {c : Expr} {t : TT} (h : PT X c t) : PTs X [c] t := fun pins s σ H Q I q => wpAny_tests_one (h pins s σ H Q I q)

section
variable {prog : Program} {w : World} {A : Around} {R : Result → Shared → Prop} {s : Shared}
theorem compLoop_any {elt target iter : Expr} {ifs : List Expr} {scope : Scope} {pos : Pos} {it acc : Value} {env : Env} (I : Nat → Shared → Prop)
    (turn : ∀ n s, I n s → wpAny (model prog w) A (pyNext it) (fun r s₁ => match r with
      | none => R (.ok .next) s₁
      | some v => wpAny (model prog w) A (letOwnedTupleGo target it v) (fun _ s₁' => wpAny (model prog w) A (assign target env v) (fun _ s₂ =>
          wpAny (model prog w) A (forIn ifs true fun c r => if r = true then do let ok ← isTrue c env (eval c env); pure (ForInStep.yield ok) else pure (ForInStep.yield r)) (fun ok s₃ =>
            if ok = true then wpAny (model prog w) A (eval elt env) (fun x s₄ =>
              wpAny (model prog w) A (call (.builtin "list.append") [acc, x]) (fun _ s₅ => ∃ m, m < n ∧ I m s₅) (fun _ _ => False) s₄) (fun _ _ => False) s₃
            else ∃ m, m < n ∧ I m s₃) (fun _ _ => False) s₂) (fun _ _ => False) s₁') (fun _ _ => False) s₁) (fun _ _ => False) s)
    (n : Nat) (h : I n s) :
    codeAny (model prog w) A (.compLoop (.ListComp elt [⟨target, iter, ifs, 0⟩] scope pos) 0 it acc env) R s := by
  refine codeAny_loop rfl I (fun n s hI => ?_) n h
  show wpAny _ A ((compTurn (.ListComp elt [⟨target, iter, ifs, 0⟩] scope pos) 0 it acc env).onRaise (fun x => do noteFrame x env; theTreesLotGoes x)) _ _ s
  refine wpAny_noted ?_
  rw [compTurn_list]
  refine wpAny_bind (wpAny_standAt (wpAny_bind (wpAny_mono (turn n s hI) (fun r s₁ h₁ => ?_) fun _ _ h' => h'.elim)))
  cases r with
  | none => exact wpAny_pure h₁
  | some v =>
    refine wpAny_bind (wpAny_mono h₁ (fun _ s₁' h₁' => ?_) fun _ _ h' => h'.elim)
    refine wpAny_bind (wpAny_mono h₁' (fun _ s₂ h₂ => wpAny_bind (wpAny_mono h₂ (fun ok s₃ h₃ => ?_) fun _ _ h' => h'.elim)) fun _ _ h' => h'.elim)
    cases ok with
    | false => exact wpAny_pure ⟨rfl, h₃⟩
    | true =>
      exact wpAny_bind (wpAny_bind (wpAny_mono h₃ (fun x s₄ h₄ => wpAny_bind (wpAny_mono h₄ (fun _ s₅ h₅ => wpAny_pure (wpAny_pure ⟨rfl, h₅⟩)) fun _ _ h' => h'.elim)) fun _ _ h' => h'.elim))
end

def tComp (K : PySem.W.Frag) (wi : TI) (tt : TT) (te : TE) (idx : List Nat) : TE := fun σ H Q => wi σ H fun J H1 => ∀ D, H1 D = none → K.lookup D = none → ∃ W : Nat → Nat → List V → Hp → Prop, (∃ m, W 0 m [] (upd H1 D (.lst []))) ∧
  ∀ i m ys H, W i m ys H → H D = some (.lst ys) ∧ ((J.stop i H ∧ Q (.ref D) H) ∨ (J.go i H ∧ ∀ x H', J.yld i H x H' → tt (cσ idx σ (some x)) H' fun b H2 =>
    if b = true then te (cσ idx σ (some x)) H2 fun y H3 => H3 D = some (.lst ys) ∧ ys.length < sizeLine ∧ ∃ m', m' < m ∧ W (i + 1) m' (ys ++ [y]) (upd H3 D (.lst (ys ++ [y])))
    else ∃ m', m' < m ∧ W (i + 1) m' ys H2))

section
variable {X : Cx} {elt iter : Expr} {x : Str} {px : Pos} {ifs : List Expr} {scope : Scope} {cl : List (Str × Addr)} {pos : Pos} {caps : List Str} {idx : List Nat} {wi : TI} {tt : TT} {te : TE}

theorem comp_run {E : Value → Shared → Prop} {use : Option (Value → Sem Unit)} {QQ : Value → Shared → Prop} {newpos : Pos} (S : CompS X x scope cl caps idx) (hc : X.calm = true) (hi : PI X (.Name x px) iter wi)
    (ht : ∀ C s₀ H₀ ex, PTs (cxComp X scope cl C (x :: caps) s₀ H₀ ex) ifs tt) (he : ∀ C s₀ H₀ ex, PE (cxComp X scope cl C (x :: caps) s₀ H₀ ex) elt te)
    {pins : List (Addr × Obj)} {s : Shared} {σ : St} {H : Hp} {Q : VK} (I : Inv X pins σ H s) (h : tComp X.K wi tt te idx σ H Q)
    (hE : X.xe = E)
    (hend : ∀ (D C : Addr) (H' : Hp) (s' : Shared) (m : Str → Option Value), Inv X pins σ H' s' → Q (.ref D) H' → s'.heap.Ns C m → H' C = none → C ≠ X.env.locals → X.s₀.heap.objs.size ≤ C → (∀ x c, X.env.cells.lookup x = some c → c ≠ C) → (∀ p ∈ X.pn ++ pins, p.1 ≠ C) →
      compPost (model X.prog X.w) X.A E use QQ (.ref D) C (.ok .next) s')
    (hs : ∀ x, foldedSetIterable iter X.env x = pure x := by intro _; rfl) :
    wpAny (model X.prog X.w) X.A (comprehension (.ListComp elt [⟨.Name x px, iter, ifs, 0⟩] scope pos) scope X.env newpos (newList []) false (eval iter X.env) use) QQ E s := by
  subst hE
  refine wpAny_comprehension_free (use := use) rfl hs S.clos S.kind S.names (thn (hi pins s σ H _ I h) fun xv s1 h1 => thn h1 fun itv s2 h2 => ?_)
  obtain ⟨it, fp, tn, J, H2, rfl, I2, T, st2, f2, hQ⟩ := h2
  refine wpAny_newObj_type (wpAny_newFunctionEnv S.cell (by intro y hy; simp at hy) (fun h₁ hns₁ hsb₁ => ?_) S.kind)
  dsimp only at hns₁ hsb₁ ⊢
  generalize hH2 : s2.heap.push { cls := .type "list", dict := none, data := .seq ([] : List Value).toArray } = hp3 at hns₁ hsb₁ ⊢
  have hC : hp3.objs.size = s2.heap.objs.size + 1 := by rw [← hH2, Heap.size_push]
  have keep3 : ∀ b o, s2.heap.get? b = some o → hp3.get? b = some o := fun b o e => hH2 ▸ Heap.get?_push_of_some _ e
  have hDf : H2 s2.heap.objs.size = none := I2.hok.fresh (Nat.le_refl _)
  have I3 : Inv X pins σ (upd H2 s2.heap.objs.size (.lst [])) { s2 with heap := hp3 } :=
    I2.laid (t' := s2.toks) keep3 (Nat.le_refl _) ⟨Nat.zero_le _, [], _, .nil, hH2 ▸ Heap.get?_push_size _ rfl⟩
  have hDk : X.K.lookup s2.heap.objs.size = none := by
    cases q : X.K.lookup s2.heap.objs.size with
    | none => rfl
    | some o => exact absurd (Heap.lt_size (I2.kIn _ o q)) (Nat.lt_irrefl _)
  obtain ⟨W, ⟨m0, w0⟩, turn⟩ := hQ _ hDf hDk
  generalize hDd : s2.heap.objs.size = D at *
  generalize hCc : hp3.objs.size = C at *
  have ltC : ∀ b o, hp3.get? b = some o → b ≠ C := fun b o e => by rw [← hCc]; exact Nat.ne_of_lt (Heap.lt_size e)
  have keep4 : ∀ b o, hp3.get? b = some o → h₁.get? b = some o := fun b o e => hsb₁.extBut b o (ltC b o e) (Heap.get?_push_of_some _ e)
  have s3sz : ({ s2 with heap := hp3 } : Shared).heap.objs.size = C := hCc
  have clE : ∀ y c, cl.lookup y = some c → X.env.cells.lookup y = some c := fun y c e => S.cls.mem (PySem.mem_of_lookup e)
  have fpLt : ∀ b ∈ fp, ∃ o, s2.heap.get? b = some o := fun b hb => let ⟨o, e, _⟩ := T.obj _ _ st2 b hb; ⟨o, e⟩
  have fpC : ∀ b ∈ fp, b ≠ C := fun b hb => let ⟨o, e⟩ := fpLt b hb; ltC b o (keep3 b o e)
  have fpD : ∀ b ∈ fp, b ≠ D := fun b hb => let ⟨o, e⟩ := fpLt b hb; by rw [← hDd]; exact Nat.ne_of_lt (Heap.lt_size e)
  have fr3 : ∀ b ∈ fp, (upd H2 D (.lst [])) b = none := fun b hb => by rw [upd_ne (fpD b hb)]; exact (f2 b hb).1
  have cellLt : ∀ y c, X.env.cells.lookup y = some c → c ≠ C := fun y c e => let ⟨v, o, ho, _⟩ := I3.cell y c e; ltC c o ho
  have fpStk : ∀ b ∈ fp, b ∉ frs X.stack := fun b hb z => (List.mem_cons.mp (I2.stkSub b z)).elim (f2 b hb).2.1 (f2 b hb).2.2.1
  let X' := cxComp X scope cl C (x :: caps) { s2 with heap := hp3 } (upd H2 D (.lst [])) fp
  have ok' : X'.Ok := by
    refine ⟨I3.ok.mod, by show (relabel scope X.env).kind = _; exact S.kind, I3.ok.glob, I3.ok.blt, by show hp3.objs.size ≤ C; rw [hCc]; exact Nat.le_refl _, fun y z c h1 h2 => I3.ok.inj y z c (clE y c h1) (clE z c h2), fun y hy => ?_,
      fun y c z => (by cases z), I3.ok.hd, I3.ok.frames, .inl rfl, fun b hb => ⟨fpC b hb, fun y c e => (f2 b hb).2.2.2.2.1 y c (clE y c e)⟩, I3.bs, Nat.le_trans I3.ok.bsz I3.sz,
      fun b o e hb => ?_, fun b hb => fpStk b hb, I3.stack, I3.stkFree⟩
    · have hy' : (relabel scope X.env).names.lookup y = some .cell ∨ (relabel scope X.env).names.lookup y = some .free := hy
      have q := S.has
      rw [List.all_eq_true] at q
      have : (cl.lookup y).isSome = true := by
        rcases hy' with z | z
        · have q := q _ (PySem.mem_of_lookup z); simpa using q
        · have q := q _ (PySem.mem_of_lookup z); simpa using q
      exact Option.isSome_iff_exists.mp this
    · have := (f2 b hb).2.2.2.1
      have e3 := (I2.ok.bs b o e).1
      rcases this with z | z
      · exact I2.ok.noex b o e z
      · exact absurd (Nat.lt_of_lt_of_le (Heap.lt_size e3) z) (Nat.lt_irrefl _)
  have capsLen := S.cps.length
  -- a state of the block, from the def's own facts
  have I4 : Inv X' [] (cσ idx σ none) (upd H2 D (.lst [])) { s2 with heap := h₁, toks := s2.toks + ([] : List (Str × Value)).length } := by
    refine ⟨ok', rfl, I3.bare, Un.kept keep4, ⟨_, hns₁, fun i y v e1 e2 e3 => ?_⟩, fun y c e => ?_, ?_, fun y c e => I3.freeC y c (clE y c e), fun p hp => absurd (show p ∈ ([] : List (Addr × Obj)) from hp) (by simp), I3.hok.kept keep4, ?_⟩
    · cases i with
      | zero => exact absurd e2 (by simp [cσ])
      | succ j =>
        obtain ⟨k, h1, h2, h3, ⟨c, h4⟩, h5⟩ := S.cps.get (show caps[j]? = some y by have e1' : (x :: caps)[j + 1]? = some y := e1; simpa using e1')
        have e2' : (σ[k]?).join = some v := by simpa [cσ, h1] using e2
        have e2'' : σ[k]? = some (some v) := by
          cases q : σ[k]? with
          | none => rw [q] at e2'; cases e2'
          | some z => rw [q] at e2'; exact congrArg some e2'
        obtain ⟨mL, hnL, hl⟩ := I3.loc
        have vis : Vis X.env.scope y := by rcases h3 with z | z; exact .inr (.inl z); exact .inr (.inr z)
        obtain ⟨u, r, l⟩ := hl k y v h2 e2'' vis
        refine ⟨u, r, .inr ⟨?_, c, h4, ?_⟩⟩
        · have e3' : (relabel scope X.env).names.lookup y = some .local ∨ (relabel scope X.env).names.lookup y = some .cell ∨ (relabel scope X.env).names.lookup y = some .free := e3
          rcases e3' with z | z | z
          · exact absurd z h5
          · exact .inl z
          · exact .inr z
        · rcases l with ⟨z, _⟩ | ⟨_, c', e, z⟩
          · rcases h3 with q | q <;> · rw [q] at z; cases z
          · rw [clE y c h4] at e; cases e
            obtain ⟨o, ho, hd⟩ := z
            exact ⟨o, keep4 _ _ ho, hd⟩
    · obtain ⟨v, o, ho, hd⟩ := I3.cell y c (clE y c e)
      exact ⟨v, o, keep4 _ _ ho, hd⟩
    · exact I3.hok.fresh (by show hp3.objs.size ≤ C; rw [hCc]; exact Nat.le_refl _)
    · simp [cσ, X', cxComp, capsLen]
  have st4 : tn 0 h₁ := T.keep _ _ _ st2 fun b _ o e => keep4 b o (keep3 b o e)
  have fpX : ∀ {H' : Hp} {pins' : List (Addr × Obj)}, (∀ b ∈ fp, H' b = none) → (pins' = []) → ∀ b ∈ fp, FpOk X' pins' H' b := fun hn e b hb => by
    subst e
    exact ⟨hn b hb, fpC b hb, fpStk b hb, .inl hb, fun y c e => (f2 b hb).2.2.2.2.1 y c (clE y c e), fun p hp => absurd (show p ∈ ([] : List (Addr × Obj)) from hp) (by simp)⟩
  have loop : ∀ s₃ : Shared, s₃ = { s2 with heap := h₁, toks := s2.toks + ([] : List (Str × Value)).length } →
      codeAny (model X.prog X.w) X.A (.compLoop (.ListComp elt [⟨.Name x px, iter, ifs, 0⟩] scope pos) 0 (.ref it) (.ref D) (compEnvC scope cl C X.env)) (compPost (model X.prog X.w) X.A X.xe use QQ (.ref D) C) s₃ := by
    rintro s₃ rfl
    refine compLoop_any (fun n s' => ∃ i o H' ys, Inv X' [] (cσ idx σ o) H' s' ∧ tn i s'.heap ∧ (∀ b ∈ fp, H' b = none) ∧ W i n ys H') ?_ m0 ⟨0, none, _, [], I4, st4, fr3, w0⟩
    rintro n s5 ⟨i, o, H5, ys, I5, st5, fr5, w5⟩
    obtain ⟨hD, tw⟩ := turn i n ys H5 w5
    rcases tw with ⟨stop, q⟩ | ⟨go, step⟩
    · refine thn (T.done X' rfl rfl rfl hc i [] s5 _ H5 _ I5 (fpX fr5 rfl) st5 stop) fun r s6 ⟨hr, I6⟩ => ?_
      subst hr
      obtain ⟨m6, hn6, _⟩ := I6.loc
      have I7 : Inv X pins σ H5 s6 := I3.call' (s' := s6) (ch := fp) I6.os I6.base I6.hok I6.bare fun b hb => ⟨(f2 b hb).2.2.2.1, (f2 b hb).2.1, (f2 b hb).2.2.2.2.1, (f2 b hb).2.2.2.2.2⟩
      refine hend D C H5 s6 m6 I7 q hn6 I6.free ?_ ?_ cellLt fun p hp => ?_
      · rw [← hCc]; exact Nat.ne_of_gt I3.lt
      · rw [← hCc]; exact I3.sz
      · exact ltC p.1 p.2 (I3.pin p hp).1
    · refine thn (T.item X' rfl rfl rfl hc i [] s5 _ H5 _ I5 (fpX fr5 rfl) st5 go) fun r s6 ⟨u, hr, h6⟩ => ?_
      subst hr
      refine thn h6 fun _ s7 ⟨y, H7, I7, r7, y7, st7, fr7⟩ => ?_
      have I7' := I7.pinned (fpX fr7 rfl) (T.obj _ _ st7)
      refine thn (pg_name (X := X') (i := 0) S.nd rfl (.inl (lookup_relabel_local S.hx)) (.inr (lookup_relabel_local S.hx)) _ s7 _ H7 y u (fun σ' H' => σ' = cσ idx σ (some y) ∧ H' = H7) I7' r7 ⟨rfl, rfl⟩) fun _ s8 ⟨σ8, H8, I8, e8, e8'⟩ => ?_
      subst e8
      subst e8'
      have again : ∀ {H9 : Hp} {s9 : Shared} {ys' : List V}, Inv X' ([] ++ pinsAt fp s7.heap) (cσ idx σ (some y)) H9 s9 → (∃ m', m' < n ∧ W (i + 1) m' ys' H9) →
          ∃ m, m < n ∧ ∃ i o H' ys, Inv X' [] (cσ idx σ o) H' s9 ∧ tn i s9.heap ∧ (∀ b ∈ fp, H' b = none) ∧ W i m ys H' := fun {H9 s9 ys'} I9 ⟨m', hm, w9⟩ => by
        refine ⟨m', hm, i + 1, some y, H9, ys', I9.unpinned, T.keep _ _ _ st7 fun b hb o e => (I9.pin (b, o) (List.mem_append_right _ (List.mem_append_right _ (mem_pinsAt hb e)))).1, fun b hb => ?_, w9⟩
        obtain ⟨o, e, d⟩ := T.obj _ _ st7 b hb
        exact (I9.pin (b, o) (List.mem_append_right _ (List.mem_append_right _ (mem_pinsAt hb e)))).2.1
      refine thn (ht _ _ _ _ _ s8 _ H8 _ I8 (step y H8 y7)) fun ok s9 ⟨H9, I9, q9⟩ => ?_
      cases ok with
      | false => exact again I9 (by rw [if_neg Bool.false_ne_true] at q9; exact q9)
      | true =>
        rw [if_pos rfl] at q9 ⊢
        refine thn (he _ _ _ _ _ s9 _ H9 _ I9 q9) fun v s10 ⟨z, H10, I10, r10, hD10, hlen, m', hm, w10⟩ => ?_
        refine thn (mt_append (X := X') _ s10 _ H10 (.ref D) [z] (.ref D) [v] (fun _ H' => H' = upd H10 D (.lst (ys ++ [z]))) I10 rfl (.cons r10 .nil) ⟨D, ys, z, rfl, rfl, hD10, hlen, rfl⟩) fun _ s11 ⟨_, H11, I11, _, e11⟩ => ?_
        subst e11
        exact again I11 ⟨m', hm, w10⟩
  exact codeAny_compStart_list (loop _ rfl) (T.self X.A 0 _ _ _ st4 (loop _ rfl))
end
end L2
namespace L2
open PySem PySem.Spec PyProof.Rows
section
variable {X : Cx} {elt iter : Expr} {x : Str} {px : Pos} {ifs : List Expr} {scope : Scope} {cl : List (Str × Addr)} {pos : Pos} {caps : List Str} {idx : List Nat} {wi : TI} {tt : TT} {te : TE}
theorem pe_comp (S : CompS X x scope cl caps idx) (hc : X.calm = true) (hi : PI X (.Name x px) iter wi)
    (ht : ∀ C s₀ H₀ ex, PTs (cxComp X scope cl C (x :: caps) s₀ H₀ ex) ifs tt) (he : ∀ C s₀ H₀ ex, PE (cxComp X scope cl C (x :: caps) s₀ H₀ ex) elt te)
    (hs : ∀ x, foldedSetIterable iter X.env x = pure x := by intro _; rfl) : PE X (.ListComp elt [⟨.Name x px, iter, ifs, 0⟩] scope pos) (tComp X.K wi tt te idx) := by
  intro pins s σ H Q I h
  rw [eval_ListComp]
  refine comp_run (use := none) S hc hi ht he I h rfl (fun D C H' s' m I' q hn hC h1 h2 h3 h4 => ?_) hs
  show ∃ m, s'.heap.Ns C m ∧ ∀ h', Heap.SameBut C s'.heap h' → EP X pins σ Q (.ref D) { s' with heap := h' }
  exact ⟨m, hn, fun h' hs => ⟨.ref D, H', I'.turned (t' := s'.toks) (fun b o hb e => hs.extBut b o hb e) hC (Ne.symm (Ne.symm h1)) (.inr h2) h3 h4, rfl, q⟩⟩
/-- y = [..] where the comprehension's names are let go behind the store -/
theorem ps_comp {i : Nat} {y : Str} {py spos : Pos} (S : CompS X x scope cl caps idx) (hc : X.calm = true) (hi : PI X (.Name x px) iter wi)
    (ht : ∀ C s₀ H₀ ex, PTs (cxComp X scope cl C (x :: caps) s₀ H₀ ex) ifs tt) (he : ∀ C s₀ H₀ ex, PE (cxComp X scope cl C (x :: caps) s₀ H₀ ex) elt te)
    (hN : X.N.Nodup) (hy : X.N[i]? = some y) (hx : Loc X.env.scope y) (hsw : swapsWith (.ListComp elt [⟨.Name x px, iter, ifs, 0⟩] scope pos) (some (.Name y py)) spos.line X.env = pure true)
    (hf : X.fn y = true ∨ X.env.scope.names.lookup y = some .local := by first | exact .inl rfl | exact .inr rfl | assumption)
    (hs : ∀ x, foldedSetIterable iter X.env x = pure x := by intro _; rfl) : PS X (.Assign [.Name y py] (.ListComp elt [⟨.Name x px, iter, ifs, 0⟩] scope pos) spos) (tAsg (tComp X.K wi tt te idx) (gName i)) := by
  intro pins s σ H D I h
  rw [exec_Assign_Name_used _ _ _ _ hsw]
  refine wpAny_bind (wpAny_standAt (wpAny_bind ?_))
  show wpAny _ X.A (do let _ ← comprehension (.ListComp elt [⟨.Name x px, iter, ifs, 0⟩] scope pos) scope X.env _ (newList []) false (eval iter X.env) (some (assign (.Name y py) X.env))) _ _ s
  refine wpAny_bind (wpAny_mono (comp_run (use := some (assign (.Name y py) X.env)) (QQ := fun _ s' => SP X pins D .next s') S hc hi ht he I h rfl (fun Da C H' s' m I' q hn hC h1 h2 h3 h4 => ?_) hs) (fun _ s' hq => wpAny_pure (wpAny_pure hq)) fun _ _ e => e)
  show wpAny _ X.A (assign (.Name y py) X.env (.ref Da)) (fun _ s'' => ∃ m, s''.heap.Ns C m ∧ ∀ h', Heap.SameBut C s''.heap h' → SP X pins D .next { s'' with heap := h' }) _ s'
  refine wpAny_assign_Name (store_ok2 I' hN hy hx (v := .ref Da) rfl (fun s'' I'' ⟨a, hs, ha⟩ => ?_) hf)
  refine ⟨m, hn.sameBut hs ?_, fun h' hs' => ⟨_, H', I''.turned (t' := s''.toks) (fun b o hb e => hs'.extBut b o hb e) hC h1 (.inr h2) h3 h4, q⟩⟩
  rcases ha with rfl | ha
  · exact h1
  · exact Ne.symm (h3 _ _ ha)
end
end L2

namespace D
open PySem PySem.Spec PyProof.Rows L2
section
variable {K : PySem.W.Frag} {Z : Ent} {env : En} {σ : St} {ρ ρ' : List Addr} {B B' : Addr → Prop} {hp hp' : Hs} {H H' : Hp}

/-- a slot is given a value -/
theorem SOk.set {i : Nat} {d : DV} {v : V} (S : SOk K Z env σ ρ B hp H) (r : RepV K ρ B H d v) : SOk K Z (env.set i (.val d)) (σ.set i (some v)) ρ B hp H where
  gr := S.gr
  zb := S.zb
  wo := S.wo
  slot := fun j e h => by
    by_cases hj : j = i
    · subst hj
      have hl : j < env.length := by have := (List.getElem?_eq_some_iff.mp h).1; simpa using this
      rw [List.getElem?_set_self hl] at h; cases h
      exact ⟨v, List.getElem?_set_self (by rw [S.len]; exact hl), r⟩
    · rw [List.getElem?_set_ne (Ne.symm hj)] at h ⊢
      exact S.slot j e h
  accs := fun j ds h => by
    by_cases hj : j = i
    · subst hj
      have hl : j < env.length := by have := (List.getElem?_eq_some_iff.mp h).1; simpa using this
      rw [List.getElem?_set_self hl] at h; cases h
    · rw [List.getElem?_set_ne (Ne.symm hj)] at h ⊢
      exact S.accs j ds h
  adis := fun j k ds es a h1 h2 h3 h4 => by
    have nj : ∀ {j : Nat} {ds : List DV}, (env.set i (.val d))[j]? = some (.acc ds) → j ≠ i := fun {j ds} h e => by
      subst e
      have hl : j < env.length := by have := (List.getElem?_eq_some_iff.mp h).1; simpa using this
      rw [List.getElem?_set_self hl] at h; cases h
    have hj := nj h1
    have hk := nj h2
    rw [List.getElem?_set_ne (Ne.symm hj)] at h1 h3
    rw [List.getElem?_set_ne (Ne.symm hk)] at h2 h4
    exact S.adis j k ds es a h1 h2 h3 h4
  len := by simp [S.len]
end
section
variable {X : Cx} {e a b c : Expr} {f fa fb : DEx} {ca cb : DTx} {pos : Pos} {st : Stmt} {sts rest : List Stmt} {s s' : DSx}

theorem FolS.after {K : PySem.W.Frag} {Z : Ent} {ρ ρ1 : List Addr} {B B1 : Addr → Prop} {H H1 : Hp} {fl : Fl} {env' : En} {hp' : Hs} {D : Ends} (g : Gs K ρ B H ρ1 B1 H1) (k : FolS K Z ρ B H fl env' hp' D) : FolS K Z ρ1 B1 H1 fl env' hp' D :=
  fun σ' ρ' B' H' g' S => k σ' ρ' B' H' (g.trans g') S

/-! ### statements -/
def sNil : DSx := fun env => pure (.nx, env)
def sSeq (f g : DSx) : DSx := fun env => do
  let r ← f env
  match r.1 with
  | .nx => g r.2
  | _ => pure r
def sIf (c : DTx) (f g : DSx) : DSx := fun env => do if ← c env then f env else g env
def sRet (f : DEx) : DSx := fun env => do let d ← f env; pure (.rt d, env)
def sRetN : DSx := fun env => pure (.rt .non, env)
def sDrop (f : DEx) : DSx := fun env => do let _ ← f env; pure (.nx, env)
def sSet (i : Nat) (f : DEx) : DSx := fun env => do let d ← f env; pure (.nx, env.set i (.val d))
theorem dss_nil : DSs X [] sNil := pss_nil.imp fun D σ H ⟨Z, env, ρ, B, hp, fl, env', hp', S, e, k⟩ => by
  obtain ⟨e1, rfl⟩ := pure_some e
  cases e1
  exact k σ ρ B H Gs.refl S
theorem sSeq_imp {K : PySem.W.Frag} {D : Ends} {σ : St} {H : Hp} (h : tDS K (sSeq s s') D σ H) : tSeq (tDS K s) (tDS K s') D σ H := by
  obtain ⟨Z, env, ρ, B, hp, fl, env', hp', S, e, k⟩ := h
  obtain ⟨⟨f1, env1⟩, hp1, e1, e2⟩ := bind_some e
  refine ⟨Z, env, ρ, B, hp, f1, env1, hp1, S, e1, fun σ' ρ' B' H' g S' => ?_⟩
  cases f1 with
  | nx => exact ⟨Z, env1, ρ', B', hp1, fl, env', hp', S', e2, k.after g⟩
  | rt d => obtain ⟨z, rfl⟩ := pure_some e2; cases z; exact k σ' ρ' B' H' g S'
  | bk => obtain ⟨z, rfl⟩ := pure_some e2; cases z; exact k σ' ρ' B' H' g S'
  | ct => obtain ⟨z, rfl⟩ := pure_some e2; cases z; exact k σ' ρ' B' H' g S'
theorem dss_cons (h1 : DS X st s) (h2 : DSs X rest s') : DSs X (st :: rest) (sSeq s s') := (pss_cons h1 h2).imp fun _ _ _ h => sSeq_imp h
theorem dss_one (h1 : DS X st s) : DSs X [st] s := pss_one h1
theorem ds_if {x y : List Stmt} (hc : DT X c ca) (h1 : DSs X x s) (h2 : DSs X y s') : DS X (.If c x y pos) (sIf ca s s') :=
  (ps_if hc h1 h2).imp fun D σ H ⟨Z, env, ρ, B, hp, fl, env', hp', S, e, k⟩ => by
    obtain ⟨x, hp1, e1, e2⟩ := bind_some e
    refine tDT.run S e1 fun ρ1 B1 H1 g1 S1 => ?_
    cases x with
    | true => exact iteT ⟨Z, env, ρ1, B1, hp1, fl, env', hp', S1, e2, k.after (g1.gs S.wo.rb)⟩
    | false => exact iteF ⟨Z, env, ρ1, B1, hp1, fl, env', hp', S1, e2, k.after (g1.gs S.wo.rb)⟩
theorem ds_ret (h : DE X e f) : DS X (.Return (some e) pos) (sRet f) :=
  (ps_ret h).imp fun D σ H ⟨Z, env, ρ, B, hp, fl, env', hp', S, e, k⟩ => by
    obtain ⟨d, hp1, e1, e2⟩ := bind_some e
    obtain ⟨z, rfl⟩ := pure_some e2; cases z
    exact tD.run S e1 fun v ρ1 B1 H1 g1 S1 r1 => k σ ρ1 B1 H1 (g1.gs S.wo.rb) S1 v r1
theorem ds_expr (h : DE X e f) (hs : swapsWith e none pos.line X.env = pure false := by rfl) : DS X (.Expr e pos) (sDrop f) :=
  (ps_expr h hs).imp fun D σ H ⟨Z, env, ρ, B, hp, fl, env', hp', S, e, k⟩ => by
    obtain ⟨d, hp1, e1, e2⟩ := bind_some e
    obtain ⟨z, rfl⟩ := pure_some e2; cases z
    exact tD.run S e1 fun v ρ1 B1 H1 g1 S1 r1 => k σ ρ1 B1 H1 (g1.gs S.wo.rb) S1
theorem sSet_imp {K : PySem.W.Frag} {D : Ends} {σ : St} {H : Hp} {i : Nat} {t : TE} (ht : ∀ σ H Q, tD K f σ H Q → t σ H Q) (h : tDS K (sSet i f) D σ H) : tAsg t (gName i) D σ H := by
  obtain ⟨Z, env, ρ, B, hp, fl, env', hp', S, e, k⟩ := h
  obtain ⟨d, hp1, e1, e2⟩ := bind_some e
  obtain ⟨z, rfl⟩ := pure_some e2; cases z
  exact ht _ _ _ (tD.run S e1 fun v ρ1 B1 H1 g1 S1 r1 => k _ ρ1 B1 H1 (g1.gs S.wo.rb) (S1.set r1))
theorem ds_set (i : Nat) {x : Str} {pos' : Pos} (hN : X.N.Nodup) (he : DE X e f) (hi : X.N[i]? = some x := by rfl) (hx : Loc X.env.scope x := by first | exact Or.inl rfl | exact Or.inr rfl) (hs : swapsWith e (some (.Name x pos')) pos.line X.env = pure false := by rfl)
    (hf : X.fn x = true ∨ X.env.scope.names.lookup x = some .local := by first | exact .inl rfl | exact .inr rfl | assumption) : DS X (.Assign [.Name x pos'] e pos) (sSet i f) :=
  (ps_set hN hi hx he hs hf).imp fun _ _ _ h => sSet_imp (fun _ _ _ q => q) h

/-! ### targets -/
abbrev DGx := DV → En → M En
def tDG (K : PySem.W.Frag) (g : DGx) : TG := fun v σ H Q => ∃ Z env ρ B hp d env' hp', SOk K Z env σ ρ B hp H ∧ RepV K ρ B H d v ∧ g d env hp = some (env', hp') ∧ ∀ σ' ρ' B' H', Gs K ρ B H ρ' B' H' → SOk K Z env' σ' ρ' B' hp' H' → Q σ' H'
def gN (i : Nat) : DGx := fun d env => pure (env.set i (.val d))
theorem dg_name (i : Nat) {x : Str} (hN : X.N.Nodup) (hi : X.N[i]? = some x := by rfl) (hx : Loc X.env.scope x := by first | exact Or.inl rfl | exact Or.inr rfl) (hf : X.fn x = true ∨ X.env.scope.names.lookup x = some .local := by first | exact .inl rfl | exact .inr rfl | assumption) : PG X (.Name x pos) (tDG X.K (gN i)) := by
  intro pins s σ H v u Q I r h
  refine pg_name hN hi hx hf pins s σ H v u Q I r ?_
  obtain ⟨Z, env, ρ, B, hp, d, env', hp', S, rd, e, k⟩ := h
  obtain ⟨rfl, rfl⟩ := pure_some e
  exact k _ ρ B H Gs.refl (S.set rd)

/-! ### what is walked -/
/-- J yields these, one by one, whatever is done meanwhile -/
def ItOk (K : PySem.W.Frag) (ρ : List Addr) (B : Addr → Prop) (H : Hp) (ds : List DV) (J : It) : Prop :=
  ∀ ρ1 B1 H1, Gs K ρ B H ρ1 B1 H1 → (∀ b ∈ ρ1, B1 b) → (∀ a, B1 a → H1 a ≠ none) → (∀ (i : Nat) (d : DV), ds[i]? = some d → J.go i H1 ∧ ∀ x H', J.yld i H1 x H' → RepV K ρ1 B1 H' d x ∧ (H' = H1 ∨ ∃ p o, H1 p = none ∧ H' = upd H1 p o)) ∧ J.stop ds.length H1
abbrev DIx := En → M (List DV)
def tDI (K : PySem.W.Frag) (f : DIx) : TI := fun σ H R => ∃ Z env ρ B hp ds hp', SOk K Z env σ ρ B hp H ∧ f env hp = some (ds, hp') ∧ ∀ J ρ' B' H', Gr K ρ B H ρ' B' H' → WOk K ρ' B' hp' H' → ItOk K ρ' B' H' ds J → R J H'
def DI (X : Cx) (tg iter : Expr) (f : DIx) : Prop := PI X tg iter (tDI X.K f)

def lstD : DV → M (List DV)
  | .lst ds => pure ds
  | _ => failure
def tupD : DV → M (List DV)
  | .tup ds => pure ds
  | _ => failure
def iLst (f : DEx) : DIx := fun env => do lstD (← f env)
def iTp (f : DEx) : DIx := fun env => do tupD (← f env)
theorem lstD_some {d : DV} {ds : List DV} {hp hp' : Hs} (h : lstD d hp = some (ds, hp')) : d = .lst ds ∧ hp = hp' := by
  cases d with
  | lst xs => obtain ⟨rfl, rfl⟩ := pure_some h; exact ⟨rfl, rfl⟩
  | _ => cases h
theorem tupD_some {d : DV} {ds : List DV} {hp hp' : Hs} (h : tupD d hp = some (ds, hp')) : d = .tup ds ∧ hp = hp' := by
  cases d with
  | tup xs => obtain ⟨rfl, rfl⟩ := pure_some h; exact ⟨rfl, rfl⟩
  | _ => cases h
theorem it_list {K : PySem.W.Frag} {ρ : List Addr} {B : Addr → Prop} {H : Hp} {ds : List DV} {a : Addr} {xs : List V} (nb : ¬ B a) (sq : SqL K H a xs) (rl : RepL K ρ B H ds xs) : ItOk K ρ B H ds (Itl K a) := fun ρ1 B1 H1 g _ _ => by
  have sq1 := g.sqL nb sq
  have rl1 := RepL.gs g _ _ rl
  refine ⟨fun i d e => ?_, xs, sq1, by rw [rl1.length]; exact Nat.le_refl _⟩
  obtain ⟨x, hx, r⟩ := rl1.get e
  refine ⟨⟨xs, x, sq1, hx⟩, fun y H' ⟨e', q⟩ => ?_⟩
  subst e'
  have := q xs sq1
  rw [hx] at this; cases this
  exact ⟨r, .inl rfl⟩
theorem it_tup {K : PySem.W.Frag} {ρ : List Addr} {B : Addr → Prop} {H : Hp} {ds : List DV} {a : Addr} {xs : List V} (nb : ¬ B a) (sq : SqT K H a xs) (rl : RepL K ρ B H ds xs) : ItOk K ρ B H ds (Itt K a) := fun ρ1 B1 H1 g _ _ => by
  have sq1 := g.sqT nb sq
  have rl1 := RepL.gs g _ _ rl
  refine ⟨fun i d e => ?_, xs, sq1, by rw [rl1.length]; exact Nat.le_refl _⟩
  obtain ⟨x, hx, r⟩ := rl1.get e
  refine ⟨⟨xs, x, sq1, hx⟩, fun y H' ⟨e', q⟩ => ?_⟩
  subst e'
  have := q xs sq1
  rw [hx] at this; cases this
  exact ⟨r, .inl rfl⟩
def rangeL (lo : Int) (n : Nat) : List DV := (List.range n).map fun (i : Nat) => .int (lo + (i : Int))
theorem it_range {K : PySem.W.Frag} {ρ : List Addr} {B : Addr → Prop} {H : Hp} {lo : Int} {n : Nat} : ItOk K ρ B H (rangeL lo n) (Itr lo n) := fun ρ1 B1 H1 g _ _ => by
  refine ⟨fun i d e => ?_, by show n ≤ _; simp [rangeL]⟩
  have hi : i < n := by have := (List.getElem?_eq_some_iff.mp e).1; simpa [rangeL] using this
  refine ⟨hi, fun y H' ⟨e', q⟩ => ?_⟩
  subst e' q
  have : d = .int (lo + i) := by simp [rangeL, hi] at e; exact e.symm
  subst this
  exact ⟨rep_int, .inl rfl⟩
variable {tg iter : Expr}
theorem _root_.L2.PI.imp {wi wi' : TI} (h : PI X tg iter wi) (i : ∀ σ H R, wi' σ H R → wi σ H R) : PI X tg iter wi' := fun pins s σ H R I q => h pins s σ H R I (i σ H R q)
theorem di_list (h : DE X iter f) : DI X tg iter (iLst f) := (pi_list h).imp fun σ H R ⟨Z, env, ρ, B, hp, ds, hp', S, e, k⟩ => by
  obtain ⟨d, hp1, e1, e2⟩ := bind_some e
  obtain ⟨rfl, rfl⟩ := lstD_some e2
  refine tD.run S e1 fun v ρ1 B1 H1 g1 S1 r1 => ?_
  obtain ⟨a, xs, rfl, nb, sq, rl⟩ := r1.lstI
  exact ⟨a, rfl, ⟨xs, sq⟩, k _ ρ1 B1 H1 g1 S1.wo (it_list nb sq rl)⟩
theorem di_tup (h : DE X iter f) : DI X tg iter (iTp f) := (pi_tup h).imp fun σ H R ⟨Z, env, ρ, B, hp, ds, hp', S, e, k⟩ => by
  obtain ⟨d, hp1, e1, e2⟩ := bind_some e
  obtain ⟨rfl, rfl⟩ := tupD_some e2
  refine tD.run S e1 fun v ρ1 B1 H1 g1 S1 r1 => ?_
  obtain ⟨a, xs, rfl, nb, sq, rl⟩ := r1.tupI
  exact ⟨a, rfl, ⟨xs, sq⟩, k _ ρ1 B1 H1 g1 S1.wo (it_tup nb sq rl)⟩
def smallI (j : Int) : Bool := decide (-(2 ^ 62) ≤ j ∧ j < 2 ^ 62)
def rng1 : List DV → M (List DV)
  | [.int j] => do guardM (smallI j); pure (rangeL 0 j.toNat)
  | _ => failure
def iRg1 (f : DAx) : DIx := fun env => do rng1 (← f env)
theorem rng1_some {ds out : List DV} {hp hp' : Hs} (h : rng1 ds hp = some (out, hp')) : ∃ j : Int, ds = [.int j] ∧ smallI j = true ∧ out = rangeL 0 j.toNat ∧ hp = hp' := by
  unfold rng1 at h
  split at h
  · obtain ⟨u, hp1, e1, e2⟩ := bind_some h
    obtain ⟨h1, rfl⟩ := guardM_some e1
    obtain ⟨rfl, rfl⟩ := pure_some e2
    exact ⟨_, rfl, h1, rfl, rfl⟩
  · cases h
theorem RepL.ints1 {K : PySem.W.Frag} {ρ : List Addr} {B : Addr → Prop} {H : Hp} {j : Int} {vs : List V} (h : RepL K ρ B H [.int j] vs) : vs = [.int j] := by
  unfold RepL at h
  obtain ⟨x, r, rfl, h1, h2⟩ := h
  unfold RepL at h2
  rw [h1.intI, h2]
theorem RepL.ints2 {K : PySem.W.Frag} {ρ : List Addr} {B : Addr → Prop} {H : Hp} {i j : Int} {vs : List V} (h : RepL K ρ B H [.int i, .int j] vs) : vs = [.int i, .int j] := by
  unfold RepL at h
  obtain ⟨x, r, rfl, h1, h2⟩ := h
  rw [h1.intI, h2.ints1]
theorem di_range1 {x : Expr} {p : Pos} {f : DAx} (hg : Gl X "range") (hm : X.mg "range" = none) (ha : DA X [x] f) (hs : starEach [x] X.env = [(false, eval x X.env)] := by rfl) : DI X tg (.Call (.Name "range" p) [x] [] pos) (iRg1 f) :=
  (pi_range1 hg hm ha hs).imp fun σ H R ⟨Z, env, ρ, B, hp, ds, hp', S, e, k⟩ => by
    obtain ⟨d, hp1, e1, e2⟩ := bind_some e
    obtain ⟨j, rfl, h1, rfl, rfl⟩ := rng1_some e2
    refine tDA.run S e1 fun vs ρ1 B1 H1 g1 S1 r1 => ?_
    have h1' := of_decide_eq_true h1
    exact ⟨j, r1.ints1, h1'.1, h1'.2, k _ ρ1 B1 H1 g1 S1.wo it_range⟩
/-! ### for -/
def forL (b : DV → DSx) : List DV → DSx
  | [], env => pure (.nx, env)
  | d :: ds, env => do
    let r ← b d env
    match r.1 with
    | .nx => forL b ds r.2
    | .ct => forL b ds r.2
    | .bk => pure (.nx, r.2)
    | .rt x => pure (.rt x, r.2)
def sFor (f : DIx) (g : DGx) (body : DSx) : DSx := fun env => do let ds ← f env; forL (fun d env => do let env' ← g d env; body env') ds env
theorem upd_gs {K : PySem.W.Frag} {ρ : List Addr} {B : Addr → Prop} {H : Hp} {p : Addr} {o : HO} (rb : ∀ a ∈ ρ, B a) (h : H p = none) : Gs K ρ B H ρ B (upd H p o) := (Gr.laid h).gs rb
theorem ds_for {body : List Stmt} {fi : DIx} {g : DGx} {sb : DSx} (hp : PassesOwn (model X.prog X.w) X.A X.env X.xe) (hc : X.calm = true) (hi : DI X tg iter fi) (hg : PG X tg (tDG X.K g)) (hb : DSs X body sb)
    (hs : ∀ x, foldedSetIterable iter X.env x = pure x := by intro _; rfl) : DS X (.For tg iter body [] pos) (sFor fi g sb) :=
  (ps_for hp hc hi hg hb hs).imp fun D σ H ⟨Z, env, ρ, B, hp, fl, env', hp', S, e, k⟩ => by
    obtain ⟨ds, hp1, e1, e2⟩ := bind_some e
    refine ⟨Z, env, ρ, B, hp, ds, hp1, S, e1, fun J ρ1 B1 H1 g1 W1 it => ?_⟩
    have k1 := k.after (g1.gs S.wo.rb)
    refine ⟨fun i m σ H => m = ds.length - i ∧ i ≤ ds.length ∧ ∃ env ρ B hp, SOk X.K Z env σ ρ B hp H ∧ Gs X.K ρ1 B1 H1 ρ B H ∧ forL (fun d env => do let env' ← g d env; sb env') (ds.drop i) env hp = some ((fl, env'), hp'),
      ⟨ds.length, rfl, Nat.zero_le _, env, ρ1, B1, hp1, S.grow g1 W1, Gs.refl, by simpa using e2⟩, ?_⟩
    rintro i m σ H ⟨rfl, hi, env2, ρ2, B2, hp2, S2, g2, e3⟩
    obtain ⟨itg, its⟩ := it ρ2 B2 H g2 S2.wo.rb S2.wo.bt
    by_cases hlt : i < ds.length
    · have hd : ds[i]? = some ds[i] := List.getElem?_eq_getElem hlt
      obtain ⟨go, yl⟩ := itg i _ hd
      rw [List.drop_eq_getElem_cons hlt] at e3
      obtain ⟨⟨f1, env4⟩, hp4, e4, e5⟩ := bind_some e3
      obtain ⟨env3, hp3, e6, e7⟩ := bind_some e4
      refine .inr ⟨go, fun σ' H' => ∃ env ρ B hp, SOk X.K Z env σ' ρ B hp H' ∧ Gs X.K ρ1 B1 H1 ρ B H' ∧ forL (fun d env => do let env' ← g d env; sb env') (ds.drop (i + 1)) env hp = some ((fl, env'), hp'),
        fun σ' H' q => ⟨ds.length - (i + 1), by omega, rfl, hlt, q⟩, fun x H' y => ?_⟩
      obtain ⟨rx, hx⟩ := yl x H' y
      have S3 : SOk X.K Z env2 σ ρ2 B2 hp2 H' ∧ Gs X.K ρ2 B2 H ρ2 B2 H' := by
        rcases hx with rfl | ⟨p, o, hn, rfl⟩
        · exact ⟨S2, Gs.refl⟩
        · exact ⟨S2.grow (Gr.laid hn) (S2.wo.laid hn), upd_gs S2.wo.rb hn⟩
      refine ⟨Z, env2, ρ2, B2, hp2, ds[i], env3, hp3, S3.1, rx, e6, fun σ5 ρ5 B5 H5 g5 S5 => ⟨Z, env3, ρ5, B5, hp3, f1, env4, hp4, S5, e7, fun σ6 ρ6 B6 H6 g6 S6 => ?_⟩⟩
      have G6 := g2.trans (S3.2.trans (g5.trans g6))
      cases f1 with
      | nx => exact ⟨env4, ρ6, B6, hp4, S6, G6, e5⟩
      | ct => exact ⟨env4, ρ6, B6, hp4, S6, G6, e5⟩
      | bk => obtain ⟨z, rfl⟩ := pure_some e5; cases z; exact k1 σ6 ρ6 B6 H6 G6 S6
      | rt d => obtain ⟨z, rfl⟩ := pure_some e5; cases z; exact k1 σ6 ρ6 B6 H6 G6 S6
    · have e : i = ds.length := by omega
      subst e
      rw [List.drop_length] at e3
      obtain ⟨z, rfl⟩ := pure_some e3; cases z
      exact .inl ⟨its, k1 σ ρ2 B2 H g2 S2⟩

end
end D

namespace D
open PySem PySem.Spec PyProof.Rows L2
section
variable {K : PySem.W.Frag} {Z : Ent} {env : En} {σ : St} {ρ ρ' : List Addr} {B B' : Addr → Prop} {hp hp' : Hs} {H H' : Hp}
/-! ### a local list that grows (acc) -/
def banP (B : Addr → Prop) (p : Addr) : Addr → Prop := fun a => B a ∨ a = p
/-- a new banned thing -/
theorem Gr.banned {p : Addr} {o : HO} (h : H p = none) (kf : K.lookup p = none) : Gr K ρ B H ρ (banP B p) (upd H p o) where
  pre := List.prefix_rfl
  ban := fun _ h => .inl h
  new := fun a z => z.elim .inl fun e => .inr (e ▸ ⟨h, kf⟩)
  rnew := fun _ h => .inl h
  keep := fun a u _ q => by rw [upd_ne (ne_of_none q h)]; exact q
  trk := (Gr.laid (K := K) (ρ := ρ) (B := B) h).trk
theorem WOk.banned {p : Addr} {o : HO} (W : WOk K ρ B hp H) (h : H p = none) (kf : K.lookup p = none) : WOk K ρ (banP B p) hp (upd H p o) where
  len := W.len
  nd := W.nd
  obj := fun i a u e q => ORep.gs ((Gr.banned h kf).gs W.rb) (upd_ne (fun z => W.bt a (W.rb a (List.mem_of_getElem? e)) (z ▸ h))) (W.obj i a u e q)
  rb := fun a h => .inl (W.rb a h)
  bt := fun a z q => by
    have q' := (Gr.laid (K := K) (ρ := ρ) (B := B) h).trk a q
    rcases z with z | rfl
    · exact W.bt a z q'
    · rw [upd_same] at q; cases q
theorem SOk.newAcc {i : Nat} {p : Addr} {ds : List DV} {xs : List V} (S : SOk K Z env σ ρ B hp H) (h : H p = none) (kf : K.lookup p = none) (r : RepL K ρ B H ds xs) : SOk K Z (env.set i (.acc ds)) (σ.set i (some (.ref p))) ρ (banP B p) hp (upd H p (.lst xs)) := by
  have g : Gr K ρ B H ρ (banP B p) (upd H p (.lst xs)) := Gr.banned h kf
  have W := S.wo.banned (o := .lst xs) h kf
  have S1 := S.grow g W
  have np : p ∉ ρ := fun z => S.wo.bt p (S.wo.rb p z) h
  refine ⟨S1.gr, S.zb, W, fun j e q => ?_, fun j es q => ?_, fun j k es es' a h1 h2 h3 h4 => ?_, by simp [S.len]⟩
  · by_cases hj : j = i
    · subst hj
      have hl : j < env.length := by have := (List.getElem?_eq_some_iff.mp q).1; simpa using this
      rw [List.getElem?_set_self hl] at q; cases q
    · rw [List.getElem?_set_ne (Ne.symm hj)] at q ⊢
      exact S1.slot j e q
  · by_cases hj : j = i
    · subst hj
      have hl : j < env.length := by have := (List.getElem?_eq_some_iff.mp q).1; simpa using this
      rw [List.getElem?_set_self hl] at q; cases q
      exact ⟨p, xs, List.getElem?_set_self (by rw [S.len]; exact hl), upd_same, S.gr.trk p h, .inr rfl, np, RepL.grow S.wo.rb g _ _ r⟩
    · rw [List.getElem?_set_ne (Ne.symm hj)] at q ⊢
      exact S1.accs j es q
  · have at_i : ∀ {j : Nat} {es : List DV}, (env.set i (.acc ds))[j]? = some (.acc es) → j = i ∨ (j ≠ i ∧ env[j]? = some (.acc es)) := fun {j es} q => by
      by_cases hj : j = i
      · exact .inl hj
      · rw [List.getElem?_set_ne (Ne.symm hj)] at q; exact .inr ⟨hj, q⟩
    have ne_p : ∀ {j : Nat} {es : List DV}, j ≠ i → env[j]? = some (.acc es) → (σ.set i (some (.ref p)))[j]? = some (some (.ref a)) → a ≠ p := fun {j es} hj q z => by
      rw [List.getElem?_set_ne (Ne.symm hj)] at z
      obtain ⟨a', xs', e1, e2, _⟩ := S.accs j es q
      rw [z] at e1; cases e1
      exact ne_of_none e2 h
    have is_p : ∀ {j : Nat} {es : List DV}, j = i → (env.set i (.acc ds))[j]? = some (.acc es) → (σ.set i (some (.ref p)))[j]? = some (some (.ref a)) → a = p := fun {j es} e q z => by
      subst e
      have hl : j < env.length := by have := (List.getElem?_eq_some_iff.mp q).1; simpa using this
      rw [List.getElem?_set_self (by rw [S.len]; exact hl)] at z; cases z; rfl
    rcases at_i h1 with e1 | ⟨e1, q1⟩ <;> rcases at_i h2 with e2 | ⟨e2, q2⟩
    · rw [e1, e2]
    · exact absurd (is_p e1 h1 h3) (ne_p e2 q2 h4)
    · exact absurd (is_p e2 h2 h4) (ne_p e1 q1 h3)
    · rw [List.getElem?_set_ne (Ne.symm e1)] at h3
      rw [List.getElem?_set_ne (Ne.symm e2)] at h4
      exact S.adis j k es es' a q1 q2 h3 h4
/-- an acc is written -/
theorem SOk.setAcc {i : Nat} {a : Addr} {ds ds' : List DV} {xs' : List V} (S : SOk K Z env σ ρ B hp H) (he : env[i]? = some (.acc ds)) (hσ : σ[i]? = some (some (.ref a))) (r : RepL K ρ B H ds' xs') :
    Gs K ρ B H ρ B (upd H a (.lst xs')) ∧ SOk K Z (env.set i (.acc ds')) σ ρ B hp (upd H a (.lst xs')) := by
  obtain ⟨a', xs0, e1, e2, e3, e4, e5, _⟩ := S.accs i ds he
  rw [hσ] at e1; cases e1
  have trk : ∀ b, (upd H a (.lst xs')) b = none → H b = none := fun b q => by
    by_cases e : b = a
    · subst e; rw [upd_same] at q; cases q
    · rw [upd_ne e] at q; exact q
  have g : Gs K ρ B H ρ B (upd H a (.lst xs')) := ⟨List.prefix_rfl, fun _ h => .inl h, fun b o nb h => by rw [upd_ne (show b ≠ a from fun z => nb (by rw [z]; exact e4))]; exact h, trk⟩
  have hl : i < env.length := (List.getElem?_eq_some_iff.mp he).1
  refine ⟨g, ⟨⟨S.gr.pre, S.gr.ban, S.gr.new, S.gr.rnew, fun b o nb h => ?_, fun b q => S.gr.trk b (trk b q)⟩, S.zb, ⟨S.wo.len, S.wo.nd, fun j b o q1 q2 => ?_, S.wo.rb, fun b z q => S.wo.bt b z (trk b q)⟩, fun j d q => ?_, fun j es q => ?_, fun j k es es' b h1 h2 h3 h4 => ?_, by simp [S.len]⟩⟩
  · have hb : b ≠ a := fun z => by rw [z, e3] at h; cases h
    rw [upd_ne hb]; exact S.gr.keep b o nb h
  · exact ORep.gs g (upd_ne (show b ≠ a from fun z => e5 (by rw [← z]; exact List.mem_of_getElem? q1))) (S.wo.obj j b o q1 q2)
  · have hj : j ≠ i := fun z => by subst z; rw [List.getElem?_set_self hl] at q; cases q
    rw [List.getElem?_set_ne (Ne.symm hj)] at q
    obtain ⟨v, h1, h2⟩ := S.slot j d q
    exact ⟨v, h1, RepV.gs g _ _ h2⟩
  · by_cases hj : j = i
    · subst hj
      rw [List.getElem?_set_self hl] at q; cases q
      exact ⟨a, xs', hσ, upd_same, e3, e4, e5, RepL.gs g _ _ r⟩
    · rw [List.getElem?_set_ne (Ne.symm hj)] at q
      obtain ⟨b, ys, h1, h2, h3, h4, h5, h6⟩ := S.accs j es q
      have hb : b ≠ a := fun z => hj (S.adis j i es ds a q he (z ▸ h1) hσ)
      exact ⟨b, ys, h1, by rw [upd_ne hb]; exact h2, h3, h4, h5, RepL.gs g _ _ h6⟩
  · have old : ∀ {j : Nat} {es : List DV}, (env.set i (.acc ds'))[j]? = some (.acc es) → ∃ es, env[j]? = some (.acc es) := fun {j es} q => by
      by_cases hj : j = i
      · exact ⟨ds, hj ▸ he⟩
      · rw [List.getElem?_set_ne (Ne.symm hj)] at q; exact ⟨es, q⟩
    obtain ⟨_, q1⟩ := old h1
    obtain ⟨_, q2⟩ := old h2
    exact S.adis j k _ _ b q1 q2 h3 h4
/-- an acc becomes data -/
theorem SOk.disown {i : Nat} {ds : List DV} (S : SOk K Z env σ ρ B hp H) (he : env[i]? = some (.acc ds)) : ∃ B', Gs K ρ B H ρ B' H ∧ SOk K Z (env.set i (.val (.lst ds))) σ ρ B' hp H := by
  obtain ⟨a, xs, e1, e2, e3, e4, e5, e6⟩ := S.accs i ds he
  have hl : i < env.length := (List.getElem?_eq_some_iff.mp he).1
  have g : Gs K ρ B H ρ (fun b => B b ∧ b ≠ a) H := ⟨List.prefix_rfl, fun _ h => .inl h.1, fun _ _ _ h => h, fun _ h => h⟩
  refine ⟨fun b => B b ∧ b ≠ a, g, ⟨⟨S.gr.pre, fun b z => ⟨S.gr.ban b z, fun q => S.zb b z (q ▸ e3)⟩, fun b z => S.gr.new b z.1, S.gr.rnew, S.gr.keep, S.gr.trk⟩, S.zb,
    ⟨S.wo.len, S.wo.nd, fun j b o q1 q2 => ORep.gs g rfl (S.wo.obj j b o q1 q2), fun b z => ⟨S.wo.rb b z, fun q => e5 (q ▸ z)⟩, fun b z => S.wo.bt b z.1⟩, fun j d q => ?_, fun j es q => ?_, fun j k es es' b h1 h2 h3 h4 => ?_, by simp [S.len]⟩⟩
  · by_cases hj : j = i
    · subst hj
      rw [List.getElem?_set_self hl] at q; cases q
      exact ⟨_, e1, rep_lst (fun z => z.2 rfl) (SqL.of e2) (RepL.gs g _ _ e6)⟩
    · rw [List.getElem?_set_ne (Ne.symm hj)] at q
      obtain ⟨v, h1, h2⟩ := S.slot j d q
      exact ⟨v, h1, RepV.gs g _ _ h2⟩
  · have hj : j ≠ i := fun z => by subst z; rw [List.getElem?_set_self hl] at q; cases q
    rw [List.getElem?_set_ne (Ne.symm hj)] at q
    obtain ⟨b, ys, h1, h2, h3, h4, h5, h6⟩ := S.accs j es q
    have hb : b ≠ a := fun z => hj (S.adis j i es ds a q he (z ▸ h1) e1)
    exact ⟨b, ys, h1, h2, h3, ⟨h4, hb⟩, h5, RepL.gs g _ _ h6⟩
  · have nj : ∀ {j : Nat} {es : List DV}, (env.set i (.val (.lst ds)))[j]? = some (.acc es) → env[j]? = some (.acc es) := fun {j es} q => by
      have hj : j ≠ i := fun z => by subst z; rw [List.getElem?_set_self hl] at q; cases q
      rw [List.getElem?_set_ne (Ne.symm hj)] at q; exact q
    exact S.adis j k _ _ b (nj h1) (nj h2) h3 h4
end
section
variable {X : Cx} {e a b c : Expr} {f fa fb : DEx} {ca cb : DTx} {pos : Pos} {st : Stmt} {sts rest : List Stmt} {s s' : DSx}
def sAcc (i : Nat) : DSx := fun env => pure (.nx, env.set i (.acc []))
theorem ds_acc (i : Nat) {x : Str} {pos' pos'' : Pos} (hN : X.N.Nodup) (hi : X.N[i]? = some x := by rfl) (hx : Loc X.env.scope x := by first | exact Or.inl rfl | exact Or.inr rfl) (hs : swapsWith (.List [] pos'') (some (.Name x pos')) pos.line X.env = pure false := by rfl)
    (hf : X.fn x = true ∨ X.env.scope.names.lookup x = some .local := by first | exact .inl rfl | exact .inr rfl | assumption) : DS X (.Assign [.Name x pos'] (.List [] pos'') pos) (sAcc i) :=
  (ps_set hN hi hx (pe_lst pa_nil).kf hs hf).imp fun D σ H ⟨Z, env, ρ, B, hp, fl, env', hp', S, e, k⟩ => by
    obtain ⟨z, rfl⟩ := pure_some e; cases z
    refine ⟨Nat.zero_le _, fun p h kf => ?_⟩
    have kp := kf p _ upd_same
    exact k _ ρ _ _ ((Gr.banned h kp).gs S.wo.rb) (S.newAcc h kp RepL.nil)
def disE (i : Nat) (env : En) : En := match env[i]? with
  | some (.acc ds) => env.set i (.val (.lst ds))
  | _ => env
def sDis (i : Nat) (f : DSx) : DSx := fun env => f (disE i env)
theorem sDis_imp {K : PySem.W.Frag} {i : Nat} {D : Ends} {σ : St} {H : Hp} (h : tDS K (sDis i s) D σ H) : tDS K s D σ H := by
  obtain ⟨Z, env, ρ, B, hp, fl, env', hp', S, e, k⟩ := h
  cases q : env[i]? with
  | none => exact ⟨Z, env, ρ, B, hp, fl, env', hp', S, by simpa [sDis, disE, q] using e, k⟩
  | some z =>
    cases z with
    | un => exact ⟨Z, env, ρ, B, hp, fl, env', hp', S, by simpa [sDis, disE, q] using e, k⟩
    | val d => exact ⟨Z, env, ρ, B, hp, fl, env', hp', S, by simpa [sDis, disE, q] using e, k⟩
    | acc ds =>
      obtain ⟨B', g, S'⟩ := S.disown q
      exact ⟨Z, _, ρ, B', hp, fl, env', hp', S', by simpa [sDis, disE, q] using e, k.after g⟩
theorem ds_dis (i : Nat) (h : DS X st s) : DS X st (sDis i s) := L2.PS.imp h fun _ _ _ q => sDis_imp q
/-- x.append(e), x an acc -/
def sApp (i : Nat) (f : DEx) : DSx := fun env => do
  let d ← f env
  match env[i]? with
  | some (.acc ds) => if ds.length < lim then pure (.nx, env.set i (.acc (ds ++ [d]))) else failure
  | _ => failure
theorem ds_app (i : Nat) {x : Str} {p1 p2 : Pos} (he : DE X e f) (hi : X.N[i]? = some x := by rfl) (hv : Vis X.env.scope x := by first | exact Or.inl rfl | exact Or.inr (Or.inl rfl) | exact Or.inr (Or.inr rfl))
    (hd : (x == ("__debug__" : Str)) = false := by decide) (hcd : (x == ("__classdict__" : Str)) = false := by decide)
    (hs : ∀ t, PE X (.Call (.Attribute (.Name x p1) "append" p2) [e] [] pos) t → PS X (.Expr (.Call (.Attribute (.Name x p1) "append" p2) [e] [] pos) pos) (tDrop t) := by intro _ h; exact ps_expr h)
    (hb : ∀ (t : TE) (ta : TA), PE X (.Name x p1) t → PA X [e] ta → PE X (.Call (.Attribute (.Name x p1) "append" p2) [e] [] pos) (tBM X.K "list" rAppend t ta) := by intro _ _ h1 h2; exact pe_bm PySem.F.plainAttrs_list PySem.F.slot_list_append PySem.F.type_list_append mt_append h1 h2)
    (hst : starEach [e] X.env = (false, eval e X.env) :: starEach [] X.env := by rfl) : DS X (.Expr (.Call (.Attribute (.Name x p1) "append" p2) [e] [] pos) pos) (sApp i f) :=
  L2.PS.imp (hs _ (hb _ _ (pe_var hi hv hd hcd) (pa_cons he pa_nil hst))) fun D σ H ⟨Z, env, ρ, B, hp, fl, env', hp', S, e, k⟩ => by
    obtain ⟨d, hp1, e1, e2⟩ := bind_some e
    cases q : env[i]? with
    | none => rw [q] at e2; cases e2
    | some z =>
      rw [q] at e2
      cases z with
      | un => cases e2
      | val _ => cases e2
      | acc ds =>
        by_cases hl : ds.length < lim
        · have e2' : (pure (Fl.nx, env.set i (.acc (ds ++ [d]))) : M (Fl × En)) hp1 = some ((fl, env'), hp') := by
            have : (if ds.length < lim then pure (Fl.nx, env.set i (.acc (ds ++ [d]))) else failure : M (Fl × En)) hp1 = some ((fl, env'), hp') := e2
            rwa [if_pos hl] at this
          obtain ⟨z, rfl⟩ := pure_some e2'; cases z
          obtain ⟨a, xs, h1, h2, _⟩ := S.accs i ds q
          refine ⟨_, h1, .inl ⟨rfl, xs, SqL.of h2⟩, ?_⟩
          refine tD.run S e1 fun v ρ1 B1 H1 g1 S1 r1 => ?_
          obtain ⟨a', xs1, h1', h2', _, _, _, rl⟩ := S1.accs i ds q
          rw [h1] at h1'; cases h1'
          obtain ⟨g2, S2⟩ := S1.setAcc q h1 (RepL.append rl (RepL.one r1))
          exact ⟨a, xs1, v, rfl, rfl, h2', by rw [← rl.length]; exact Nat.lt_of_lt_of_le hl lim_le, k _ ρ1 B1 _ ((g1.gs S.wo.rb).trans g2) S2⟩
        · have : (if ds.length < lim then pure (Fl.nx, env.set i (.acc (ds ++ [d]))) else failure : M (Fl × En)) hp1 = some ((fl, env'), hp') := e2
          rw [if_neg hl] at this; cases this

/-! ### comprehensions -/
def compD (g : DV → M Bool) (f : DV → M DV) : List DV → M (List DV)
  | [] => pure []
  | d :: ds => do
    if ← g d then
      let y ← f d
      let ys ← compD g f ds
      pure (y :: ys)
    else compD g f ds
def capS : Sl → Sl
  | .val d => .val d
  | _ => .un
def cE (idx : List Nat) (env : En) (d : DV) : En := .val d :: idx.map fun i => capS ((env[i]?).getD .un)
def eComp (src : DIx) (idx : List Nat) (t : DTx) (f : DEx) : DEx := fun env => do
  let ds ← src env
  guardM (short ds)
  let out ← compD (fun d => t (cE idx env d)) (fun d => f (cE idx env d)) ds
  pure (.lst out)
def tAll : DTx := fun _ => pure true
variable {elt iter : Expr} {x : Str} {px : Pos} {ifs : List Expr} {scope : Scope} {cl : List (Str × Addr)} {caps : List Str} {idx : List Nat} {src : DIx} {te : DTx}
theorem cσ_ok {K : PySem.W.Frag} {Z : Ent} {env : En} {σ : St} {ρ ρ1 : List Addr} {B B1 : Addr → Prop} {hp hp1 : Hs} {H H1 : Hp} {d : DV} {v : V} (S : SOk K Z env σ ρ B hp H) (g : Gs K ρ B H ρ1 B1 H1) (W : WOk K ρ1 B1 hp1 H1) (r : RepV K ρ1 B1 H1 d v) :
    SOk K ⟨ρ1, B1, H1⟩ (cE idx env d) (cσ idx σ (some v)) ρ1 B1 hp1 H1 := by
  refine ⟨Gr.refl, W.bt, W, fun i e h => ?_, fun i es h => ?_, fun i j es es' a h => ?_, by simp [cE, cσ]⟩
  · cases i with
    | zero =>
      have : d = e := by simpa [cE] using h
      subst this
      exact ⟨v, by simp [cσ], r⟩
    | succ i =>
      cases q : idx[i]? with
      | none => simp [cE, q] at h
      | some k =>
        have h' : capS ((env[k]?).getD .un) = .val e := by simpa [cE, q] using h
        cases z : env[k]? with
        | none => rw [z] at h'; cases h'
        | some sl =>
          rw [z] at h'
          cases sl with
          | un => cases h'
          | acc _ => cases h'
          | val e' =>
            have : e' = e := by simpa [capS] using h'
            subst this
            obtain ⟨u, h1, h2⟩ := S.slot k e' z
            exact ⟨u, by simp [cσ, q, h1], RepV.gs g _ _ h2⟩
  · exfalso
    cases i with
    | zero => simp [cE] at h
    | succ i =>
      cases q : idx[i]? with
      | none => simp [cE, q] at h
      | some k =>
        have h' : capS ((env[k]?).getD .un) = .acc es := by simpa [cE, q] using h
        cases z : (env[k]?).getD .un with
        | un => rw [z] at h'; cases h'
        | acc _ => rw [z] at h'; cases h'
        | val _ => rw [z] at h'; cases h'
  · exfalso
    cases i with
    | zero => simp [cE] at h
    | succ i =>
      cases q : idx[i]? with
      | none => simp [cE, q] at h
      | some k =>
        have h' : capS ((env[k]?).getD .un) = .acc es := by simpa [cE, q] using h
        cases z : (env[k]?).getD .un with
        | un => rw [z] at h'; cases h'
        | acc _ => rw [z] at h'; cases h'
        | val _ => rw [z] at h'; cases h'
theorem eComp_imp {K : PySem.W.Frag} {σ : St} {H : Hp} {Q : VK} (h : tD K (eComp src idx te f) σ H Q) : tComp K (tDI K src) (tDT K te) (tD K f) idx σ H Q := by
  obtain ⟨Z, env, ρ, B, hp, d, hp', S, e, k⟩ := h
  obtain ⟨ds, hp1, e1, e2⟩ := bind_some e
  obtain ⟨_, hp2, e3, e4⟩ := bind_some e2
  obtain ⟨hs, rfl⟩ := guardM_some e3
  obtain ⟨out, hp3, e5, e6⟩ := bind_some e4
  obtain ⟨rfl, rfl⟩ := pure_some e6
  refine ⟨Z, env, ρ, B, hp, ds, hp1, S, e1, fun J ρ1 B1 H1 g1 W1 it D hD hK => ?_⟩
  have g1s := g1.gs S.wo.rb
  have dl : ds.length < sizeLine := Nat.lt_of_le_of_lt (of_decide_eq_true hs) (by decide)
  refine ⟨fun i m ys H2 => m = ds.length - i ∧ i ≤ ds.length ∧ H2 D = some (.lst ys) ∧ ∃ ρ2 B2 hp2 don rst, Gr K ρ1 B1 H1 ρ2 B2 H2 ∧ WOk K ρ2 B2 hp2 H2 ∧ B2 D ∧ D ∉ ρ2 ∧ RepL K ρ2 B2 H2 don ys ∧ don.length ≤ i ∧
    compD (fun d => te (cE idx env d)) (fun d => f (cE idx env d)) (ds.drop i) hp2 = some (rst, hp3) ∧ don ++ rst = out, ?_, ?_⟩
  · exact ⟨ds.length, rfl, Nat.zero_le _, upd_same, ρ1, banP B1 D, hp1, [], out, Gr.banned hD hK, W1.banned hD hK, .inr rfl, fun z => W1.bt D (W1.rb D z) hD, RepL.nil, Nat.le_refl _, by simpa using e5, rfl⟩
  · rintro i m ys H2 ⟨rfl, hi, hDs, ρ2, B2, hp2, don, rst, g2, W2, bD, nD, rd, dn, e7, e8⟩
    refine ⟨hDs, ?_⟩
    obtain ⟨itg, its⟩ := it ρ2 B2 H2 (g2.gs W1.rb) W2.rb W2.bt
    by_cases hlt : i < ds.length
    · have hd : ds[i]? = some ds[i] := List.getElem?_eq_getElem hlt
      obtain ⟨go, yl⟩ := itg i _ hd
      rw [List.drop_eq_getElem_cons hlt] at e7
      obtain ⟨b, hp4, e9, e10⟩ := bind_some e7
      refine .inr ⟨go, fun x H3 y => ?_⟩
      obtain ⟨rx, hx⟩ := yl x H3 y
      have S3 : Gr K ρ2 B2 H2 ρ2 B2 H3 ∧ WOk K ρ2 B2 hp2 H3 := by
        rcases hx with rfl | ⟨p, o, hn, rfl⟩
        · exact ⟨Gr.refl, W2⟩
        · exact ⟨Gr.laid hn, W2.laid hn⟩
      have g3 := g2.trans S3.1
      have C3 := cσ_ok (idx := idx) S (g1s.trans (g3.gs W1.rb)) S3.2 rx
      refine tDT.run C3 e9 fun ρ4 B4 H4 g4 S4 => ?_
      have hD4 : H4 D = some (.lst ys) := g4.keep D _ nD (S3.1.keep D _ nD hDs)
      have nD4 : D ∉ ρ4 := fun z => (g4.rnew D z).elim nD fun q => by rw [S3.1.keep D _ nD hDs] at q; cases q
      cases b with
      | false =>
        refine iteF ⟨ds.length - (i + 1), by omega, rfl, hlt, hD4, ρ4, B4, hp4, don, rst, g3.trans g4, S4.wo, g4.ban D bD, nD4, RepL.grow W2.rb (S3.1.trans g4) _ _ rd, by omega, e10, e8⟩
      | true =>
        obtain ⟨z, hp5, e11, e12⟩ := bind_some e10
        obtain ⟨zs, hp6, e13, e14⟩ := bind_some e12
        obtain ⟨rfl, rfl⟩ := pure_some e14
        refine iteT (tD.run S4 e11 fun v ρ5 B5 H5 g5 S5 r5 => ?_)
        have hD5 : H5 D = some (.lst ys) := g5.keep D _ nD4 hD4
        have nD5 : D ∉ ρ5 := fun z => (g5.rnew D z).elim nD4 fun q => by rw [hD4] at q; cases q
        have bD5 : B5 D := g5.ban D (g4.ban D bD)
        have G5 := g3.trans (g4.trans g5)
        have rd5 := RepL.grow W2.rb (S3.1.trans (g4.trans g5)) _ _ rd
        have trk : ∀ b, (upd H5 D (.lst (ys ++ [v]))) b = none → H5 b = none := fun b q => by
          by_cases e : b = D
          · subst e; rw [upd_same] at q; cases q
          · rw [upd_ne e] at q; exact q
        have g6 : Gs K ρ5 B5 H5 ρ5 B5 (upd H5 D (.lst (ys ++ [v]))) := ⟨List.prefix_rfl, fun _ h => .inl h, fun b o nb h => by rw [upd_ne (show b ≠ D from fun z => nb (by rw [z]; exact bD5))]; exact h, trk⟩
        refine ⟨hD5, by have := rd5.length; omega, ds.length - (i + 1), by omega, rfl, hlt, upd_same, ρ5, B5, hp5, don ++ [z], zs, ?_, ?_, bD5, nD5, RepL.gs g6 _ _ (RepL.append rd5 (RepL.one r5)), by simp; omega, e13, by rw [← e8]; simp⟩
        · exact ⟨G5.pre, G5.ban, G5.new, G5.rnew, fun b o nb h => by rw [upd_ne (show b ≠ D from fun q => by rw [q, hD] at h; cases h)]; exact G5.keep b o nb h, fun b q => G5.trk b (trk b q)⟩
        · exact ⟨S5.wo.len, S5.wo.nd, fun j b o q1 q2 => ORep.gs g6 (upd_ne (show b ≠ D from fun z => nD5 (by rw [← z]; exact List.mem_of_getElem? q1))) (S5.wo.obj j b o q1 q2), S5.wo.rb, fun b z q => S5.wo.bt b z (trk b q)⟩
    · have e : i = ds.length := by omega
      subst e
      rw [List.drop_length] at e7
      obtain ⟨rfl, rfl⟩ := pure_some e7
      refine .inl ⟨its, ?_⟩
      have gU : Gs K ρ2 B2 H2 ρ2 (fun b => B2 b ∧ b ≠ D) H2 := ⟨List.prefix_rfl, fun _ h => .inl h.1, fun _ _ _ h => h, fun _ h => h⟩
      refine k (.ref D) ρ2 (fun b => B2 b ∧ b ≠ D) H2 (g1.trans ⟨g2.pre, fun b z => ⟨g2.ban b z, fun q => W1.bt b z (q ▸ hD)⟩, fun b z => g2.new b z.1, g2.rnew, g2.keep, g2.trk⟩)
        ⟨W2.len, W2.nd, fun j b o q1 q2 => ORep.gs gU rfl (W2.obj j b o q1 q2), fun b z => ⟨W2.rb b z, fun q => nD (q ▸ z)⟩, fun b z => W2.bt b z.1⟩ (rep_lst (fun z => z.2 rfl) (SqL.of hDs) ?_)
      rw [← e8, List.append_nil]
      exact RepL.gs gU _ _ rd
def DTs (X : Cx) (ifs : List Expr) (t : DTx) : Prop := PTs X ifs (tDT X.K t)
theorem dts_nil : DTs X [] tAll := fun pins s σ H Q I ⟨Z, env, ρ, B, hp, d, hp', S, e, k⟩ => by
  obtain ⟨rfl, rfl⟩ := pure_some e
  exact pts_nil pins s σ H Q I (k ρ B H Gr.refl S.wo)
theorem dts_one {c : Expr} (h : DT X c te) : DTs X [c] te := pts_one h
theorem de_comp (S : CompS X x scope cl caps idx) (hc : X.calm = true) (hi : DI X (.Name x px) iter src)
    (ht : ∀ C s₀ H₀ ex, DTs (cxComp X scope cl C (x :: caps) s₀ H₀ ex) ifs te) (he : ∀ C s₀ H₀ ex, DE (cxComp X scope cl C (x :: caps) s₀ H₀ ex) elt f)
    (hs : ∀ x, foldedSetIterable iter X.env x = pure x := by intro _; rfl) : DE X (.ListComp elt [⟨.Name x px, iter, ifs, 0⟩] scope pos) (eComp src idx te f) :=
  L2.PE.imp (pe_comp (tt := tDT X.K te) (te := tD X.K f) S hc hi ht he hs) fun _ _ _ h => eComp_imp h
theorem ds_comp (i : Nat) {y : Str} {py spos : Pos} (hN : X.N.Nodup) (S : CompS X x scope cl caps idx) (hc : X.calm = true) (hi : DI X (.Name x px) iter src)
    (ht : ∀ C s₀ H₀ ex, DTs (cxComp X scope cl C (x :: caps) s₀ H₀ ex) ifs te) (he : ∀ C s₀ H₀ ex, DE (cxComp X scope cl C (x :: caps) s₀ H₀ ex) elt f)
    (hy : X.N[i]? = some y := by rfl) (hx : Loc X.env.scope y := by first | exact Or.inl rfl | exact Or.inr rfl)
    (hsw : swapsWith (.ListComp elt [⟨.Name x px, iter, ifs, 0⟩] scope pos) (some (.Name y py)) spos.line X.env = pure true := by with_unfolding_all rfl)
    (hf : X.fn y = true ∨ X.env.scope.names.lookup y = some .local := by first | exact .inl rfl | exact .inr rfl | assumption)
    (hs : ∀ x, foldedSetIterable iter X.env x = pure x := by intro _; rfl) : DS X (.Assign [.Name y py] (.ListComp elt [⟨.Name x px, iter, ifs, 0⟩] scope pos) spos) (sSet i (eComp src idx te f)) :=
  L2.PS.imp (ps_comp (tt := tDT X.K te) (te := tD X.K f) S hc hi ht he hN hy hx hsw hf hs) fun _ _ _ h => sSet_imp (fun _ _ _ q => eComp_imp q) h

/-! ### defs -/
def runF (n : Nat) (body : DSx) : List DV → M DV := fun ds => do
  let r ← body (ds.map .val ++ List.replicate (n - ds.length) .un)
  match r.1 with
  | .nx => pure .non
  | .rt d => pure d
  | _ => failure
def spD (K : PySem.W.Frag) (n : Nat) (F : List DV → M DV) : Sp := fun vs H Q _ => vs.length = n ∧ ∃ ρ B hp ds d hp', WOk K ρ B hp H ∧ RepL K ρ B H ds vs ∧ F ds hp = some (d, hp') ∧ Fol K ρ B H d hp' Q
/-- a def of the text, known by its Lean function -/
structure Has (P : Program) (w : World) (K : PySem.W.Frag) (mg : Str → Option Value) (base : Heap) (x : Str) (k n : Nat) (F : List DV → M DV) : Prop where
  ex : ∃ (g : Addr) (fd : FuncData) (ps : List Str), FnOk P w K mg base CX0 k g fd ps (spD K n F) ∧ Binds K fd ps [] ∧ PySem.W.keepIn K (.ref g) = true ∧ mg x = some (.ref g)
theorem sOk_start {K : PySem.W.Frag} {ρ : List Addr} {B : Addr → Prop} {hp : Hs} {H : Hp} {ds : List DV} {vs : List V} {N : List Str} (W : WOk K ρ B hp H) (r : RepL K ρ B H ds vs) :
    SOk K ⟨ρ, B, H⟩ (ds.map .val ++ List.replicate (N.length - ds.length) .un) (L2.start N vs) ρ B hp H := by
  have hl := r.length
  have at_ : ∀ {i : Nat} {z : Sl}, (ds.map Sl.val ++ List.replicate (N.length - ds.length) Sl.un)[i]? = some z → z = .un ∨ ∃ d, ds[i]? = some d ∧ z = .val d := fun {i z} h => by
    by_cases hi : i < ds.length
    · rw [List.getElem?_append_left (by simpa using hi), List.getElem?_map, List.getElem?_eq_getElem hi] at h
      cases h
      exact .inr ⟨_, List.getElem?_eq_getElem hi, rfl⟩
    · rw [List.getElem?_append_right (by simpa using hi), List.getElem?_replicate] at h
      split at h
      · cases h; exact .inl rfl
      · cases h
  refine ⟨Gr.refl, W.bt, W, fun i d h => ?_, fun i es h => ?_, fun i j es es' a h => ?_, by unfold L2.start; simp; omega⟩
  · rcases at_ h with z | ⟨d', q, z⟩
    · cases z
    · cases z
      obtain ⟨v, h1, h2⟩ := r.get q
      refine ⟨v, ?_, h2⟩
      unfold L2.start
      have hi : i < vs.length := (List.getElem?_eq_some_iff.mp h1).1
      rw [List.getElem?_append_left (by simpa using hi), List.getElem?_map, h1]
      rfl
  · rcases at_ h with z | ⟨d', q, z⟩ <;> cases z
  · rcases at_ h with z | ⟨d', q, z⟩ <;> cases z
/-- a def: its body once -/
theorem fn_has {P : Program} {w : World} {K : PySem.W.Frag} {mg : Str → Option Value} {base : Heap} {x : Str} {stm : Stmt} {g : Addr} {fd : FuncData} {N ps : List Str} {k : Nat} {body : DSx} (F : Fun K x x stm g fd) (Sc : FnScope N ps (defScope stm)) (hm : mg x = some (.ref g))
    (hb : ∀ (kV doc pm : Value) (an : Option Addr) (cdv ct : Value) (us : List Value), us.length = ps.length → bindArgs (PySem.W.fnOf x x (defArgs stm) (defBody stm) (defScope stm) .none kV doc pm an cdv ct) ⟨us, []⟩ = pure (ps.zip us))
    (h : ∀ (cdv : Value) (A : Around) (outer : List Env) (s : Shared) (H : Hp) (E : XK), Room k (A.deeper (envOfC x (defScope stm) s.heap.objs.size g cdv)) → DSs (cxOf CX0 P w K mg base N x (defScope stm) g cdv A outer s H E).nox (defBody stm) body) :
    Has P w K mg base x (k + 1) ps.length (runF N.length body) := by
  refine ⟨g, fd, ps, F.ok Sc (fun vs H Q E h => h.1) (fun cdv A outer s H vs Q E hr sp => ?_), F.binds hb, F.kp, hm⟩
  obtain ⟨hn, ρ, B, hp, ds, d, hp', W, r, e, k⟩ := sp
  obtain ⟨⟨fl, env'⟩, hp1, e1, e2⟩ := bind_some e
  refine ⟨_, h cdv A outer s H E hr, ⟨ρ, B, H⟩, _, ρ, B, hp, fl, env', hp1, sOk_start W r, e1, fun σ' ρ' B' H' g' S' => ?_⟩
  cases fl with
  | nx => obtain ⟨rfl, rfl⟩ := pure_some e2; exact k .non ρ' B' H' S'.gr S'.wo rep_non
  | rt x => obtain ⟨rfl, rfl⟩ := pure_some e2; exact fun v rv => k v ρ' B' H' S'.gr S'.wo rv
  | bk => cases e2
  | ct => cases e2
def eCall (n : Nat) (F : List DV → M DV) (a : DAx) : DEx := fun env => do
  let ds ← a env
  guardM (decide (ds.length = n))
  F ds
theorem de_call {y : Str} {k j n : Nat} {F : List DV → M DV} {e : Expr} {es : List Expr} {fa : DAx} {p : Pos} (h : Has X.prog X.w X.K X.mg X.base y j n F) (hr : Room k X.A) (hj : j ≤ k) (hx : Passes CX0 X E0) (ha : DA X (e :: es) fa) (hg : Gl X y := by rfl)
    (hdb : (y == ("__debug__" : Str)) = false := by decide) (he : starEach (e :: es) X.env = (false, eval e X.env) :: starEach es X.env := by rfl) (hpl : (backTo pos (starEach es X.env)).any (·.1) = false := by rfl) : DE X (.Call (.Name y p) (e :: es) [] pos) (eCall n F fa) := by
  obtain ⟨g, fd, ps, F', hb, hk, hm⟩ := h.ex
  refine L2.PE.imp (pe_call F' (hr.mono hj) hg hm hk hb .nil hx ha hdb he hpl) fun σ H Q ⟨Z, env, ρ, B, hp, d, hp', S, e, k⟩ => ?_
  obtain ⟨ds, hp1, e1, e2⟩ := bind_some e
  obtain ⟨_, hp2, e3, e4⟩ := bind_some e2
  obtain ⟨hl, rfl⟩ := guardM_some e3
  refine tDA.run S e1 fun vs ρ1 B1 H1 g1 S1 r1 => ?_
  refine ⟨by rw [List.append_nil, ← r1.length]; exact of_decide_eq_true hl, ρ1, B1, hp1, ds, d, hp', S1.wo, by rw [List.append_nil]; exact r1, e4, k.after g1⟩
end
end D

namespace D
open PySem PySem.Spec PyProof.Rows L2
section
variable {X : Cx} {e a b c : Expr} {f fa fb fc : DEx} {ca cb : DTx} {pos : Pos}
/-! ### ints -/
def int2 (C : Int → Int → Bool) (g : Int → Int → DV) : DV → DV → M DV
  | .int i, .int j => if C i j then pure (g i j) else failure
  | _, _ => failure
theorem int2_some {C : Int → Int → Bool} {g : Int → Int → DV} {x y d : DV} {hp hp' : Hs} (h : int2 C g x y hp = some (d, hp')) : ∃ i j, x = .int i ∧ y = .int j ∧ C i j = true ∧ d = g i j ∧ hp = hp' := by
  unfold int2 at h
  split at h
  · rename_i i j
    by_cases hc : C i j = true
    · rw [if_pos hc] at h
      obtain ⟨rfl, rfl⟩ := pure_some h
      exact ⟨i, j, rfl, rfl, hc, rfl, rfl⟩
    · rw [if_neg hc] at h; cases h
  · cases h
theorem p2_int {g : Value → Value → Sem Value} {C : Int → Int → Bool} {P : Int → Int → Prop} {q : Int → Int → Int} (ho : OpR X g (rI P fun i j => .int (q i j))) (hC : ∀ i j, C i j = true → P i j) : P2 X g (int2 C fun i j => .int (q i j)) := by
  intro pins s σ H x y v u Q I rx ry h
  refine ho pins s σ H x y v u Q I rx ry ?_
  obtain ⟨ρ, B, hp, dx, dy, d, hp', W, r1, r2, e, k⟩ := h
  obtain ⟨i, j, rfl, rfl, hc, rfl, rfl⟩ := int2_some e
  exact ⟨i, j, r1.intI, r2.intI, hC i j hc, k _ ρ B H Gr.refl W rep_int⟩
theorem p2_int0 {g : Value → Value → Sem Value} {q : Int → Int → Int} (ho : OpR X g (rI0 fun i j => .int (q i j))) : P2 X g (int2 (fun _ _ => true) fun i j => .int (q i j)) := by
  intro pins s σ H x y v u Q I rx ry h
  refine ho pins s σ H x y v u Q I rx ry ?_
  obtain ⟨ρ, B, hp, dx, dy, d, hp', W, r1, r2, e, k⟩ := h
  obtain ⟨i, j, rfl, rfl, hc, rfl, rfl⟩ := int2_some e
  exact ⟨i, j, r1.intI, r2.intI, k _ ρ B H Gr.refl W rep_int⟩
theorem p2_cmp0 {g : Value → Value → Sem Value} {q : Int → Int → Bool} (ho : OpR X g (rI0 fun i j => .bl (q i j))) : P2 X g (int2 (fun _ _ => true) fun i j => .bl (q i j)) := by
  intro pins s σ H x y v u Q I rx ry h
  refine ho pins s σ H x y v u Q I rx ry ?_
  obtain ⟨ρ, B, hp, dx, dy, d, hp', W, r1, r2, e, k⟩ := h
  obtain ⟨i, j, rfl, rfl, hc, rfl, rfl⟩ := int2_some e
  exact ⟨i, j, r1.intI, r2.intI, k _ ρ B H Gr.refl W rep_bl⟩
def cMul (i j : Int) : Bool := decide ((-(2 ^ 64) < i ∧ i < 2 ^ 64) ∨ (-(2 ^ 64) < j ∧ j < 2 ^ 64))
def cDiv (_ j : Int) : Bool := decide (0 < j ∧ j < 1073741824)
def cMod (_ j : Int) : Bool := decide (0 < j)
def cPow (i j : Int) : Bool := decide (0 ≤ j ∧ j ≤ 1000000 ∧ i.natAbs < 2 ^ 64)
def subD : DV → DV → M DV := int2 (fun _ _ => true) fun i j => .int (i - j)
def mulD : DV → DV → M DV := int2 cMul fun i j => .int (i * j)
def divD : DV → DV → M DV := int2 cDiv fun i j => .int (i / j)
def modD : DV → DV → M DV := int2 cMod fun i j => .int (i % j)
def powD : DV → DV → M DV := int2 cPow fun i j => .int (i ^ j.toNat)
def ltD : DV → DV → M DV := int2 (fun _ _ => true) fun i j => .bl (decide (i < j))
def leD : DV → DV → M DV := int2 (fun _ _ => true) fun i j => .bl (decide (i ≤ j))
def gtD : DV → DV → M DV := int2 (fun _ _ => true) fun i j => .bl (decide (j < i))
def geD : DV → DV → M DV := int2 (fun _ _ => true) fun i j => .bl (decide (j ≤ i))
theorem p_sub : P2 X (binaryOp .Sub) subD := p2_int0 op_sub
theorem p_mul : P2 X (binaryOp .Mult) mulD := p2_int op_mul fun i j h => of_decide_eq_true (p := (-(2 ^ 64) < i ∧ i < 2 ^ 64) ∨ (-(2 ^ 64) < j ∧ j < 2 ^ 64)) h
theorem p_div : P2 X (binaryOp .FloorDiv) divD := p2_int op_fdiv fun i j h => of_decide_eq_true (p := 0 < j ∧ j < 1073741824) h
theorem p_mod : P2 X (binaryOp .Mod) modD := p2_int op_mod fun _ _ h => of_decide_eq_true h
theorem p_pow : P2 X (binaryOp .Pow) powD := p2_int op_pow fun i j h => of_decide_eq_true (p := 0 ≤ j ∧ j ≤ 1000000 ∧ i.natAbs < 2 ^ 64) h
theorem p_lt : P2 X (compareOp .Lt) ltD := p2_cmp0 op_lt
theorem p_le : P2 X (compareOp .LtE) leD := p2_cmp0 op_le
theorem p_gt : P2 X (compareOp .Gt) gtD := p2_cmp0 op_gt
theorem p_ge : P2 X (compareOp .GtE) geD := p2_cmp0 op_ge
def negD : DV → M DV
  | .int i => pure (.int (-i))
  | _ => failure
def eNeg (f : DEx) : DEx := fun env => do negD (← f env)
theorem de_neg (h : DE X a f) : DE X (.UnaryOp .USub a pos) (eNeg f) := L2.PE.imp (pe_un un_neg h) fun σ H Q ⟨Z, env, ρ, B, hp, d, hp', S, e, k⟩ => by
  obtain ⟨x, hp1, e1, e2⟩ := bind_some e
  refine tD.run S e1 fun v ρ1 B1 H1 g1 S1 r1 => ?_
  cases x with
  | int i => obtain ⟨rfl, rfl⟩ := pure_some e2; exact ⟨i, r1.intI, k _ ρ1 B1 H1 g1 S1.wo rep_int⟩
  | _ => cases e2
/-! ### + -/
theorem op_catT0 : OpR X (binaryOp .Add) (fun x y H Q => ∃ a b ys, x = .ref a ∧ y = .ref b ∧ SqT X.K H a [] ∧ SqT X.K H b ys ∧ ys.length ≤ sizeLine ∧ Q (.ref b) H) := by
  intro pins s σ H x y v u Q I rx ry h
  obtain ⟨a, b, ys, rfl, rfl, ha, hb, hz, q⟩ := h
  cases rx
  cases ry
  obtain ⟨its, r1, p1, _⟩ := I.tuple ha
  obtain ⟨its2, r2, p2, _⟩ := I.tuple hb
  obtain ⟨m, F⟩ := I.fr
  have z : its = [] := by cases r1; rfl
  subst z
  exact add_tuples F (news_all (g := X.base) (L := X.env.locals)) p1 p2 (fun _ => ⟨.ref b, H, I, rfl, q⟩) (fun n => absurd rfl n) (fun n => absurd rfl n) (by have := r2.length; simp; omega)
def addD : DV → DV → M DV
  | .int i, .int j => pure (.int (i + j))
  | .tup xs, .tup ys => do guardM (short (xs ++ ys)); pure (.tup (xs ++ ys))
  | .lst xs, .lst ys => do guardM (short (xs ++ ys)); pure (.lst (xs ++ ys))
  | _, _ => failure
theorem rd_catL : OpR X (binaryOp .Add) (fun x y H Q => ∃ l b xs zs, x = .ref l ∧ y = .ref b ∧ SqL X.K H l xs ∧ SqL X.K H b zs ∧ xs.length + zs.length ≤ sizeLine ∧ ∀ p, H p = none → Q (.ref p) (upd H p (.lst (xs ++ zs)))) := by
  intro pins s σ H x y v u Q I rx ry h
  obtain ⟨l, b, xs, zs, rfl, rfl, hl, hb, hz, q⟩ := h
  cases rx
  cases ry
  obtain ⟨its, r1, ⟨⟨k1, dd1, da1, sl1⟩, n1, e1, c1, d1, s1⟩, _⟩ := I.list hl
  obtain ⟨its2, r2, ⟨⟨k2, dd2, da2, sl2⟩, n2, e2, c2, d2, s2⟩, _⟩ := I.list hb
  simp only at c1 d1 s1 c2 d2 s2
  subst c1 d1 s1 c2 d2 s2
  have ea : its.toArray ++ its2.toArray = (its ++ its2).toArray := by simp
  have hz' : its.length + its2.length ≤ sizeLine := by rw [← r1.length, ← r2.length]; exact hz
  refine concat_meets (T := "list") ⟨_, e1, rfl⟩ ⟨_, e2, rfl⟩ noFill_list_add seq_list_add PySem.F.slot_list_add PySem.F.entry_list_add (PySem.F.args_list_add_2 _ _) (list_addW l b its.toArray its2.toArray n1 n2 none none sl1 sl2 (by simpa using hz')) ⟨e1, e2, ?_⟩
  rw [ea]
  exact ⟨.ref _, _, I.lnew (t' := s.toks) (r1.append r2) (by rw [List.length_append]; exact hz), rfl, q _ I.fresh⟩
theorem p_add : P2 X (binaryOp .Add) addD := by
  intro pins s σ H x y v u Q I rx ry h
  obtain ⟨ρ, B, hp, dx, dy, d, hp', W, r1, r2, e, k⟩ := h
  unfold addD at e
  split at e
  · obtain ⟨rfl, rfl⟩ := pure_some e
    exact op_add pins s σ H x y v u Q I rx ry ⟨_, _, r1.intI, r2.intI, k _ ρ B H Gr.refl W rep_int⟩
  · rename_i xs ys
    obtain ⟨_, hp1, e1, e2⟩ := bind_some e
    obtain ⟨hs, rfl⟩ := guardM_some e1
    obtain ⟨rfl, rfl⟩ := pure_some e2
    obtain ⟨a, vs, rfl, n1, q1, l1⟩ := r1.tupI
    obtain ⟨b, ws, rfl, n2, q2, l2⟩ := r2.tupI
    have hz : vs.length + ws.length ≤ sizeLine := by
      have := short_ok hs
      rw [List.length_append] at this
      rw [← l1.length, ← l2.length]; exact this
    by_cases hv : vs = []
    · subst hv
      have : xs = [] := by have := l1.length; cases xs with | nil => rfl | cons _ _ => simp at this
      subst this
      exact op_catT0 pins s σ H _ _ v u Q I rx ry ⟨a, b, ws, rfl, rfl, q1, q2, by simp at hz; exact hz, k _ ρ B H Gr.refl W (rep_tup n2 q2 l2)⟩
    · refine op_catT pins s σ H _ _ v u Q I rx ry ⟨a, b, vs, ws, rfl, rfl, q1, q2, hv, hz, fun hw => ?_, fun hw => fol_tup W (RepL.append l1 l2) k⟩
      subst hw
      have : ys = [] := by have := l2.length; cases ys with | nil => rfl | cons _ _ => simp at this
      subst this
      rw [List.append_nil] at k
      exact k _ ρ B H Gr.refl W (rep_tup n1 q1 l1)
  · rename_i xs ys
    obtain ⟨_, hp1, e1, e2⟩ := bind_some e
    obtain ⟨hs, rfl⟩ := guardM_some e1
    obtain ⟨rfl, rfl⟩ := pure_some e2
    obtain ⟨a, vs, rfl, n1, q1, l1⟩ := r1.lstI
    obtain ⟨b, ws, rfl, n2, q2, l2⟩ := r2.lstI
    have hz : vs.length + ws.length ≤ sizeLine := by
      have := short_ok hs
      rw [List.length_append] at this
      rw [← l1.length, ← l2.length]; exact this
    exact rd_catL pins s σ H _ _ v u Q I rx ry ⟨a, b, vs, ws, rfl, rfl, q1, q2, hz, fol_lst W (RepL.append l1 l2) k⟩
  · cases e
/-! ### is -/
def isN : DV → Bool
  | .non => true
  | _ => false
theorem isN_rep {K : PySem.W.Frag} {ρ : List Addr} {B : Addr → Prop} {H : Hp} {d : DV} {v : V} (r : RepV K ρ B H d v) : decide (v = .non) = isN d := by
  cases d with
  | non => rw [r.nonI]; rfl
  | bl b => rw [r.blI]; rfl
  | int b => rw [r.intI]; rfl
  | str b => rw [r.strI]; rfl
  | tup b => obtain ⟨a, xs, rfl, _⟩ := r.tupI; rfl
  | lst b => obtain ⟨a, xs, rfl, _⟩ := r.lstI; rfl
  | ref b => obtain ⟨a, rfl, _⟩ := r.refI; rfl
def isD : DV → DV → M DV
  | x, .non => pure (.bl (isN x))
  | .bl p, .bl q => pure (.bl (p == q))
  | _, _ => failure
def isnD : DV → DV → M DV
  | x, .non => pure (.bl (!isN x))
  | .bl p, .bl q => pure (.bl (p != q))
  | _, _ => failure
theorem p_is : P2 X (compareOp .Is) isD := by
  intro pins s σ H x y v u Q I rx ry h
  obtain ⟨ρ, B, hp, dx, dy, d, hp', W, r1, r2, e, k⟩ := h
  unfold isD at e
  split at e
  · obtain ⟨rfl, rfl⟩ := pure_some e
    refine op_isN pins s σ H x y v u Q I rx ry ⟨r2.nonI, ?_⟩
    rw [isN_rep r1]
    exact k _ ρ B H Gr.refl W rep_bl
  · obtain ⟨rfl, rfl⟩ := pure_some e
    obtain rfl := r1.blI
    obtain rfl := r2.blI
    cases rx; cases ry
    exact is_bool ⟨.bl _, H, I, rfl, k _ ρ B H Gr.refl W rep_bl⟩
  · cases e
theorem p_isn : P2 X (compareOp .IsNot) isnD := by
  intro pins s σ H x y v u Q I rx ry h
  obtain ⟨ρ, B, hp, dx, dy, d, hp', W, r1, r2, e, k⟩ := h
  unfold isnD at e
  split at e
  · obtain ⟨rfl, rfl⟩ := pure_some e
    refine op_notN pins s σ H x y v u Q I rx ry ⟨r2.nonI, ?_⟩
    rw [isN_rep r1]
    exact k _ ρ B H Gr.refl W rep_bl
  · obtain ⟨rfl, rfl⟩ := pure_some e
    obtain rfl := r1.blI
    obtain rfl := r2.blI
    cases rx; cases ry
    exact isnot_bool ⟨.bl _, H, I, rfl, k _ ρ B H Gr.refl W rep_bl⟩
  · cases e
/-! ### subscripts -/
theorem atI_rep {K : PySem.W.Frag} {ρ : List Addr} {B : Addr → Prop} {H : Hp} {ds : List DV} {xs : List V} {i : Int} {d : DV} (r : RepL K ρ B H ds xs) (h : atI ds i = some d) : ∃ x, atI xs i = some x ∧ RepV K ρ B H d x := by
  unfold atI at h ⊢
  rw [← r.length]
  cases q : ixN ds.length i with
  | none => rw [q] at h; cases h
  | some j =>
    rw [q] at h
    exact r.get h
def ixD : DV → DV → M DV
  | .tup ds, .int i => match atI ds i with
    | some d => pure d
    | none => failure
  | .lst ds, .int i => match atI ds i with
    | some d => pure d
    | none => failure
  | _, _ => failure
theorem p_ix : IxR X (tP2 X.K ixD) := by
  intro value slice pins s σ H x y v u Q I rx ry h hsub
  obtain ⟨ρ, B, hp, dx, dy, d, hp', W, r1, r2, e, k⟩ := h
  unfold ixD at e
  split at e
  · rename_i ds i
    cases q : atI ds i with
    | none => rw [q] at e; cases e
    | some d' =>
      rw [q] at e
      obtain ⟨rfl, rfl⟩ := pure_some e
      obtain ⟨a, xs, rfl, n1, q1, l1⟩ := r1.tupI
      obtain ⟨z, hz, rz⟩ := atI_rep l1 q
      exact ix_tup value slice pins s σ H _ _ v u Q I rx ry ⟨a, xs, i, z, rfl, r2.intI, q1, hz, k _ ρ B H Gr.refl W rz⟩ hsub
  · rename_i ds i
    cases q : atI ds i with
    | none => rw [q] at e; cases e
    | some d' =>
      rw [q] at e
      obtain ⟨rfl, rfl⟩ := pure_some e
      obtain ⟨a, xs, rfl, n1, q1, l1⟩ := r1.lstI
      obtain ⟨z, hz, rz⟩ := atI_rep l1 q
      exact ix_list value slice pins s σ H _ _ v u Q I rx ry ⟨a, xs, i, z, rfl, r2.intI, q1, hz, k _ ρ B H Gr.refl W rz⟩ hsub
  · cases e
theorem de_ix (ha : DE X a fa) (hb : DE X b fb) (hs : PlainIx b := by intro _ _; rfl) : DE X (.Subscript a b pos) (eBin ixD fa fb) := L2.PE.imp (pe_ix p_ix ha hb hs) fun _ _ _ h => eBin_imp h
end
end D

namespace D
open PySem PySem.Spec PyProof.Rows L2
/-! ### == of data -/
mutual
def toP : DV → PyData
  | .non => .none
  | .bl b => .bool b
  | .int i => .int i
  | .str x => .str x
  | .tup xs => .tuple (toPs xs)
  | .lst xs => .list (toPs xs)
  | .ref _ => .none
def toPs : List DV → List PyData
  | [] => []
  | d :: ds => toP d :: toPs ds
end
mutual
def noRef : DV → Bool
  | .ref _ => false
  | .tup xs => noRefs xs
  | .lst xs => noRefs xs
  | _ => true
def noRefs : List DV → Bool
  | [] => true
  | d :: ds => noRef d && noRefs ds
end
section
variable {X : Cx} {pins : List (Addr × Obj)} {σ : St} {H : Hp} {s : Shared} {ρ : List Addr} {B : Addr → Prop}
mutual
theorem reads_of (I : Inv X pins σ H s) : ∀ (d : DV) (v : V) (u : Value), RepV X.K ρ B H d v → RelV v u → noRef d = true → ∃ as, Reads s.heap u (toP d) as
  | .non, _, _, r, ru, _ => by obtain rfl := r.nonI; cases ru; exact ⟨[], by unfold toP; exact .none⟩
  | .bl b, _, _, r, ru, _ => by obtain rfl := r.blI; cases ru; exact ⟨[], by unfold toP; exact .bool b⟩
  | .int i, _, _, r, ru, _ => by obtain rfl := r.intI; obtain ⟨t, rfl⟩ := ru; exact ⟨[], by unfold toP; exact .int i t⟩
  | .str x, _, _, r, ru, _ => by obtain rfl := r.strI; obtain ⟨t, rfl⟩ := ru; exact ⟨[], by unfold toP; exact .str x t⟩
  | .ref _, _, _, _, _, n => by cases n
  | .tup ds, _, _, r, ru, n => by
    obtain ⟨a, xs, rfl, _, sq, rl⟩ := r.tupI
    cases ru
    obtain ⟨its, rv, ⟨o, e, hc, k, hd⟩, _⟩ := I.tuple sq
    obtain ⟨as, q⟩ := reads_all I ds xs its rl rv (by unfold noRef at n; exact n)
    exact ⟨_, by unfold toP; exact reads_tuple_at e hc hd (by simpa using q)⟩
  | .lst ds, _, _, r, ru, n => by
    obtain ⟨a, xs, rfl, _, sq, rl⟩ := r.lstI
    cases ru
    obtain ⟨its, rv, ⟨o, k, e, hc, _, hd⟩, _⟩ := I.list sq
    obtain ⟨as, q⟩ := reads_all I ds xs its rl rv (by unfold noRef at n; exact n)
    exact ⟨_, by unfold toP; exact reads_list_at e hc hd (by simpa using q)⟩
theorem reads_all (I : Inv X pins σ H s) : ∀ (ds : List DV) (xs : List V) (us : List Value), RepL X.K ρ B H ds xs → Vals xs us → noRefs ds = true → ∃ as, ReadsAll s.heap us (toPs ds) as
  | [], _, _, r, ru, _ => by unfold RepL at r; subst r; cases ru; exact ⟨[], by unfold toPs; exact .nil⟩
  | d :: ds, _, _, r, ru, n => by
    unfold RepL at r
    obtain ⟨x, xs, rfl, r1, r2⟩ := r
    cases ru with
    | cons q1 q2 =>
      unfold noRefs at n
      rw [Bool.and_eq_true] at n
      obtain ⟨as, h1⟩ := reads_of I d x _ r1 q1 n.1
      obtain ⟨bs, h2⟩ := reads_all I ds xs _ r2 q2 n.2
      exact ⟨_, by unfold toPs; exact .cons h1 h2⟩
end
end
def okP (d : DV) : Bool := noRef d && SeqAt.shaped (toP d)
def eqD : DV → DV → M DV := fun x y => do guardM (okP x && okP y); pure (.bl (PyData.eqv (toP x) (toP y)))
def neD : DV → DV → M DV := fun x y => do guardM (okP x && okP y); pure (.bl (!PyData.eqv (toP x) (toP y)))
section
variable {X : Cx} {e a b c : Expr} {f fa fb fc : DEx} {ca cb : DTx} {pos : Pos}
theorem p_eq (hu : X.A.units + 64 < cLine) : P2 X (compareOp .Eq) eqD := by
  intro pins s σ H x y v u Q I rx ry h
  obtain ⟨ρ, B, hp, dx, dy, d, hp', W, r1, r2, e, k⟩ := h
  obtain ⟨_, hp1, e1, e2⟩ := bind_some e
  obtain ⟨hs, rfl⟩ := guardM_some e1
  obtain ⟨rfl, rfl⟩ := pure_some e2
  simp only [okP, Bool.and_eq_true] at hs
  obtain ⟨as, q1⟩ := reads_of I dx x v r1 rx hs.1.1
  obtain ⟨bs, q2⟩ := reads_of I dy y u r2 ry hs.2.1
  exact eq_dataH q1 q2 hs.1.2 hs.2.2 hu ⟨.bl _, H, I, rfl, k _ ρ B H Gr.refl W rep_bl⟩
theorem p_ne (hu : X.A.units + 64 < cLine) : P2 X (compareOp .NotEq) neD := by
  intro pins s σ H x y v u Q I rx ry h
  obtain ⟨ρ, B, hp, dx, dy, d, hp', W, r1, r2, e, k⟩ := h
  obtain ⟨_, hp1, e1, e2⟩ := bind_some e
  obtain ⟨hs, rfl⟩ := guardM_some e1
  obtain ⟨rfl, rfl⟩ := pure_some e2
  simp only [okP, Bool.and_eq_true] at hs
  obtain ⟨as, q1⟩ := reads_of I dx x v r1 rx hs.1.1
  obtain ⟨bs, q2⟩ := reads_of I dy y u r2 ry hs.2.1
  exact ne_dataH q1 q2 hs.1.2 hs.2.2 hu ⟨.bl _, H, I, rfl, k _ ρ B H Gr.refl W rep_bl⟩
/-! ### calls of Python's own -/
def tPn (K : PySem.W.Frag) (g : List DV → M DV) : List V → Hp → VK → Prop := fun xs H Q => ∃ ρ B hp ds d hp', WOk K ρ B hp H ∧ RepL K ρ B H ds xs ∧ g ds hp = some (d, hp') ∧ Fol K ρ B H d hp' Q
def eBlt (g : List DV → M DV) (a : DAx) : DEx := fun env => do g (← a env)
theorem eBlt_imp {K : PySem.W.Frag} {g : List DV → M DV} {fa : DAx} {σ : St} {H : Hp} {Q : VK} (h : tD K (eBlt g fa) σ H Q) : tCB (tPn K g) (tDA K fa) σ H Q := by
  obtain ⟨Z, env, ρ, B, hp, d, hp', S, e, k⟩ := h
  obtain ⟨ds, hp1, e1, e2⟩ := bind_some e
  exact tDA.run S e1 fun vs ρ1 B1 H1 g1 S1 r1 => ⟨ρ1, B1, hp1, ds, d, hp', S1.wo, r1, e2, k.after g1⟩
theorem de_blt {x : Str} {id : String} {g : List DV → M DV} {e : Expr} {es : List Expr} {fa : DAx} {p : Pos} (hc : CallR X (.builtin id) (tPn X.K g)) (hm : X.mg x = none) (hv : bootBuiltins x = some (.builtin id)) (ha : DA X (e :: es) fa) (hg : Gl X x := by rfl) (hn : x ≠ "__name__" := by decide) (hdb : (x == ("__debug__" : Str)) = false := by decide)
    (he : starEach (e :: es) X.env = (false, eval e X.env) :: starEach es X.env := by rfl) (hpl : (backTo pos (starEach es X.env)).any (·.1) = false := by rfl) : DE X (.Call (.Name x p) (e :: es) [] pos) (eBlt g fa) :=
  L2.PE.imp (pe_callB hc hg hm hv ha hn hdb he hpl) fun _ _ _ h => eBlt_imp h
theorem de_ty {x : Str} {T : String} {g : List DV → M DV} {e : Expr} {es : List Expr} {fa : DAx} {p : Pos} (hc : CallR X (.type T) (tPn X.K g)) (hm : X.mg x = none) (hv : bootBuiltins x = some (.type T)) (ha : DA X (e :: es) fa) (hg : Gl X x := by rfl) (hn : x ≠ "__name__" := by decide) (hdb : (x == ("__debug__" : Str)) = false := by decide)
    (he : starEach (e :: es) X.env = (false, eval e X.env) :: starEach es X.env := by rfl) (hpl : (backTo pos (starEach es X.env)).any (·.1) = false := by rfl) : DE X (.Call (.Name x p) (e :: es) [] pos) (eBlt g fa) :=
  L2.PE.imp (pe_callTy hc hg hm hv ha hn hdb he hpl) fun _ _ _ h => eBlt_imp h
theorem RepL.oneI {K : PySem.W.Frag} {ρ : List Addr} {B : Addr → Prop} {H : Hp} {d : DV} {vs : List V} (h : RepL K ρ B H [d] vs) : ∃ v, vs = [v] ∧ RepV K ρ B H d v := by
  unfold RepL at h
  obtain ⟨x, r, rfl, h1, h2⟩ := h
  unfold RepL at h2; subst h2
  exact ⟨x, rfl, h1⟩
def lenF : List DV → M DV
  | [.tup ds] => pure (.int ds.length)
  | [.lst ds] => pure (.int ds.length)
  | _ => failure
theorem c_len : CallR X (.builtin "len") (tPn X.K lenF) := by
  intro pins s σ H xs us Q I r h
  obtain ⟨ρ, B, hp, ds, d, hp', W, rl, e, k⟩ := h
  unfold lenF at e
  split at e
  · obtain ⟨rfl, rfl⟩ := pure_some e
    obtain ⟨v, rfl, rv⟩ := rl.oneI
    obtain ⟨a, ys, rfl, _, sq, l⟩ := rv.tupI
    exact call_len_seq pins s σ H _ us Q I r ⟨a, ys, rfl, .inr sq, by rw [← l.length]; exact k _ ρ B H Gr.refl W rep_int⟩
  · obtain ⟨rfl, rfl⟩ := pure_some e
    obtain ⟨v, rfl, rv⟩ := rl.oneI
    obtain ⟨a, ys, rfl, _, sq, l⟩ := rv.lstI
    exact call_len_seq pins s σ H _ us Q I r ⟨a, ys, rfl, .inl sq, by rw [← l.length]; exact k _ ρ B H Gr.refl W rep_int⟩
  · cases e
def minF : List DV → M DV
  | [.int i, .int j] => pure (.int (if j < i then j else i))
  | _ => failure
def maxF : List DV → M DV
  | [.int i, .int j] => pure (.int (if j > i then j else i))
  | _ => failure
theorem c_min (hc : X.calm = true) : CallR X (.builtin "min") (tPn X.K minF) := by
  intro pins s σ H xs us Q I r h
  obtain ⟨ρ, B, hp, ds, d, hp', W, rl, e, k⟩ := h
  unfold minF at e
  split at e
  · obtain ⟨rfl, rfl⟩ := pure_some e
    exact call_min2 hc pins s σ H xs us Q I r ⟨_, _, rl.ints2, k _ ρ B H Gr.refl W rep_int⟩
  · cases e
theorem c_max (hc : X.calm = true) : CallR X (.builtin "max") (tPn X.K maxF) := by
  intro pins s σ H xs us Q I r h
  obtain ⟨ρ, B, hp, ds, d, hp', W, rl, e, k⟩ := h
  unfold maxF at e
  split at e
  · obtain ⟨rfl, rfl⟩ := pure_some e
    exact call_max2 hc pins s σ H xs us Q I r ⟨_, _, rl.ints2, k _ ρ B H Gr.refl W rep_int⟩
  · cases e
def intF : List DV → M DV
  | [.int i] => pure (.int i)
  | [.bl k] => pure (.int (if k then 1 else 0))
  | _ => failure
theorem c_int : CallR X (.type "int") (tPn X.K intF) := by
  intro pins s σ H xs us Q I r h
  obtain ⟨ρ, B, hp, ds, d, hp', W, rl, e, k⟩ := h
  unfold intF at e
  split at e
  · obtain ⟨rfl, rfl⟩ := pure_some e
    exact call_int1 pins s σ H xs us Q I r (.inl ⟨_, rl.ints1, k _ ρ B H Gr.refl W rep_int⟩)
  · obtain ⟨rfl, rfl⟩ := pure_some e
    obtain ⟨v, rfl, rv⟩ := rl.oneI
    obtain rfl := rv.blI
    exact call_int1 pins s σ H _ us Q I r (.inr ⟨_, rfl, k _ ρ B H Gr.refl W rep_int⟩)
  · cases e
def tupF : List DV → M DV
  | [.lst ds] => pure (.tup ds)
  | [.tup ds] => pure (.tup ds)
  | _ => failure
theorem c_tuple : CallR X (.type "tuple") (tPn X.K tupF) := by
  intro pins s σ H xs us Q I r h
  obtain ⟨ρ, B, hp, ds, d, hp', W, rl, e, k⟩ := h
  unfold tupF at e
  split at e
  · obtain ⟨rfl, rfl⟩ := pure_some e
    obtain ⟨v, rfl, rv⟩ := rl.oneI
    obtain ⟨a, ys, rfl, _, sq, l⟩ := rv.lstI
    exact call_tuple_of pins s σ H _ us Q I r ⟨a, ys, rfl, .inl ⟨sq, fol_tup W l k⟩⟩
  · obtain ⟨rfl, rfl⟩ := pure_some e
    obtain ⟨v, rfl, rv⟩ := rl.oneI
    obtain ⟨a, ys, rfl, nb, sq, l⟩ := rv.tupI
    exact call_tuple_of pins s σ H _ us Q I r ⟨a, ys, rfl, .inr ⟨sq, k _ ρ B H Gr.refl W (rep_tup nb sq l)⟩⟩
  · cases e
/-! ### isinstance -/
def tyName : DV → Option String
  | .non => some "NoneType"
  | .bl _ => some "bool"
  | .int _ => some "int"
  | .str _ => some "str"
  | .tup _ => some "tuple"
  | .lst _ => some "list"
  | .ref _ => none
/-- isinstance's answer for Python's own kinds -/
def isiB (t T : String) : Bool := t == T || (t == "bool" && T == "int")
def eIsi (T : String) (f : DEx) : DEx := fun env => do
  match tyName (← f env) with
  | some t => pure (.bl (isiB t T))
  | none => failure
theorem c_isi {T : String} (hT : T ∈ ["int", "bool", "tuple", "str", "list"]) : CallR X (.builtin "isinstance") (fun xs H Q => ∃ ρ B d x t, xs = [x, .ty T] ∧ RepV X.K ρ B H d x ∧ tyName d = some t ∧ Q (.bl (isiB t T)) H) := by
  intro pins s σ H xs us Q I r h
  obtain ⟨ρ, B, d, x, t, rfl, rv, ht, q⟩ := h
  obtain ⟨u, w', rfl, ru, rw'⟩ := vals2 r
  cases rw'
  have fin : ∀ tk, EP X pins σ Q (.bool (isiB t T)) { s with toks := tk } := fun tk => ⟨.bl _, H, I.tok _, rfl, q⟩
  have kit : PySem.W.kitOne X.K (.type t) (.type T) = some (isiB t T) := by
    have : t ∈ ["NoneType", "bool", "int", "str", "tuple", "list"] := by
      cases d <;> cases ht <;> simp
    simp only [List.mem_cons, List.not_mem_nil, or_false] at this hT
    rcases this with rfl | rfl | rfl | rfl | rfl | rfl <;> rcases hT with rfl | rfl | rfl | rfl | rfl <;> first | rfl | decide | with_unfolding_all rfl | kernel_rfl
  cases d with
  | non => obtain rfl := rv.nonI; cases ht; cases ru; exact PySem.W.kia_one PySem.W.kitx_none I.kIn True.intro kit (fun z => nomatch z) fin
  | bl b => obtain rfl := rv.blI; cases ht; cases ru; exact PySem.W.kia_one PySem.W.kitx_bool I.kIn True.intro kit (fun z => nomatch z) fin
  | int b => obtain rfl := rv.intI; cases ht; obtain ⟨tk, rfl⟩ := ru; exact PySem.W.kia_one PySem.W.kitx_int I.kIn True.intro kit (fun z => nomatch z) fin
  | str b => obtain rfl := rv.strI; cases ht; obtain ⟨tk, rfl⟩ := ru; exact PySem.W.kia_one PySem.W.kitx_str I.kIn True.intro kit (fun z => nomatch z) fin
  | ref b => cases ht
  | tup b =>
    cases ht
    obtain ⟨a, ys, rfl, _, sq, _⟩ := rv.tupI
    cases ru
    obtain ⟨its, _, ⟨o, e1, e2, _⟩, _⟩ := I.tuple sq
    exact PySem.W.kia_one PySem.W.kitx_tuple I.kIn ⟨o, e1, e2⟩ kit (fun z => nomatch z) fin
  | lst b =>
    cases ht
    obtain ⟨a, ys, rfl, _, sq, _⟩ := rv.lstI
    cases ru
    obtain ⟨its, _, ⟨o, k, e1, e2, _⟩, _⟩ := I.list sq
    exact PySem.W.kia_one PySem.W.kitx_list I.kIn ⟨o, e1, e2⟩ kit (fun z => nomatch z) fin
theorem de_isi {T : String} {p p' : Pos} (hm : X.mg "isinstance" = none) (hm' : X.mg (Str.ofString T) = none) (hv : bootBuiltins (Str.ofString T) = some (.type T)) (hT : T ∈ ["int", "bool", "tuple", "str", "list"]) (h : DE X e f) (hg : Gl X "isinstance" := by rfl) (hg' : Gl X (Str.ofString T) := by rfl)
    (hn : Str.ofString T ≠ "__name__" := by decide) (hdb : (Str.ofString T == ("__debug__" : Str)) = false := by decide) (hs : starEach [e, .Name (Str.ofString T) p'] X.env = (false, eval e X.env) :: starEach [.Name (Str.ofString T) p'] X.env := by rfl)
    (hs2 : starEach [.Name (Str.ofString T) p'] X.env = (false, eval (.Name (Str.ofString T) p') X.env) :: starEach [] X.env := by rfl) (hpl : (backTo pos (starEach [.Name (Str.ofString T) p'] X.env)).any (·.1) = false := by rfl) : DE X (.Call (.Name "isinstance" p) [e, .Name (Str.ofString T) p'] [] pos) (eIsi T f) :=
  L2.PE.imp (pe_callB (c_isi hT) hg hm boot_isinstance (pa_cons h (pa_cons (pe_bltn (v := .ty T) hg' hm' hv rfl hn hdb) pa_nil hs2) hs) (by decide) (by decide) hs hpl) fun σ H Q ⟨Z, env, ρ, B, hp, d, hp', S, e, k⟩ => by
    obtain ⟨x, hp1, e1, e2⟩ := bind_some e
    refine tD.run S e1 fun v ρ1 B1 H1 g1 S1 r1 => ?_
    cases q : tyName x with
    | none => rw [q] at e2; cases e2
    | some t =>
      rw [q] at e2
      obtain ⟨rfl, rfl⟩ := pure_some e2
      exact ⟨ρ1, B1, x, v, t, rfl, r1, q, k _ ρ1 B1 H1 g1 S1.wo rep_bl⟩
end
end D

namespace D
open PySem PySem.Spec PyProof.Rows L2
section
variable {X : Cx} {e a b c : Expr} {f fa fb fc : DEx} {ca cb : DTx} {pos : Pos}
/-! ### slices -/
abbrev DOx := En → M (Option Int)
def tDO (K : PySem.W.Frag) (f : DOx) : TO := fun σ H Q => ∃ Z env ρ B hp d hp', SOk K Z env σ ρ B hp H ∧ f env hp = some (d, hp') ∧ FolB K ρ B H hp' (Q d)
def DO (X : Cx) (e : Option Expr) (f : DOx) : Prop := PO X e (tDO X.K f)
def oNone : DOx := fun _ => pure none
def asI : DV → M Int
  | .int i => pure i
  | _ => failure
theorem asI_some {d : DV} {c : Int} {hp hp' : Hs} (h : asI d hp = some (c, hp')) : d = .int c ∧ hp = hp' := by
  cases d with
  | int b => obtain ⟨rfl, rfl⟩ := pure_some h; exact ⟨rfl, rfl⟩
  | _ => cases h
def oSome (f : DEx) : DOx := fun env => do let i ← asI (← f env); pure (some i)
theorem do_none : DO X none oNone := fun pins s σ H Q I ⟨Z, env, ρ, B, hp, d, hp', S, e, k⟩ => by
  obtain ⟨rfl, rfl⟩ := pure_some e
  exact po_none pins s σ H Q I (k ρ B H Gr.refl S.wo)
theorem do_some (h : DE X e f) : DO X (some e) (oSome f) := fun pins s σ H Q I ⟨Z, env, ρ, B, hp, d, hp', S, e, k⟩ => by
  obtain ⟨x, hp1, e1, e2⟩ := bind_some e
  obtain ⟨i, hp2, e3, e4⟩ := bind_some e2
  obtain ⟨rfl, rfl⟩ := asI_some e3
  obtain ⟨rfl, rfl⟩ := pure_some e4
  exact po_some h pins s σ H Q I (tD.run S e1 fun v ρ1 B1 H1 g1 S1 r1 => ⟨i, r1.intI, k ρ1 B1 H1 g1 S1.wo⟩)
theorem tDO.run {K : PySem.W.Frag} {f : DOx} {Z : Ent} {env : En} {σ : St} {ρ : List Addr} {B : Addr → Prop} {hp hp1 : Hs} {H : Hp} {d : Option Int} {Q : Option Int → Hp → Prop} (S : SOk K Z env σ ρ B hp H) (e : f env hp = some (d, hp1))
    (k : ∀ ρ' B' H', Gr K ρ B H ρ' B' H' → SOk K Z env σ ρ' B' hp1 H' → Q d H') : tDO K f σ H Q :=
  ⟨Z, env, ρ, B, hp, d, hp1, S, e, fun ρ' B' H' g W => k ρ' B' H' g (S.grow g W)⟩
/-- the items of xs[lo:hi] -/
def cutD (ds : List DV) (lo hi : Option Int) : List DV := (ds.drop (HT.sIx ds.length 0 lo)).take (HT.sIx ds.length ds.length hi - HT.sIx ds.length 0 lo)
theorem cutD_rep {K : PySem.W.Frag} {ρ : List Addr} {B : Addr → Prop} {H : Hp} {ds : List DV} {xs : List V} {lo hi : Option Int} (r : RepL K ρ B H ds xs) : RepL K ρ B H (cutD ds lo hi) (cutV xs lo hi) := by
  unfold cutD cutV
  rw [r.length]
  exact RepL.take _ (RepL.drop _ r)
def slD (d : DV) (lo hi : Option Int) : M DV := match d with
  | .lst ds => pure (.lst (cutD ds lo hi))
  | .tup ds => pure (.tup (cutD ds lo hi))
  | _ => failure
def eSl (f : DEx) (lo hi : DOx) : DEx := fun env => do let d ← f env; let l ← lo env; let h ← hi env; slD d l h
def tPs (K : PySem.W.Frag) : V → Option Int → Option Int → Hp → VK → Prop := fun x lo hi H Q => ∃ ρ B hp d r hp', WOk K ρ B hp H ∧ RepV K ρ B H d x ∧ slD d lo hi hp = some (r, hp') ∧ Fol K ρ B H r hp' Q
theorem tuple_whole {prog : Program} {w : World} {A : Around} {E : Value → Shared → Prop} {s : Shared} {t sl : Addr} {items : Array Value} {vl vu : Value} {lo hi : Option Int} {Q : Value → Shared → Prop} (ht : IsTup s.heap t items) (hs : s.heap.IsSliceOf sl vl vu .none) (pl : IsPart vl lo) (pu : IsPart vu hi)
    (h0 : HT.sIx items.size 0 lo = 0) (h1 : HT.sIx items.size items.size hi = items.size) (h : Q (.ref t) s) : wpAny (model prog w) A (getItem (.ref t) (.ref sl)) Q E s := by
  obtain ⟨os, hos, hcs, hds⟩ := id hs
  have hTs : s.TypeIs (.ref sl) "slice" := ⟨os, hos, hcs⟩
  unfold getItem
  try with_reducible refine wpAny_holding ?_
  first | refine wpAny_bind (wpAny_pure ?_) | skip
  refine wpAny_bind (wpAny_sequenceKey ht.typeIs (by decide) ?_)
  refine wpAny_bind (wpAny_callSpecial?_slot (name := Str.ofString "__getitem__") ht.typeIs PyProof.Rows.slot_tuple_getitem (wpAny_call_entry PyProof.Rows.slot_tuple_getitem ht.typeIs entry_tuple_getitem ?_ (args_tuple_getitem _ _)))
  show wpAny _ _ (Builtin.Tuple.tupleItemsOf (.ref t) >>= _) _ _ s
  refine wpAny_bind (tupleItemsOf_ ht ?_)
  refine wpAny_bind (wpAny_typeOf hTs ?_)
  rw [if_pos (by decide)]
  refine wpAny_bind (HT.sliceApplied_gen hs pl pu ?_)
  have yes : (((HT.sIx items.size 0 lo : Nat) : Int) == 0 && (1 : Int) == 1 && (HT.sIx items.size items.size hi - HT.sIx items.size 0 lo) == items.size) = true := by rw [h0, h1]; simp
  show wpAny _ _ (if (((HT.sIx items.size 0 lo : Nat) : Int) == 0 && (1 : Int) == 1 && (HT.sIx items.size items.size hi - HT.sIx items.size 0 lo) == items.size) = true then _ else _) _ _ s
  rw [if_pos yes]
  have ex : ∀ {Q' : Bool → Shared → Prop} {A' : Around} {E' : Value → Shared → Prop}, Q' true s → wpAny (model prog w) A' (Builtin.Tuple.tupleIsExact (.ref t)) Q' E' s := fun {Q' A' E'} q => by
    unfold Builtin.Tuple.tupleIsExact
    exact wpAny_bind (wpAny_typeOf ht.typeIs (wpAny_pure (by rw [show (Value.type "tuple" == Value.type "tuple") = true from beq_self_eq_true _]; exact q)))
  refine wpAny_bind (ex ?_)
  rw [if_pos rfl]
  first
    | exact wpAny_bind (wpAny_rule (wpAny_pure ⟨_, rfl, wpAny_pure h⟩))
    | exact wpAny_bind (wpAny_rule (wpAny_bind (wpAny_pure (wpAny_pure ⟨_, rfl, wpAny_pure h⟩))))
theorem sl_tupW : SlR X (fun x lo hi H Q => ∃ a xs, x = .ref a ∧ SqT X.K H a xs ∧ (HT.sIx xs.length 0 lo = 0 ∧ HT.sIx xs.length xs.length hi = xs.length) ∧ Q (.ref a) H) := by
  intro pins s σ H x v vl vu lo hi sl Q I rx hs pl pu h
  obtain ⟨a, xs, rfl, hx, ⟨h0, h1⟩, q⟩ := h
  cases rx
  obtain ⟨its, r, ht, hz⟩ := I.tuple hx
  have hlen : its.toArray.size = xs.length := by rw [List.size_toArray]; exact r.length.symm
  exact ⟨"tuple", _, PyProof.Rows.slot_tuple_getitem.lookup, ht.typeIs, tuple_whole ht hs pl pu (by rw [hlen]; exact h0) (by rw [hlen]; exact h1) ⟨.ref a, H, I, rfl, q⟩⟩
theorem cut_whole {α : Type} (ds : List α) (i j : Nat) (h0 : i = 0) (h1 : j = ds.length) : (ds.drop i).take (j - i) = ds := by subst h0 h1; simp
theorem p_sl : SlR X (tPs X.K) := by
  intro pins s σ H x v vl vu lo hi sl Q I rx hs pl pu h
  obtain ⟨ρ, B, hp, d, r, hp', W, rv, e, k⟩ := h
  cases d with
  | lst ds =>
    obtain ⟨rfl, rfl⟩ := pure_some e
    obtain ⟨a, xs, rfl, nb, sq, rl⟩ := rv.lstI
    exact sl_list pins s σ H _ v vl vu lo hi sl Q I rx hs pl pu ⟨a, xs, rfl, sq, fol_lst W (cutD_rep rl) k⟩
  | tup ds =>
    obtain ⟨rfl, rfl⟩ := pure_some e
    obtain ⟨a, xs, rfl, nb, sq, rl⟩ := rv.tupI
    by_cases hw : HT.sIx xs.length 0 lo = 0 ∧ HT.sIx xs.length xs.length hi = xs.length
    · refine sl_tupW pins s σ H _ v vl vu lo hi sl Q I rx hs pl pu ⟨a, xs, rfl, sq, hw, ?_⟩
      have : cutD ds lo hi = ds := by unfold cutD; exact cut_whole ds _ _ (by rw [rl.length]; exact hw.1) (by rw [rl.length]; exact hw.2)
      rw [this] at k
      exact k _ ρ B H Gr.refl W (rep_tup nb sq rl)
    · exact sl_tup pins s σ H _ v vl vu lo hi sl Q I rx hs pl pu ⟨a, xs, rfl, sq, hw, fol_tup W (cutD_rep rl) k⟩
  | non => cases e
  | bl _ => cases e
  | int _ => cases e
  | str _ => cases e
  | ref _ => cases e
theorem de_sl {lo hi : Option Expr} {ol oh : DOx} {p2 : Pos} (h : DE X e f) (hl : DO X lo ol) (hh : DO X hi oh) : DE X (.Subscript e (.Slice lo hi none p2) pos) (eSl f ol oh) :=
  L2.PE.imp (pe_slice p_sl h hl hh) fun σ H Q ⟨Z, env, ρ, B, hp, d, hp', S, e, k⟩ => by
    obtain ⟨x, hp1, e1, e⟩ := bind_some e
    obtain ⟨l, hp2, e2, e⟩ := bind_some e
    obtain ⟨u, hp3, e3, e⟩ := bind_some e
    refine tD.run S e1 fun v ρ1 B1 H1 g1 S1 r1 => tDO.run S1 e2 fun ρ2 B2 H2 g2 S2 => tDO.run S2 e3 fun ρ3 B3 H3 g3 S3 => ?_
    exact ⟨ρ3, B3, hp3, x, d, hp', S3.wo, RepV.grow S1.wo.rb (g2.trans g3) _ _ r1, e, k.after (g1.trans (g2.trans g3))⟩
/-! xs[::-1] of a list -/
def revD : DV → M DV
  | .lst ds => pure (.lst ds.reverse)
  | _ => failure
def eRev (f : DEx) : DEx := fun env => do revD (← f env)
theorem pe_rev {te : TE} {p2 p3 p4 : Pos} {j : Nat} (he : PE X e te) : PE X (.Subscript e (.Slice none none (some (.UnaryOp .USub (.Constant (.int 1) j p4) p3)) p2) pos) (fun σ H Q => te σ H fun x H1 => ∃ a xs, x = .ref a ∧ SqL X.K H1 a xs ∧ ∀ p, H1 p = none → Q (.ref p) (upd H1 p (.lst xs.reverse))) := by
  intro pins s σ H Q I h
  refine Subscript_ (thn (he pins s σ H _ I h) fun v s1 ⟨x, H1, I1, r1, q1⟩ => ?_)
  obtain ⟨a, xs, rfl, sq, q⟩ := q1
  cases r1
  refine wpAny_Slice ?_
  rw [evalPart_none, evalPart_some]
  refine wpAny_pure (wpAny_pure ?_)
  refine thn ((pe_un un_neg (pe_int (i := 1))) pins s1 σ H1 (fun v H' => v = .int (-1) ∧ H' = H1) I1 ⟨1, rfl, rfl, rfl⟩) fun st s2 ⟨y, H2, I2, r2, e1, e2⟩ => ?_
  subst e1 e2
  obtain ⟨tk, rfl⟩ := r2
  have I4 : Inv X pins σ H2 { s2 with heap := s2.heap.push { cls := .type "slice", data := .fields #[.none, .none, .int (-1) tk] } } := I2.kept (t' := s2.toks) fun b ob q => Heap.get?_push_of_some _ q
  obtain ⟨its, r, pl, hz⟩ := I4.list sq
  have hlen := r.length
  show wpAny (model X.prog X.w) X.A (subscriptTail e (.Slice none none (some (.UnaryOp .USub (.Constant (.int 1) j p4) p3)) p2) (.ref a) (.ref s2.heap.objs.size)) (EP X pins σ Q) X.xe { s2 with heap := s2.heap.push { cls := .type "slice", data := .fields #[.none, .none, .int (-1) tk] } }
  refine tail_any (ops := [.ref a, .ref s2.heap.objs.size]) pl.isList.typeIs slot_list_getitem.lookup (wpAny_getItem_list_slice pl.isList (Heap.IsSliceOf.new ..) .none .none (.int (-1) tk) (by decide) ?_ (by rw [List.size_toArray] <;> omega)) (by with_unfolding_all rfl)
  rw [PySem.W.krv_pick]
  refine ⟨.ref _, _, I4.laid (t' := s2.toks) (o := .lst xs.reverse) (fun b ob q => Heap.get?_push_of_some _ q) (Nat.le_refl _) ?_, rfl, q _ (I4.hok.fresh (Nat.le_refl _))⟩
  exact ⟨by rw [List.length_reverse]; exact hz, _, 0, r.reverse, Heap.get?_push_size _ rfl⟩
theorem de_rev {p2 p3 p4 : Pos} {j : Nat} (h : DE X e f) : DE X (.Subscript e (.Slice none none (some (.UnaryOp .USub (.Constant (.int 1) j p4) p3)) p2) pos) (eRev f) :=
  L2.PE.imp (pe_rev h) fun σ H Q ⟨Z, env, ρ, B, hp, d, hp', S, e, k⟩ => by
    obtain ⟨x, hp1, e1, e2⟩ := bind_some e
    refine tD.run S e1 fun v ρ1 B1 H1 g1 S1 r1 => ?_
    cases x with
    | lst ds =>
      obtain ⟨rfl, rfl⟩ := pure_some e2
      obtain ⟨a, xs, rfl, nb, sq, rl⟩ := r1.lstI
      exact ⟨a, xs, rfl, sq, fol_lst S1.wo rl.reverse (k.after g1)⟩
    | non => cases e2
    | bl _ => cases e2
    | int _ => cases e2
    | str _ => cases e2
    | tup _ => cases e2
    | ref _ => cases e2

/-! ### the law -/
theorem fn_ok {P : Program} {w : World} {K : PySem.W.Frag} {mg : Str → Option Value} {base : Heap} {x : Str} {stm : Stmt} {g : Addr} {fd : FuncData} {N ps : List Str} {k : Nat} {body : DSx} (F : Fun K x x stm g fd) (Sc : FnScope N ps (defScope stm))
    (h : ∀ (cdv : Value) (A : Around) (outer : List Env) (s : Shared) (H : Hp) (E : XK), Room k (A.deeper (envOfC x (defScope stm) s.heap.objs.size g cdv)) → DSs (cxOf CX0 P w K mg base N x (defScope stm) g cdv A outer s H E).nox (defBody stm) body) :
    FnOk P w K mg base CX0 (k + 1) g fd ps (spD K ps.length (runF N.length body)) := by
  refine F.ok Sc (fun vs H Q E h => h.1) (fun cdv A outer s H vs Q E hr sp => ?_)
  obtain ⟨hn, ρ, B, hp, ds, d, hp', W, r, e, k⟩ := sp
  obtain ⟨⟨fl, env'⟩, hp1, e1, e2⟩ := bind_some e
  refine ⟨_, h cdv A outer s H E hr, ⟨ρ, B, H⟩, _, ρ, B, hp, fl, env', hp1, sOk_start W r, e1, fun σ' ρ' B' H' g' S' => ?_⟩
  cases fl with
  | nx => obtain ⟨rfl, rfl⟩ := pure_some e2; exact k .non ρ' B' H' S'.gr S'.wo rep_non
  | rt x => obtain ⟨rfl, rfl⟩ := pure_some e2; exact fun v rv => k v ρ' B' H' S'.gr S'.wo rv
  | bk => cases e2
  | ct => cases e2
theorem rep_ints {K : PySem.W.Frag} {ρ : List Addr} {B : Addr → Prop} {H : Hp} : ∀ ns : List Int, RepL K ρ B H (ns.map DV.int) (ns.map V.int)
  | [] => RepL.nil
  | _ :: r => RepL.cons rep_int (rep_ints r)
theorem law_sp {K : PySem.W.Frag} {F : List DV → M DV} {H : Hp} {a : Addr} {ns : List Int} {E : XK} (h : ∃ hp', F [.lst (ns.map .int)] [] = some (.bl true, hp')) (hS : SqL K H a (ns.map V.int)) : spD K 1 F [.ref a] H (fun v _ => v = .bl true) E := by
  obtain ⟨hp', h⟩ := h
  refine ⟨rfl, [], fun _ => False, [], [.lst (ns.map .int)], .bl true, hp', ⟨rfl, List.nodup_nil, fun i a o h => by simp at h, fun a h => absurd h (by simp), fun a h => absurd h (fun z => z)⟩, RepL.one (rep_lst (fun z => z) hS (rep_ints ns)), h, fun v _ _ _ _ _ r => r.blI⟩
end
end D

/-! ## zip of two tuples, walked with a pair as target -/
namespace L2
open PySem PySem.Spec PyProof.Rows
section
variable {prog : Program} {w : World} {A : Around} {E : Value → Shared → Prop} {s : Shared}
theorem zt_item {p q : Addr} {n : Nat} {xs : Array Value} {v : Value} {Q : Value → Shared → Prop} (a1 : s.heap.IsTupleIter p q n) (a2 : s.heap.IsTuple q xs) (a3 : xs[n]? = some v)
    (k : ∀ g, g.IsTupleIter p q (n + 1) → Heap.SameBut p s.heap g → Q v { s with heap := g }) : wpAny (model prog w) A (Builtin.SmallTypes.nextOf (.ref p)) Q E s := by
  obtain ⟨ob, b1, b2, b3⟩ := id a1
  obtain ⟨oq, b4, _, m, b5⟩ := a2
  unfold Builtin.SmallTypes.nextOf
  refine wpAny_bind (wpAny_callSpecial?_slot (name := Str.ofString "__next__") a1.typeIs F.slot_tuple_iterator_next (wpAny_call_entry F.slot_tuple_iterator_next a1.typeIs F.entry_tuple_iterator_next ?_ (F.args_tuple_iterator_next_1 _)))
  show wpAny _ _ (field (.ref p) 0 >>= _) _ _ s
  refine wpAny_bind (wpAny_field b1 b3 (x := .ref q) rfl ?_)
  show wpAny _ _ (if (Value.ref q == Value.none) = true then _ else _) _ _ s
  rw [if_neg (show ¬ ((Value.ref q == Value.none) = true) from Bool.false_ne_true)]
  show wpAny _ _ (field (.ref p) 1 >>= _) _ _ s
  refine wpAny_bind (wpAny_field b1 b3 (x := .int n 0) rfl ?_)
  show wpAny _ _ (seqItems? (.ref q) >>= _) _ _ s
  refine wpAny_bind (wpAny_seqItems b4 b5 ?_)
  simp only [Int.toNat_natCast, a3]
  refine wpAny_bind (wpAny_setField b1 b3 (by simp) (wpAny_pure ⟨v, rfl, wpAny_pure (k _ ?_ (Heap.SameBut.update ..))⟩))
  exact ⟨_, Heap.get?_update_self _ b1 (Obj.isFreed_of_fields (Obj.data_mapFields b3 _)), (Obj.cls_mapFields ..).trans b2, by rw [Obj.data_mapFields b3]; simp [rawInt]⟩
theorem zt_end {p q : Addr} {n : Nat} {xs : Array Value} {Q : Value → Shared → Prop} (hh : A.handled = none) (a1 : s.heap.IsTupleIter p q n) (a2 : s.heap.IsTuple q xs) (a3 : xs[n]? = none)
    (k : ∀ g x, Heap.ExtBut p s.heap g → (∃ o, g.get? x = some o ∧ o.cls = .type "StopIteration") → E (.ref x) { s with heap := g }) : wpAny (model prog w) A (Builtin.SmallTypes.nextOf (.ref p)) Q E s := by
  obtain ⟨ob, b1, b2, b3⟩ := id a1
  obtain ⟨oq, b4, _, m, b5⟩ := a2
  unfold Builtin.SmallTypes.nextOf
  refine wpAny_bind (wpAny_callSpecial?_slot (name := Str.ofString "__next__") a1.typeIs F.slot_tuple_iterator_next (wpAny_call_entry F.slot_tuple_iterator_next a1.typeIs F.entry_tuple_iterator_next ?_ (F.args_tuple_iterator_next_1 _)))
  show wpAny _ _ (field (.ref p) 0 >>= _) _ _ s
  refine wpAny_bind (wpAny_field b1 b3 (x := .ref q) rfl ?_)
  show wpAny _ _ (if (Value.ref q == Value.none) = true then _ else _) _ _ s
  rw [if_neg (show ¬ ((Value.ref q == Value.none) = true) from Bool.false_ne_true)]
  show wpAny _ _ (field (.ref p) 1 >>= _) _ _ s
  refine wpAny_bind (wpAny_field b1 b3 (x := .int n 0) rfl ?_)
  show wpAny _ _ (seqItems? (.ref q) >>= _) _ _ s
  refine wpAny_bind (wpAny_seqItems b4 b5 ?_)
  simp only [Int.toNat_natCast, a3]
  refine wpAny_bind (wpAny_rule (wpAny_bind (wpAny_setField b1 b3 (by simp) ?_)))
  show wpAny _ _ (newExc (.type "StopIteration") [] >>= _) _ _ _
  refine wpAny_bind ?_
  simp only [newExc, newTuple]
  refine wpAny_bind (wpAny_newObj_type ?_ (by size_fits))
  refine wpAny_bind (m := firstArgMember _ _) (wpAny_of_eq (a := Value.none) (by first | rfl | (simp only [firstArgMember]; rfl)) ?_)
  refine wpAny_newObj_type ?_ (by size_fits)
  simp only [raiseNew]
  refine wpAny_bind (wpAny_handled ?_)
  first | rw [show A.in1.handled = none from hh] | rw [hh]
  refine wpAny_bind (wpAny_pure (wpAny_throw ?_))
  exact k _ _ (((Heap.SameBut.update ..).extBut.push _).push _) ⟨_, Heap.get?_push_size _ rfl, rfl⟩
/-- the five things of a zip of two tuples -/
structure ZA (z p o i j a b : Addr) : Prop where
  pz : p ≠ z
  oz : o ≠ z
  iz : i ≠ z
  jz : j ≠ z
  po : p ≠ o
  pi : p ≠ i
  pj : p ≠ j
  oi : o ≠ i
  oj : o ≠ j
  ij : i ≠ j
  az : a ≠ z
  ao : a ≠ o
  ai : a ≠ i
  aj : a ≠ j
  bz : b ≠ z
  bo : b ≠ o
  bi : b ≠ i
  bj : b ≠ j
structure ZS (h : Heap) (z p o i j a b : Addr) (n : Nat) (f : Value) : Prop where
  zz : IsZip h z p o f
  pp : IsPair h p (.ref i) (.ref j)
  oo : ∃ x y, IsPair h o x y
  ii : h.IsTupleIter i a n
  jj : h.IsTupleIter j b n
theorem zt_next {z p o i j a b : Addr} {n : Nat} {xs ys : Array Value} {x y : Value} {Q : Value → Shared → Prop} (D : ZA z p o i j a b) (S : ZS s.heap z p o i j a b n .none) (ha : s.heap.IsTuple a xs) (hb : s.heap.IsTuple b ys) (hx : xs[n]? = some x) (hy : ys[n]? = some y)
    (k : ∀ g, ZS g z p o i j a b (n + 1) (rawInt s.heap.objs.size) → IsPair g s.heap.objs.size x y → g.objs.size = s.heap.objs.size + 1 → (∀ c u, c ≠ z → c ≠ o → c ≠ i → c ≠ j → s.heap.get? c = some u → g.get? c = some u) → Q (.ref s.heap.objs.size) { s with heap := g }) :
    wpAny (model prog w) A (Builtin.«zip.__next__» ⟨[.ref z], []⟩) (fun fin s' => ∃ v, fin = .done (.ret v) ∧ Q v s') E s := by
  obtain ⟨zz, pp, ⟨u1, u2, oo⟩, ii, jj⟩ := S
  show wpAny _ _ (field (.ref z) 2 >>= _) _ _ _
  refine wpAny_bind (wpAny_field zz rfl (x := .bool false) rfl ?_)
  show wpAny _ _ (field (.ref z) 3 >>= _) _ _ _
  refine wpAny_bind (wpAny_field zz rfl (x := .ref p) rfl ?_)
  refine wpAny_bind (wpAny_seqItems pp rfl ?_)
  show wpAny _ _ (Builtin.SmallTypes.ownedTupleIsFree (.ref z) >>= _) _ _ _
  refine wpAny_bind ?_
  unfold Builtin.SmallTypes.ownedTupleIsFree
  refine wpAny_bind (wpAny_field zz rfl (x := .none) rfl (wpAny_pure ?_))
  simp only [if_true]
  refine wpAny_bind (wpAny_rule ?_)
  refine wpAny_bind (wpAny_field zz rfl (x := .ref o) rfl ?_)
  refine wpAny_bind (wpAny_setField_rec zz (by simp) fun g1 z1 k1 => ?_)
  replace z1 : IsZip g1 z p o .ellipsis := z1
  refine wpAny_bind ?_
  simp only [List.zipIdx_cons, List.zipIdx_nil, List.forIn_cons, List.forIn_nil]
  refine wpAny_bind (wpAny_bind (wpAny_onRaise ?_))
  show wpAny _ _ (Builtin.SmallTypes.nextOf (.ref i) >>= _) _ _ _
  have ht : ∀ {g g' : Heap} {q c : Addr} {vs : Array Value}, Heap.SameBut q g g' → c ≠ q → g.IsTuple c vs → g'.IsTuple c vs := fun {g g' q c vs} sb hc ⟨ob, e, r⟩ => ⟨ob, sb.extBut _ _ hc e, r⟩
  refine wpAny_bind (zt_item (ii.extBut k1.extBut D.iz) (ht k1 D.az ha) hx fun g2 i2 k2 => wpAny_pure ?_)
  have o2 : IsPair g2 o u1 u2 := k2.extBut _ _ D.oi (k1.extBut _ _ D.oz oo)
  refine wpAny_bind (wpAny_seqItems o2 rfl ?_)
  refine wpAny_bind (wpAny_updateSeq_pair o2 fun g3 o3 k3 => ?_)
  replace o3 : IsPair g3 o x u2 := o3
  refine wpAny_bind (wpAny_letGo (wpAny_pure ?_))
  refine wpAny_bind (wpAny_bind (wpAny_onRaise ?_))
  show wpAny _ _ (Builtin.SmallTypes.nextOf (.ref j) >>= _) _ _ _
  refine wpAny_bind (zt_item (((jj.extBut k1.extBut D.jz).extBut k2.extBut D.ij.symm).extBut k3.extBut D.oj.symm) (ht k3 D.bo (ht k2 D.bi (ht k1 D.bz hb))) hy fun g4 j4 k4 => wpAny_pure ?_)
  have o4 : IsPair g4 o x u2 := k4.extBut _ _ D.oj o3
  refine wpAny_bind (wpAny_seqItems o4 rfl ?_)
  refine wpAny_bind (wpAny_updateSeq_pair o4 fun g5 o5 k5 => ?_)
  replace o5 : IsPair g5 o x y := o5
  refine wpAny_bind (wpAny_letGo (wpAny_pure (wpAny_pure ?_)))
  refine wpAny_bind (wpAny_seqItems o5 rfl ?_)
  refine wpAny_bind (wpAny_newTuple ?_)
  have sz : g5.objs.size = s.heap.objs.size := by rw [k5.1, k4.1, k3.1, k2.1, k1.1]
  have z5 : IsZip g5 z p o .ellipsis := k5.extBut _ _ D.oz.symm (k4.extBut _ _ D.jz.symm (k3.extBut _ _ D.oz.symm (k2.extBut _ _ D.iz.symm z1)))
  have kk : ∀ c u, c ≠ z → c ≠ o → c ≠ i → c ≠ j → s.heap.get? c = some u → g5.get? c = some u := fun c u c1 c2 c3 c4 e => k5.extBut _ _ c2 (k4.extBut _ _ c4 (k3.extBut _ _ c2 (k2.extBut _ _ c3 (k1.extBut _ _ c1 e))))
  have i5 : g5.IsTupleIter i a (n + 1) := ((i2.extBut k3.extBut D.oi.symm).extBut k4.extBut D.ij).extBut k5.extBut D.oi.symm
  have j5 : g5.IsTupleIter j b (n + 1) := j4.extBut k5.extBut D.oj.symm
  have zl : z < g5.objs.size := Heap.lt_size z5
  show wpAny _ _ (Builtin.SmallTypes.ownedTupleHandOut (.ref z) (.ref g5.objs.size) >>= _) _ _ _
  refine wpAny_bind ?_
  unfold Builtin.SmallTypes.ownedTupleHandOut
  have z6 : IsZip (g5.push { cls := .type "tuple", data := .seq #[x, y] }) z p o .ellipsis := Heap.get?_push_of_some _ z5
  refine wpAny_bind (wpAny_setField_rec z6 (by simp) fun g7 z7 k7 => ?_)
  replace z7 : IsZip g7 z p o (rawInt g5.objs.size) := z7
  refine wpAny_setField_rec z7 (by simp) fun g8 z8 k8 => ?_
  replace z8 : IsZip g8 z p o (rawInt g5.objs.size) := z8
  have up : ∀ c u, c ≠ z → g5.get? c = some u → g8.get? c = some u := fun c u c1 e => k8.extBut _ _ c1 (k7.extBut _ _ c1 (Heap.get?_push_of_some _ e))
  have t8 : IsPair g8 g5.objs.size x y := k8.extBut _ _ (Nat.ne_of_gt zl) (k7.extBut _ _ (Nat.ne_of_gt zl) (Heap.get?_push_size _ rfl))
  have s8 : g8.objs.size = g5.objs.size + 1 := by rw [k8.1, k7.1, Heap.size_push]
  rw [sz] at z8 t8 s8
  refine wpAny_pure ⟨_, rfl, ?_⟩
  show Q (.ref g5.objs.size) _
  rw [sz]
  exact k g8 ⟨z8, up _ _ D.pz (kk _ _ D.pz D.po D.pi D.pj pp), ⟨x, y, up _ _ D.oz o5⟩, i5.at fun u e => up _ u D.iz e, j5.at fun u e => up _ u D.jz e⟩ t8 s8 fun c u c1 c2 c3 c4 e => up c u c1 (kk c u c1 c2 c3 c4 e)
theorem zt_stop {z p o i j a b : Addr} {n : Nat} {xs ys : Array Value} {Q : PySem.Fin → Shared → Prop} (hh : A.handled = none) (D : ZA z p o i j a b) (S : ZS s.heap z p o i j a b n .none) (ha : s.heap.IsTuple a xs) (hb : s.heap.IsTuple b ys) (he : xs[n]? = none ∨ ys[n]? = none)
    (k : ∀ g x, (∀ c u, c ≠ z → c ≠ o → c ≠ i → c ≠ j → s.heap.get? c = some u → g.get? c = some u) → (∃ u, g.get? x = some u ∧ u.cls = .type "StopIteration") → E (.ref x) { s with heap := g }) :
    wpAny (model prog w) A (Builtin.«zip.__next__» ⟨[.ref z], []⟩) Q E s := by
  obtain ⟨zz, pp, ⟨u1, u2, oo⟩, ii, jj⟩ := S
  have ht : ∀ {g g' : Heap} {q c : Addr} {vs : Array Value}, Heap.SameBut q g g' → c ≠ q → g.IsTuple c vs → g'.IsTuple c vs := fun {g g' q c vs} sb hc ⟨ob, e, r⟩ => ⟨ob, sb.extBut _ _ hc e, r⟩
  show wpAny _ _ (field (.ref z) 2 >>= _) _ _ _
  refine wpAny_bind (wpAny_field zz rfl (x := .bool false) rfl ?_)
  show wpAny _ _ (field (.ref z) 3 >>= _) _ _ _
  refine wpAny_bind (wpAny_field zz rfl (x := .ref p) rfl ?_)
  refine wpAny_bind (wpAny_seqItems pp rfl ?_)
  show wpAny _ _ (Builtin.SmallTypes.ownedTupleIsFree (.ref z) >>= _) _ _ _
  refine wpAny_bind ?_
  unfold Builtin.SmallTypes.ownedTupleIsFree
  refine wpAny_bind (wpAny_field zz rfl (x := .none) rfl (wpAny_pure ?_))
  simp only [if_true]
  refine wpAny_bind (wpAny_rule ?_)
  refine wpAny_bind (wpAny_field zz rfl (x := .ref o) rfl ?_)
  refine wpAny_bind (wpAny_setField_rec zz (by simp) fun g1 z1 k1 => ?_)
  replace z1 : IsZip g1 z p o .ellipsis := z1
  refine wpAny_bind ?_
  simp only [List.zipIdx_cons, List.zipIdx_nil, List.forIn_cons, List.forIn_nil]
  refine wpAny_bind (wpAny_bind (wpAny_onRaise ?_))
  show wpAny _ _ (Builtin.SmallTypes.nextOf (.ref i) >>= _) _ _ _
  cases hx : xs[n]? with
  | none =>
    refine wpAny_bind (zt_end hh (ii.extBut k1.extBut D.iz) (ht k1 D.az ha) hx fun g2 x k2 h2 => ?_)
    obtain ⟨oe, h3, h4⟩ := h2
    have z2 : IsZip g2 z p o .ellipsis := k2 _ _ D.iz.symm z1
    have xz : x ≠ z := fun q => by subst q; rw [z2] at h3; cases h3; simp at h4
    exact wpAny_setField_rec z2 (by simp) fun g3 _ k3 => k g3 x (fun c u c1 _ c3 _ e => k3.extBut _ _ c1 (k2 _ _ c3 (k1.extBut _ _ c1 e))) ⟨oe, k3.extBut _ _ xz h3, h4⟩
  | some x0 =>
    have hy : ys[n]? = none := by rcases he with h | h; rw [hx] at h; cases h; exact h
    refine wpAny_bind (zt_item (ii.extBut k1.extBut D.iz) (ht k1 D.az ha) hx fun g2 i2 k2 => wpAny_pure ?_)
    have o2 : IsPair g2 o u1 u2 := k2.extBut _ _ D.oi (k1.extBut _ _ D.oz oo)
    refine wpAny_bind (wpAny_seqItems o2 rfl ?_)
    refine wpAny_bind (wpAny_updateSeq_pair o2 fun g3 o3 k3 => ?_)
    refine wpAny_bind (wpAny_letGo (wpAny_pure ?_))
    refine wpAny_bind (wpAny_bind (wpAny_onRaise ?_))
    show wpAny _ _ (Builtin.SmallTypes.nextOf (.ref j) >>= _) _ _ _
    refine wpAny_bind (zt_end hh (((jj.extBut k1.extBut D.jz).extBut k2.extBut D.ij.symm).extBut k3.extBut D.oj.symm) (ht k3 D.bo (ht k2 D.bi (ht k1 D.bz hb))) hy fun g4 x k4 h2 => ?_)
    obtain ⟨oe, h3, h4⟩ := h2
    have z4 : IsZip g4 z p o .ellipsis := k4 _ _ D.jz.symm (k3.extBut _ _ D.oz.symm (k2.extBut _ _ D.iz.symm z1))
    have xz : x ≠ z := fun q => by subst q; rw [z4] at h3; cases h3; simp at h4
    exact wpAny_setField_rec z4 (by simp) fun g5 _ k5 => k g5 x (fun c u c1 c2 c3 c4 e => k5.extBut _ _ c1 (k4 _ _ c4 (k3.extBut _ _ c2 (k2.extBut _ _ c3 (k1.extBut _ _ c1 e))))) ⟨oe, k5.extBut _ _ xz h3, h4⟩
end
end L2

namespace L2
open PySem PySem.Spec PyProof.Rows
section
variable {X : Cx} {pins : List (Addr × Obj)} {σ : L2.St} {H : Hp} {s : Shared} {h' : Heap}
/-- the records at fp have turned -/
theorem Inv.turnL {t' : Nat} {fp : List Addr} (I : Inv X pins σ H s) (hf : ∀ b ∈ fp, FpOk X pins H b) (k : ∀ b o, b ∉ fp → s.heap.get? b = some o → h'.get? b = some o) : Inv X pins σ H { s with heap := h', toks := t' } := by
  refine I.step (g' := s.gens) (d' := s.drawn) (ch := fp) (fun b hb => ⟨(hf b hb).2.2.2.1, (hf b hb).2.1, (hf b hb).2.2.2.2.1, (hf b hb).2.2.2.2.2⟩) (fun b o _ _ hc e _ => k b o hc e) (fun b o _ _ hc e _ => ⟨o.slots, k b o hc e⟩) (fun _ _ _ _ n => n)
    (fun b o hc e => ⟨o, k b o hc e⟩) (fun _ _ e => e) (fun _ _ _ e => e) (fun b ps e => ⟨#[], by rw [e]; simp⟩) (fun m hm => ?_) (fun b u e => ?_) I.bare
  · obtain ⟨o, es, ep, ho, r⟩ := hm
    exact ⟨o, es, ep, k _ o (fun z => (hf _ z).2.1 rfl) ho, r⟩
  · have nf : ∀ c u, H c = some u → c ∉ fp := fun c u q z => by rw [(hf c z).1] at q; cases q
    refine (I.hok b u e).stay (fun c v hc q => k c v ?_ q) (fun _ q => q) fun _ _ q => q
    rcases hc with z | z
    · rw [z]; exact nf b u e
    · exact nf c _ z
/-- .. and a new tuple stands at the old heap's end -/
theorem Inv.turnNew {t' : Nat} {fp : List Addr} {vs : List V} {us : List Value} (I : Inv X pins σ H s) (hf : ∀ b ∈ fp, FpOk X pins H b) (k : ∀ b o, b ∉ fp → s.heap.get? b = some o → h'.get? b = some o)
    (hv : Vals vs us) (hz : vs.length ≤ sizeLine) (hT : IsTup h' s.heap.objs.size us.toArray) : Inv X pins σ (upd H s.heap.objs.size (.tup vs)) { s with heap := h', toks := t' } := by
  have hn : H s.heap.objs.size = none := I.hok.fresh (Nat.le_refl _)
  refine I.step (g' := s.gens) (d' := s.drawn) (ch := fp) (fun b hb => ⟨(hf b hb).2.2.2.1, (hf b hb).2.1, (hf b hb).2.2.2.2.1, (hf b hb).2.2.2.2.2⟩) (fun b o _ _ hc e _ => k b o hc e) (fun b o _ _ hc e _ => ⟨o.slots, k b o hc e⟩)
    (fun b o _ e n => by rw [upd_ne (Nat.ne_of_lt (Heap.lt_size e))]; exact n) (fun b o hc e => ⟨o, k b o hc e⟩) (fun b xs e => by rw [upd_ne (ne_of_none e hn)]; exact e) (fun b o u e => by rw [upd_ne (ne_of_none e hn)]; exact e) (fun b ps e => ⟨#[], by rw [upd_ne (ne_of_none e hn), e]; simp⟩) (fun m hm => ?_) (fun b u e => ?_) I.bare
  · obtain ⟨o, es, ep, ho, r⟩ := hm
    exact ⟨o, es, ep, k _ o (fun z => (hf _ z).2.1 rfl) ho, r⟩
  · by_cases hb : b = s.heap.objs.size
    · subst hb
      rw [upd_same] at e; cases e
      exact ⟨hz, us, hv, hT⟩
    · rw [upd_ne hb] at e
      have nf : ∀ c u, H c = some u → c ∉ fp := fun c u q z => by rw [(hf c z).1] at q; cases q
      refine (I.hok b u e).stay (fun c v hc q => k c v ?_ q) (fun c q => by rw [upd_ne (ne_of_none q hn)]; exact q) fun c xs q => by rw [upd_ne (ne_of_none q hn)]; exact q
      rcases hc with z | z
      · rw [z]; exact nf b u e
      · exact nf c _ z
end
def Itz (K : PySem.W.Frag) (a b : Addr) : It :=
  ⟨fun i H => ∃ xs ys x y, SqT K H a xs ∧ SqT K H b ys ∧ xs[i]? = some x ∧ ys[i]? = some y,
   fun i H v H' => ∃ p x y, H p = none ∧ (∀ xs, SqT K H a xs → xs[i]? = some x) ∧ (∀ ys, SqT K H b ys → ys[i]? = some y) ∧ v = .ref p ∧ H' = upd H p (.tup [x, y]),
   fun i H => ∃ xs ys, SqT K H a xs ∧ SqT K H b ys ∧ (xs.length ≤ i ∨ ys.length ≤ i)⟩
theorem ZS.at {h h' : Heap} {z p o i j a b : Addr} {n : Nat} {f : Value} (S : ZS h z p o i j a b n f) (k : ∀ c ∈ [z, p, o, i, j], ∀ u, h.get? c = some u → h'.get? c = some u) : ZS h' z p o i j a b n f := by
  obtain ⟨zz, pp, ⟨u1, u2, oo⟩, ii, jj⟩ := S
  exact ⟨k z (by simp) _ zz, k p (by simp) _ pp, ⟨u1, u2, k o (by simp) _ oo⟩, ii.at fun u e => k i (by simp) u e, jj.at fun u e => k j (by simp) u e⟩
theorem turn_zip {P : Program} {w : World} {K : PySem.W.Frag} {elts : List Expr} {kt : Nat} {pos : Pos} {z p o i j a b : Addr} (D : ZA z p o i j a b) : Turn P w K (.Tuple elts kt pos) (Itz K a b) [z, p, o, i, j] z (fun n h => ZS h z p o i j a b n .none) where
  mem := by simp
  obj := fun n h S c hc => by
    obtain ⟨zz, pp, ⟨u1, u2, oo⟩, ⟨oi, ei, ci, di⟩, ⟨oj, ej, cj, dj⟩⟩ := S
    simp only [List.mem_cons, List.not_mem_nil, or_false] at hc
    rcases hc with rfl | rfl | rfl | rfl | rfl
    · exact ⟨_, zz, fun v q => by have q' : Data.fields _ = Data.cell v := q; cases q'⟩
    · exact ⟨_, pp, fun v q => by have q' : Data.seq _ _ = Data.cell v := q; cases q'⟩
    · exact ⟨_, oo, fun v q => by have q' : Data.seq _ _ = Data.cell v := q; cases q'⟩
    · exact ⟨oi, ei, fun v q => by rw [di] at q; cases q⟩
    · exact ⟨oj, ej, fun v q => by rw [dj] at q; cases q⟩
  keep := fun n h h' S k => S.at k
  item := by
    intro X hP hw hK hc n pins s σ H E I hf S hg
    subst hP hw hK
    obtain ⟨xs, ys, x, y, qa, qb, hx, hy⟩ := hg
    obtain ⟨ia, ra, pa, _⟩ := I.tuple qa
    obtain ⟨ib, rb, pb, _⟩ := I.tuple qb
    obtain ⟨u, hu, ru⟩ := ra.get hx
    obtain ⟨v, hv, rv⟩ := rb.get hy
    have hT : s.TypeIs (.ref z) "zip" := ⟨_, S.zz, rfl⟩
    unfold pyNext
    refine wpAny_bind (wpAny_attempt (wpAny_callSpecial?_slot (name := Str.ofString "__next__") hT F.slot_zip_next (wpAny_call_entry F.slot_zip_next hT F.entry_zip_next
      (zt_next D S (show s.heap.IsTuple a ia.toArray from pa) (show s.heap.IsTuple b ib.toArray from pb) (by simpa using hu) (by simpa using hv) fun g S' tp sz kp => wpAny_pure ?_) (F.args_zip_next_1 _))))
    refine ⟨_, rfl, wpAny_letOwnedTupleGo_zip S'.zz fun g' z' sb => ?_⟩
    have kp' : ∀ c q, c ∉ [z, p, o, i, j] → s.heap.get? c = some q → g'.get? c = some q := fun c q hc e => by
      simp only [List.mem_cons, List.not_mem_nil, or_false, not_or] at hc
      exact sb.extBut _ _ hc.1 (kp c q hc.1 hc.2.2.1 hc.2.2.2.1 hc.2.2.2.2 e)
    have zl : z < s.heap.objs.size := Heap.lt_size S.zz
    have tp' : IsPair g' s.heap.objs.size u v := sb.extBut _ _ (Nat.ne_of_gt zl) tp
    have ne : ∀ c ∈ [z, p, o, i, j], c ≠ s.heap.objs.size := fun c hc e => by
      have q := (hf c hc)
      obtain ⟨zz, pp, ⟨u1, u2, oo⟩, ⟨oi, ei, _⟩, ⟨oj, ej, _⟩⟩ := S
      simp only [List.mem_cons, List.not_mem_nil, or_false] at hc
      rcases hc with rfl | rfl | rfl | rfl | rfl
      · exact Nat.ne_of_lt (Heap.lt_size zz) e
      · exact Nat.ne_of_lt (Heap.lt_size pp) e
      · exact Nat.ne_of_lt (Heap.lt_size oo) e
      · exact Nat.ne_of_lt (Heap.lt_size ei) e
      · exact Nat.ne_of_lt (Heap.lt_size ej) e
    refine ⟨.ref s.heap.objs.size, upd H s.heap.objs.size (.tup [x, y]), I.turnNew (t' := s.toks) hf kp' (us := [u, v]) (.cons ru (.cons rv .nil)) (show 2 ≤ sizeLine by decide) ⟨_, tp', rfl, _, rfl⟩, rfl,
      ⟨_, x, y, I.hok.fresh (Nat.le_refl _), fun xs' h => by rw [I.tuple_inj h qa]; exact hx, fun ys' h => by rw [I.tuple_inj h qb]; exact hy, rfl, rfl⟩, ?_, fun c hc => ?_⟩
    · obtain ⟨_, pp, ⟨u1, u2, oo⟩, ii, jj⟩ := S'
      exact ⟨z', sb.extBut _ _ D.pz pp, ⟨u1, u2, sb.extBut _ _ D.oz oo⟩, ii.extBut sb.extBut D.iz, jj.extBut sb.extBut D.jz⟩
    · rw [upd_ne (ne c hc)]; exact (hf c hc).1
  done := by
    intro X hP hw hK hc n pins s σ H E I hf S hg
    subst hP hw hK
    obtain ⟨xs, ys, qa, qb, hs⟩ := hg
    obtain ⟨ia, ra, pa, _⟩ := I.tuple qa
    obtain ⟨ib, rb, pb, _⟩ := I.tuple qb
    have l1 := ra.length
    have l2 := rb.length
    have hT : s.TypeIs (.ref z) "zip" := ⟨_, S.zz, rfl⟩
    unfold pyNext
    refine wpAny_bind (wpAny_attempt (wpAny_callSpecial?_slot (name := Str.ofString "__next__") hT F.slot_zip_next (wpAny_call_entry F.slot_zip_next hT F.entry_zip_next
      (zt_stop (I.ok.hd hc) D S (show s.heap.IsTuple a ia.toArray from pa) (show s.heap.IsTuple b ib.toArray from pb) (by rcases hs with q | q; exact .inl (by simp; omega); exact .inr (by simp; omega)) fun g x kp hx => ?_) (F.args_zip_next_1 _))))
    obtain ⟨ox, h1, h2⟩ := hx
    refine wpAny_bind (wpAny_isInstance (T := "StopIteration") (b := true) ⟨ox, h1, h2⟩ isSubtype_stop ?_)
    refine wpAny_pure ⟨rfl, I.turnL (t' := s.toks) hf fun c q hc e => ?_⟩
    simp only [List.mem_cons, List.not_mem_nil, or_false, not_or] at hc
    exact kp c q hc.1 hc.2.2.1 hc.2.2.2.1 hc.2.2.2.2 e
  self := fun _ _ _ _ _ S h => wpAny_pyIter_zip S.zz h
abbrev zt1 (h : Heap) (a : Addr) : Heap := h.push { cls := .type "tuple_iterator", data := .fields #[.ref a, .int 0 0] }
abbrev zt2 (h : Heap) (a b : Addr) : Heap := (zt1 h a).push { cls := .type "tuple_iterator", data := .fields #[.ref b, .int 0 0] }
abbrev zt3 (h : Heap) (a b : Addr) : Heap := (zt2 h a b).push { cls := .type "tuple", data := .seq #[.ref h.objs.size, .ref (zt1 h a).objs.size] }
abbrev zt4 (h : Heap) (a b : Addr) : Heap := (zt3 h a b).push { cls := .type "tuple", data := .seq #[.none, .none] }
abbrev zt5 (h : Heap) (a b : Addr) : Heap := (zt4 h a b).push { cls := .type "zip", data := .fields #[.none, .bool false, .bool false, .ref (zt2 h a b).objs.size, .ref (zt3 h a b).objs.size] }
theorem zt_made (a b : Addr) (xs ys : Array Value) : Meets (Builtin.«zip.__new__» ⟨[.type "zip", .ref a, .ref b], []⟩) (fun _ R s => s.heap.IsTuple a xs ∧ s.heap.IsTuple b ys ∧ R (.ok (.ret (.ref (zt4 s.heap a b).objs.size))) { s with heap := zt5 s.heap a b }) :=
  .of_wp fun prog w A R s h => by
    obtain ⟨hp, g, d, tk, os⟩ := s; obtain ⟨q1, q2, h⟩ := h
    have hsub := sub_zip
    have t1 : Heap.IsTuple (Shared.heap ⟨hp, g, d, tk, os⟩) a xs := q1
    have t2 : Heap.IsTuple (Shared.heap ⟨hp.push { cls := .type "tuple_iterator", data := .fields #[.ref a, .int 0 0] }, g, d, tk, os⟩) b ys := let ⟨ob, e, r⟩ := q2; ⟨ob, Heap.get?_push_of_some _ e, r⟩
    wp_walk using wpAny_pyIter_tuple t1, wpAny_pyIter_tuple t2
    exact ⟨_, rfl, h⟩
section
variable {X : Cx} {elts : List Expr} {kt : Nat} {p2 : Pos}
def iZipT (K : PySem.W.Frag) (ta : TA) : TI := fun σ H R => ta σ H fun vs H1 => ∃ a b xs ys, vs = [.ref a, .ref b] ∧ SqT K H1 a xs ∧ SqT K H1 b ys ∧ R (Itz K a b) H1
theorem zip_it {pins : List (Addr × Obj)} {σ : L2.St} {H : Hp} {s : Shared} {R : It → Hp → Prop} {E : Value → Shared → Prop} {a b : Addr} {xs ys : List V} (I : Inv X pins σ H s) (qa : SqT X.K H a xs) (qb : SqT X.K H b ys) (q : R (Itz X.K a b) H) :
    wpAny (model X.prog X.w) X.A (call (.type "zip") [.ref a, .ref b]) (fun v s1 => wpAny (model X.prog X.w) X.A (pyIter v) (PIE X pins σ (.Tuple elts kt p2) R) E s1) E s := by
  obtain ⟨ia, ra, pa, _⟩ := I.tuple qa
  obtain ⟨ib, rb, pb, _⟩ := I.tuple qb
  refine callType_new F.called_zip (by decide) (F.typeCall_zip_2 _ _) (F.newCall_zip_2 _ _) (fun obj => F.args_object_init_3 obj _ _) F.entry_zip_new (zt_made a b ia.toArray ib.toArray) ⟨show s.heap.IsTuple a ia.toArray from pa, show s.heap.IsTuple b ib.toArray from pb, ?_⟩
  have z1 : (zt1 s.heap a).objs.size = s.heap.objs.size + 1 := Heap.size_push ..
  have z2 : (zt2 s.heap a b).objs.size = s.heap.objs.size + 2 := by rw [Heap.size_push, z1]
  have z3 : (zt3 s.heap a b).objs.size = s.heap.objs.size + 3 := by rw [Heap.size_push, z2]
  have z4 : (zt4 s.heap a b).objs.size = s.heap.objs.size + 4 := by rw [Heap.size_push, z3]
  have g5 : (zt5 s.heap a b).get? (zt4 s.heap a b).objs.size = some _ := Heap.get?_push_size _ rfl
  have g4 : (zt5 s.heap a b).get? (zt3 s.heap a b).objs.size = some _ := Heap.get?_push_of_some _ (Heap.get?_push_size _ rfl)
  have g3 : (zt5 s.heap a b).get? (zt2 s.heap a b).objs.size = some _ := Heap.get?_push_of_some _ (Heap.get?_push_of_some _ (Heap.get?_push_size _ rfl))
  have g2 : (zt5 s.heap a b).get? (zt1 s.heap a).objs.size = some _ := Heap.get?_push_of_some _ (Heap.get?_push_of_some _ (Heap.get?_push_of_some _ (Heap.get?_push_size _ rfl)))
  have g1 : (zt5 s.heap a b).get? s.heap.objs.size = some _ := Heap.get?_push_of_some _ (Heap.get?_push_of_some _ (Heap.get?_push_of_some _ (Heap.get?_push_of_some _ (Heap.get?_push_size _ rfl))))
  show _ ∧ _
  have kp : ∀ c o, s.heap.get? c = some o → (zt5 s.heap a b).get? c = some o := fun c o e => Heap.get?_push_of_some _ (Heap.get?_push_of_some _ (Heap.get?_push_of_some _ (Heap.get?_push_of_some _ (Heap.get?_push_of_some _ e))))
  refine ⟨⟨_, g5, rfl⟩, ?_⟩
  rw [z2, z3, z4] at g5
  rw [z1, z2] at g3
  rw [z3] at g4
  rw [z1] at g2
  rw [z4]
  have la : a < s.heap.objs.size := by obtain ⟨o, e, _⟩ := pa; exact Heap.lt_size e
  have lb : b < s.heap.objs.size := by obtain ⟨o, e, _⟩ := pb; exact Heap.lt_size e
  have D : ZA (s.heap.objs.size + 4) (s.heap.objs.size + 2) (s.heap.objs.size + 3) s.heap.objs.size (s.heap.objs.size + 1) a b := by constructor <;> first | exact Nat.ne_of_lt la | exact Nat.ne_of_lt lb | exact Nat.ne_of_lt (Nat.lt_of_lt_of_le la (Nat.le_add_right _ _)) | exact Nat.ne_of_lt (Nat.lt_of_lt_of_le lb (Nat.le_add_right _ _)) | exact Nat.ne_of_lt (by omega) | exact Nat.ne_of_gt (by omega)
  have I1 : Inv X pins σ H { s with heap := zt5 s.heap a b } := I.kept (t' := s.toks) kp
  have S : ZS (zt5 s.heap a b) (s.heap.objs.size + 4) (s.heap.objs.size + 2) (s.heap.objs.size + 3) s.heap.objs.size (s.heap.objs.size + 1) a b 0 .none := ⟨g5, g3, ⟨_, _, g4⟩, ⟨_, g1, rfl, rfl⟩, ⟨_, g2, rfl, rfl⟩⟩
  refine wpAny_pyIter_zip (s := { s with heap := zt5 s.heap a b }) S.zz ⟨_, [s.heap.objs.size + 4, s.heap.objs.size + 2, s.heap.objs.size + 3, s.heap.objs.size, s.heap.objs.size + 1], _, Itz X.K a b, H, rfl, I1, turn_zip D, S, fun c hc => ?_, q⟩
  have hc' : s.heap.objs.size ≤ c := by
    simp only [List.mem_cons, List.not_mem_nil, or_false] at hc
    rcases hc with rfl | rfl | rfl | rfl | rfl <;> first | exact Nat.le_refl _ | exact Nat.le_add_right _ _
  exact I.fpOk hc' (I.hok.fresh hc')
theorem pi_zip {x y : Expr} {ta : TA} {p pos : Pos} (hg : Gl X "zip") (hm : X.mg "zip" = none) (ha : PA X [x, y] ta) (hs : starEach [x, y] X.env = [(false, eval x X.env), (false, eval y X.env)] := by rfl) (hs2 : starEach [y] X.env = [(false, eval y X.env)] := by rfl) :
    PI X (.Tuple elts kt p2) (.Call (.Name "zip" p) [x, y] [] pos) (iZipT X.K ta) := by
  intro pins s σ H R I h
  refine Call_ (ld_blt I hg hm boot_zip (PyProof.Rows.callWith_type1 (thn (ha pos pins s σ H _ I h) fun us s1 ⟨vs, H1, I1, r1, q1⟩ => ?_) (by rw [hs, hs2]) (by rw [hs2]; rfl)))
  obtain ⟨a, b, xs, ys, e, qa, qb, q⟩ := q1
  subst e
  cases r1 with
  | cons r rr =>
    cases rr with
    | cons r' rr =>
      cases rr
      cases r
      cases r'
      exact zip_it I1 qa qb q
end
end L2
namespace D
open PySem PySem.Spec PyProof.Rows L2
def zipL : List DV → List DV → List DV
  | x :: xs, y :: ys => .tup [x, y] :: zipL xs ys
  | _, _ => []
theorem zipL_get : ∀ {xs ys : List DV} {i : Nat} {d : DV}, (zipL xs ys)[i]? = some d → ∃ x y, xs[i]? = some x ∧ ys[i]? = some y ∧ d = .tup [x, y]
  | x :: xs, y :: ys, 0, d, h => by simp [zipL] at h; exact ⟨x, y, rfl, rfl, h.symm⟩
  | x :: xs, y :: ys, i + 1, d, h => by
    obtain ⟨a, b, h1, h2, h3⟩ := zipL_get (xs := xs) (ys := ys) (i := i) (by simpa [zipL] using h)
    exact ⟨a, b, by simpa using h1, by simpa using h2, h3⟩
  | [], _, _, _, h => by simp [zipL] at h
  | _ :: _, [], _, _, h => by simp [zipL] at h
theorem zipL_len : ∀ (xs ys : List DV), (zipL xs ys).length = min xs.length ys.length
  | x :: xs, y :: ys => by simp only [zipL, List.length_cons, zipL_len xs ys]; omega
  | [], _ => by simp [zipL]
  | _ :: _, [] => by simp [zipL]
def iZip (f g : DEx) : DIx := fun env => do
  let x ← f env
  let xs ← tupD x
  let y ← g env
  let ys ← tupD y
  pure (zipL xs ys)
theorem it_zip {K : PySem.W.Frag} {ρ : List Addr} {B : Addr → Prop} {H : Hp} {ds es : List DV} {a b : Addr} {xs ys : List V} (na : ¬ B a) (qa : SqT K H a xs) (ra : RepL K ρ B H ds xs) (nb : ¬ B b) (qb : SqT K H b ys) (rb : RepL K ρ B H es ys) : ItOk K ρ B H (zipL ds es) (Itz K a b) := fun ρ1 B1 H1 g r1 t1 => by
  have qa1 := g.sqT na qa
  have qb1 := g.sqT nb qb
  have ra1 := RepL.gs g _ _ ra
  have rb1 := RepL.gs g _ _ rb
  refine ⟨fun i d e => ?_, xs, ys, qa1, qb1, ?_⟩
  · obtain ⟨x, y, h1, h2, rfl⟩ := zipL_get e
    obtain ⟨u, hu, ru⟩ := ra1.get h1
    obtain ⟨v, hv, rv⟩ := rb1.get h2
    refine ⟨⟨xs, ys, u, v, qa1, qb1, hu, hv⟩, fun z H' ⟨p, u', v', hn, h3, h4, e1, e2⟩ => ?_⟩
    subst e1 e2
    have e3 := h3 xs qa1
    have e4 := h4 ys qb1
    rw [hu] at e3; cases e3
    rw [hv] at e4; cases e4
    refine ⟨rep_tup (fun z => t1 p z hn) (SqT.of upd_same) (RepL.gs (upd_gs r1 hn) _ _ (RepL.cons ru (RepL.one rv))), .inr ⟨p, _, hn, rfl⟩⟩
  · rw [zipL_len, ra1.length, rb1.length]
    rcases Nat.le_total xs.length ys.length with q | q
    · exact .inl (by rw [Nat.min_eq_left q]; exact Nat.le_refl _)
    · exact .inr (by rw [Nat.min_eq_right q]; exact Nat.le_refl _)
section
variable {X : Cx} {elts : List Expr} {kt : Nat} {p2 : Pos} {f g : DEx}
theorem di_zip {x y : Expr} {p pos : Pos} (hg : Gl X "zip") (hm : X.mg "zip" = none) (hx : DE X x f) (hy : DE X y g) (hs : starEach [x, y] X.env = [(false, eval x X.env), (false, eval y X.env)] := by rfl) (hs2 : starEach [y] X.env = [(false, eval y X.env)] := by rfl) :
    DI X (.Tuple elts kt p2) (.Call (.Name "zip" p) [x, y] [] pos) (iZip f g) :=
  L2.PI.imp (pi_zip hg hm (pa_cons hx (pa_cons hy pa_nil (by rw [hs2]; rfl)) (by rw [hs, hs2])) hs hs2) fun σ H R ⟨Z, env, ρ, B, hp, ds, hp', S, e, k⟩ => by
    obtain ⟨d1, hp1, e1, e⟩ := bind_some e
    obtain ⟨xs, hp2, e2, e⟩ := bind_some e
    obtain ⟨rfl, rfl⟩ := tupD_some e2
    obtain ⟨d2, hp3, e3, e⟩ := bind_some e
    obtain ⟨ys, hp4, e4, e⟩ := bind_some e
    obtain ⟨rfl, rfl⟩ := tupD_some e4
    obtain ⟨rfl, rfl⟩ := pure_some e
    refine tD.run S e1 fun v ρ1 B1 H1 g1 S1 r1 => tD.run S1 e3 fun u ρ2 B2 H2 g2 S2 r2 => ?_
    obtain ⟨a, vs, rfl, na, qa, la⟩ := (RepV.grow S1.wo.rb g2 _ _ r1).tupI
    obtain ⟨b, us, rfl, nb, qb, lb⟩ := r2.tupI
    exact ⟨a, b, vs, us, rfl, qa, qb, k _ ρ2 B2 H2 (g1.trans g2) S2.wo (it_zip na qa la nb qb lb)⟩
/-! a, b = .. -/
def gT (ix : List Nat) : DGx := fun d env => do
  let ds ← tupD d
  guardM (decide (ds.length = ix.length))
  pure ((ix.zip ds).foldl (fun en q => en.set q.1 (.val q.2)) env)
/-- the names that stand at these places -/
def NamesAt (X : Cx) : List Nat → List Expr → Prop
  | [], [] => True
  | i :: is, .Name x _ :: es => X.N[i]? = some x ∧ Loc X.env.scope x ∧ (X.fn x = true ∨ X.env.scope.names.lookup x = some .local) ∧ NamesAt X is es
  | _, _ => False
theorem pgs_names (hN : X.N.Nodup) : ∀ (ix : List Nat) (es : List Expr), NamesAt X ix es → (∀ es' x p, (assignEach (.Name x p :: es') X.env).map (·.2) = assign (.Name x p) X.env :: (assignEach es' X.env).map (·.2)) →
    PGs X es (fun vs σ H Q => vs.length = ix.length ∧ Q ((ix.zip vs).foldl (fun s q => s.set q.1 (some q.2)) σ) H)
  | [], [], _, _ => by
    intro pins s σ H vs us Q I r h
    obtain ⟨h1, h2⟩ := h
    have : vs = [] := by cases vs with | nil => rfl | cons _ _ => simp at h1
    subst this
    exact pgs_nil pins s σ H [] us Q I r ⟨rfl, by simpa using h2⟩
  | i :: is, .Name x p :: es, ⟨h1, h2, h3, h4⟩, ha => by
    intro pins s σ H vs us Q I r h
    obtain ⟨h5, h6⟩ := h
    cases vs with
    | nil => simp at h5
    | cons v vs =>
      exact pgs_cons (pg_name hN h1 h2 h3) (pgs_names hN is es h4 ha) (ha _ _ _) pins s σ H (v :: vs) us Q I r ⟨v, vs, rfl, by simpa using h5, by simpa using h6⟩
theorem fold_ok {K : PySem.W.Frag} {Z : Ent} {ρ : List Addr} {B : Addr → Prop} {hp : Hs} {H : Hp} : ∀ (ix : List Nat) (ds : List DV) (vs : List V) {env : En} {σ : L2.St}, RepL K ρ B H ds vs → SOk K Z env σ ρ B hp H →
    SOk K Z ((ix.zip ds).foldl (fun en q => en.set q.1 (.val q.2)) env) ((ix.zip vs).foldl (fun s q => s.set q.1 (some q.2)) σ) ρ B hp H
  | [], _, _, _, _, _, S => by simpa using S
  | i :: is, [], _, _, _, r, S => by unfold RepL at r; subst r; simpa using S
  | i :: is, d :: ds, _, _, _, r, S => by
    unfold RepL at r
    obtain ⟨v, vs, rfl, r1, r2⟩ := r
    simpa using fold_ok is ds vs r2 (S.set (i := i) r1)
theorem dg_tup (ix : List Nat) (hN : X.N.Nodup) (hn : NamesAt X ix elts) (hc : X.calm = true) (ha : ∀ es' x p, (assignEach (.Name x p :: es') X.env).map (·.2) = assign (.Name x p) X.env :: (assignEach es' X.env).map (·.2))
    (hl : (assignEach elts X.env).length = ix.length := by rfl) (hst : (assignEach elts X.env).findIdx? (·.1) = none := by rfl) : PG X (.Tuple elts kt p2) (tDG X.K (gT ix)) := by
  intro pins s σ H v u Q I r h
  refine pg_tup hc (pgs_names hN ix elts hn ha) hl hst pins s σ H v u Q I r ?_
  obtain ⟨Z, env, ρ, B, hp, d, env', hp', S, rd, e, k⟩ := h
  obtain ⟨ds, hp1, e1, e⟩ := bind_some e
  obtain ⟨rfl, rfl⟩ := tupD_some e1
  obtain ⟨_, hp2, e2, e⟩ := bind_some e
  obtain ⟨hs, rfl⟩ := guardM_some e2
  obtain ⟨rfl, rfl⟩ := pure_some e
  obtain ⟨a, xs, rfl, na, qa, la⟩ := rd.tupI
  have hl' : xs.length = ix.length := by rw [← la.length]; exact of_decide_eq_true hs
  exact ⟨a, xs, rfl, qa, hl', hl', k _ ρ B H Gs.refl (fold_ok ix ds xs la S)⟩
def sAsg (f : DEx) (g : DGx) : DSx := fun env => do let d ← f env; let env' ← g d env; pure (.nx, env')
theorem ds_asg {tg e : Expr} {g : DGx} {pos : Pos} (he : DE X e f) (hg : PG X tg (tDG X.K g)) (hs : swapsWithSole [tg] e pos.line X.env = pure false := by rfl) (hw : swappedStores [tg] e X.env = pure none := by rfl)
    (h1 : (assignEach [tg] X.env).map (·.2) = [assign tg X.env] := by rfl) : DS X (.Assign [tg] e pos) (sAsg f g) :=
  L2.PS.imp (ps_asg he hg hs hw h1) fun D σ H ⟨Z, env, ρ, B, hp, fl, env', hp', S, e, k⟩ => by
    obtain ⟨d, hp1, e1, e⟩ := bind_some e
    obtain ⟨env1, hp2, e2, e⟩ := bind_some e
    obtain ⟨z, rfl⟩ := pure_some e; cases z
    exact tD.run S e1 fun v ρ1 B1 H1 g1 S1 r1 => ⟨Z, env, ρ1, B1, hp1, d, env', hp2, S1, r1, e2, fun σ' ρ' B' H' g' S' => k σ' ρ' B' H' ((g1.gs S.wo.rb).trans g') S'⟩
end
end D

/-! ## the mathematics of the Lean functions: loops, comprehensions, comparisons -/
namespace D
open PySem PySem.Spec PyProof.Rows L2
theorem forL_nth {b : DV → DSx} (I : Nat → En → Prop) : ∀ (ds : List DV) (k : Nat) (env : En), I k env → (∀ (i : Nat) d, ds[i]? = some d → ∀ env, I (k + i) env → ∃ env', b d env = pure (.nx, env') ∧ I (k + i + 1) env') → ∃ env', forL b ds env = pure (.nx, env') ∧ I (k + ds.length) env'
  | [], k, env, h, _ => ⟨env, rfl, h⟩
  | d :: ds, k, env, h, hs => by
    obtain ⟨env1, e1, h1⟩ := hs 0 d rfl env h
    obtain ⟨env2, e2, h2⟩ := forL_nth I ds (k + 1) env1 h1 fun i d' hd env' h' => by
      have := hs (i + 1) d' (by simpa using hd) env' (by rw [show k + (i + 1) = k + 1 + i by omega]; exact h')
      rw [show k + (i + 1) + 1 = k + 1 + i + 1 by omega] at this
      exact this
    refine ⟨env2, ?_, by rw [List.length_cons, show k + (ds.length + 1) = k + 1 + ds.length by omega]; exact h2⟩
    rw [forL, e1, pure_bind]
    exact e2
theorem rangeL_get {lo : Int} {n i : Nat} {d : DV} (h : (rangeL lo n)[i]? = some d) : i < n ∧ d = .int (lo + i) := by
  have hi : i < n := by have := (List.getElem?_eq_some_iff.mp h).1; simpa [rangeL] using this
  refine ⟨hi, ?_⟩
  simp [rangeL, hi] at h
  exact h.symm
theorem rangeL_len (lo : Int) (n : Nat) : (rangeL lo n).length = n := by simp [rangeL]
theorem forL_range {b : DV → DSx} (I : Nat → En → Prop) (lo : Int) (n : Nat) (env : En) (h : I 0 env) (hs : ∀ (i : Nat), i < n → ∀ env, I i env → ∃ env', b (.int (lo + i)) env = pure (.nx, env') ∧ I (i + 1) env') : ∃ env', forL b (rangeL lo n) env = pure (.nx, env') ∧ I n env' := by
  obtain ⟨env', e, h'⟩ := forL_nth I (rangeL lo n) 0 env h fun i d hd env hi => by
    obtain ⟨h1, rfl⟩ := rangeL_get hd
    rw [Nat.zero_add] at hi ⊢
    exact hs i h1 env hi
  exact ⟨env', e, by rw [rangeL_len, Nat.zero_add] at h'; exact h'⟩
/-- a comprehension over ints -/
theorem comp_ints {t : DV → M Bool} {f : DV → M DV} {p : Int → Bool} {g : Int → Int} (ht : ∀ x, t (.int x) = pure (p x)) (hf : ∀ x, f (.int x) = pure (.int (g x))) : ∀ ns : List Int, compD t f (ns.map .int) = pure (((ns.filter p).map g).map .int)
  | [] => rfl
  | n :: ns => by
    rw [List.map_cons, compD, ht, pure_bind]
    cases q : p n with
    | false =>
      rw [List.filter_cons_of_neg (by rw [q]; decide)]
      exact comp_ints ht hf ns
    | true =>
      rw [List.filter_cons_of_pos q]
      simp only [if_true, hf, pure_bind, comp_ints ht hf ns, List.map_cons]
theorem noRefs_ints : ∀ ns : List Int, noRefs (ns.map .int) = true
  | [] => rfl
  | _ :: r => by simp [noRefs, noRef, noRefs_ints r]
theorem toPs_ints : ∀ ns : List Int, toPs (ns.map .int) = ns.map .int
  | [] => rfl
  | _ :: r => by simp [toPs, toP, toPs_ints r]
theorem okP_int (i : Int) : okP (.int i) = true := by rfl
theorem okP_lstI (ns : List Int) : okP (.lst (ns.map .int)) = true := by
  simp only [okP, noRef, noRefs_ints, Bool.true_and, toP, toPs_ints]
  exact PySem.W.ke_shaped_ints ns
theorem okP_tupI (ns : List Int) : okP (.tup (ns.map .int)) = true := by
  simp [okP, noRef, noRefs_ints, toP, toPs_ints, SeqAt.shaped, PyData.canLay0, PyData.depth, PySem.W.ke_canLayAll0, PySem.W.ke_depthAll]
theorem eqv_int (i j : Int) : PyData.eqv (.int i) (.int j) = (i == j) := rfl
theorem eqvAll_ints : ∀ ns ms : List Int, PyData.eqvAll (ns.map .int) (ms.map .int) = decide (ns = ms)
  | [], [] => by simp [PyData.eqvAll]
  | [], _ :: _ => by simp [PyData.eqvAll]
  | _ :: _, [] => by simp [PyData.eqvAll]
  | a :: r, b :: t => by
    simp only [List.map_cons, PyData.eqvAll, PyData.eqv, eqvAll_ints r t]
    by_cases h : a = b <;> by_cases h' : r = t <;> simp [h, h']
theorem eqD_int (i j : Int) : eqD (.int i) (.int j) = pure (.bl (i == j)) := by
  simp only [eqD, okP_int, Bool.and_self, guardM, if_true, pure_bind, toP, eqv_int]
theorem neD_int (i j : Int) : neD (.int i) (.int j) = pure (.bl (!(i == j))) := by
  simp only [neD, okP_int, Bool.and_self, guardM, if_true, pure_bind, toP, eqv_int]
theorem neD_lstI (ns ms : List Int) : neD (.lst (ns.map .int)) (.lst (ms.map .int)) = pure (.bl (!decide (ns = ms))) := by
  simp only [neD, okP_lstI, Bool.and_self, guardM, if_true, pure_bind, toP, toPs_ints, PyData.eqv, eqvAll_ints]
theorem neD_nil (ns : List Int) : neD (.lst (ns.map .int)) (.lst []) = pure (.bl (!decide (ns = []))) := neD_lstI ns []
/-! items by place -/
theorem atI_lt {α : Type} {xs : List α} {i : Int} (h0 : 0 ≤ i) (h1 : i < xs.length) : atI xs i = xs[i.toNat]? := by
  unfold atI ixN
  rw [if_pos h0, if_pos h1]; rfl
theorem atI_int (ns : List Int) {i : Int} (h0 : 0 ≤ i) (h1 : i < ns.length) : atI (ns.map DV.int) i = some (.int (ns.getD i.toNat 0)) := by
  have hl : i.toNat < ns.length := by omega
  rw [atI_lt h0 (by simpa using h1), List.getElem?_map, List.getElem?_eq_getElem hl]
  simp [List.getD_eq_getElem?_getD, hl]
theorem atI_neg1 (ns : List Int) (h : ns ≠ []) : ∃ x, ns.getLast? = some x ∧ atI (ns.map DV.int) (-1) = some (.int x) := by
  obtain ⟨r, x, rfl⟩ : ∃ r x, ns = r ++ [x] := ⟨ns.dropLast, ns.getLast h, (List.dropLast_concat_getLast h).symm⟩
  refine ⟨x, by simp, ?_⟩
  rw [List.map_append]
  exact atI_last _ _
def opt : Option Int → DV
  | none => .non
  | some i => .int i
end D
namespace D
open PySem PySem.Spec PyProof.Rows L2
theorem forL_range0 {b : DV → DSx} (I : Nat → En → Prop) (n : Nat) (env : En) (h : I 0 env) (hs : ∀ (i : Nat), i < n → ∀ env, I i env → ∃ env', b (.int (i : Int)) env = pure (.nx, env') ∧ I (i + 1) env') : ∃ env', forL b (rangeL 0 n) env = pure (.nx, env') ∧ I n env' :=
  forL_range I 0 n env h fun i hi env h' => by rw [Int.zero_add]; exact hs i hi env h'
theorem modD_pos (x y : Int) (h : 0 < y) : modD (.int x) (.int y) = pure (.int (x % y)) := by simp [modD, int2, cMod, h]
theorem divD_pos (x y : Int) (h : 0 < y) (h' : y < 1073741824) : divD (.int x) (.int y) = pure (.int (x / y)) := by simp [divD, int2, cDiv, h, h']
theorem mulD_l (x y : Int) (h : -(2 ^ 64) < x) (h' : x < 2 ^ 64) : mulD (.int x) (.int y) = pure (.int (x * y)) := by
  simp only [mulD, int2, cMul, decide_eq_true (Or.inl (b := (-(2 ^ 64) < y ∧ y < 2 ^ 64)) (And.intro h h')), if_true]
theorem mulD_r (x y : Int) (h : -(2 ^ 64) < y) (h' : y < 2 ^ 64) : mulD (.int x) (.int y) = pure (.int (x * y)) := by
  simp only [mulD, int2, cMul, decide_eq_true (Or.inr (a := (-(2 ^ 64) < x ∧ x < 2 ^ 64)) (And.intro h h')), if_true]
theorem addD_int (x y : Int) : addD (.int x) (.int y) = pure (.int (x + y)) := rfl
theorem subD_int (x y : Int) : subD (.int x) (.int y) = pure (.int (x - y)) := rfl
theorem gtD_int (x y : Int) : gtD (.int x) (.int y) = pure (.bl (decide (y < x))) := rfl
theorem ltD_int (x y : Int) : ltD (.int x) (.int y) = pure (.bl (decide (x < y))) := rfl
theorem leD_int (x y : Int) : leD (.int x) (.int y) = pure (.bl (decide (x ≤ y))) := rfl
theorem geD_int (x y : Int) : geD (.int x) (.int y) = pure (.bl (decide (y ≤ x))) := rfl
theorem negD_int (x : Int) : negD (.int x) = pure (.int (-x)) := rfl
theorem pow30 : powD (.int 10) (.int 30) = pure (.int 1000000000000000000000000000000) := rfl
theorem pow21 : powD (.int 10) (.int 21) = pure (.int 1000000000000000000000) := rfl
theorem pow9 : powD (.int 10) (.int 9) = pure (.int 1000000000) := rfl
theorem small_ok {m : Int} (h0 : 0 ≤ m) (h1 : m ≤ 1000000) : smallI m = true := decide_eq_true ⟨by omega, by omega⟩
theorem lenF_lst (ds : List DV) : lenF [.lst ds] = pure (.int ds.length) := rfl
/-- one of two, three, four written items -/
theorem ix2 (a b : DV) (i : Int) (h : i = 0 ∨ i = 1) : ∃ d, ixD (.lst [a, b]) (.int i) = pure d ∧ (d = a ∨ d = b) := by
  rcases h with rfl | rfl
  · exact ⟨a, rfl, .inl rfl⟩
  · exact ⟨b, rfl, .inr rfl⟩
theorem ix3 (a b c : DV) (i : Int) (h : 0 ≤ i ∧ i < 3) : ∃ d, ixD (.lst [a, b, c]) (.int i) = pure d ∧ (d = a ∨ d = b ∨ d = c) := by
  have : i = 0 ∨ i = 1 ∨ i = 2 := by omega
  rcases this with rfl | rfl | rfl
  · exact ⟨a, rfl, .inl rfl⟩
  · exact ⟨b, rfl, .inr (.inl rfl)⟩
  · exact ⟨c, rfl, .inr (.inr rfl)⟩
theorem ix4 (a b c e : DV) (i : Int) (h : 0 ≤ i ∧ i < 4) : ∃ d, ixD (.lst [a, b, c, e]) (.int i) = pure d ∧ (d = a ∨ d = b ∨ d = c ∨ d = e) := by
  have : i = 0 ∨ i = 1 ∨ i = 2 ∨ i = 3 := by omega
  rcases this with rfl | rfl | rfl | rfl
  · exact ⟨a, rfl, .inl rfl⟩
  · exact ⟨b, rfl, .inr (.inl rfl)⟩
  · exact ⟨c, rfl, .inr (.inr (.inl rfl))⟩
  · exact ⟨e, rfl, .inr (.inr (.inr rfl))⟩
theorem mod_rng (x y : Int) (h : 0 < y) : 0 ≤ x % y ∧ x % y < y := ⟨Int.emod_nonneg _ (by omega), Int.emod_lt_of_pos _ h⟩
end D
namespace D
open PySem PySem.Spec PyProof.Rows L2
theorem sFor_range {f : DAx} {g : DGx} {body : DSx} {env : En} {m : Int} (hf : f env = pure [.int m]) (h0 : 0 ≤ m) (h1 : m ≤ 1000000) : sFor (iRg1 f) g body env = forL (fun d env => do let env' ← g d env; body env') (rangeL 0 m.toNat) env := by
  simp only [sFor, iRg1, hf, pure_bind, rng1, small_ok h0 h1, guardM, if_true]
theorem sFor_zip {f f' : DEx} {g : DGx} {body : DSx} {env : En} {ds es : List DV} (hf : f env = pure (.tup ds)) (hf' : f' env = pure (.tup es)) : sFor (iZip f f') g body env = forL (fun d env => do let env' ← g d env; body env') (zipL ds es) env := by
  simp only [sFor, iZip, hf, hf', pure_bind, tupD]
theorem short_ok' {ds : List DV} (h : ds.length ≤ 100000) : short ds = true := decide_eq_true h
theorem filter_all (ns : List Int) : ns.filter (fun _ => true) = ns := List.filter_eq_self.mpr fun _ _ => rfl
/-- [g(x) for x in ints if p(x)] -/
theorem eComp_ints {src : DIx} {idx : List Nat} {t : DTx} {f : DEx} {env : En} {ns : List Int} {p : Int → Bool} {g : Int → Int} (hs : src env = pure (ns.map .int)) (hl : ns.length ≤ 100000) (ht : ∀ x, t (cE idx env (.int x)) = pure (p x)) (hf : ∀ x, f (cE idx env (.int x)) = pure (.int (g x))) :
    eComp src idx t f env = pure (.lst (((ns.filter p).map g).map .int)) := by
  simp only [eComp, hs, pure_bind, short_ok' (show (ns.map DV.int).length ≤ 100000 by rw [List.length_map]; exact hl), guardM, if_true, comp_ints (t := fun d => t (cE idx env d)) (f := fun d => f (cE idx env d)) ht hf ns]
/-! step by step -/
theorem gN_bind {i : Nat} {d : DV} {env : En} {f : En → M (Fl × En)} : (gN i d env >>= f) = f (env.set i (.val d)) := by simp only [gN, pure_bind]
theorem sSeq_nx {f g : DSx} {env env1 : En} (h : f env = pure (.nx, env1)) : sSeq f g env = g env1 := by simp only [sSeq, h, pure_bind]
theorem sSeq_rt {f g : DSx} {env env1 : En} {d : DV} (h : f env = pure (.rt d, env1)) : sSeq f g env = pure (.rt d, env1) := by simp only [sSeq, h, pure_bind]
theorem sSet_eq {i : Nat} {f : DEx} {env : En} {d : DV} (h : f env = pure d) : sSet i f env = pure (.nx, env.set i (.val d)) := by simp only [sSet, h, pure_bind]
theorem sIf_t {c : DTx} {f g : DSx} {env : En} (h : c env = pure true) : sIf c f g env = f env := by simp only [sIf, h, pure_bind, if_true]
theorem sIf_f {c : DTx} {f g : DSx} {env : En} (h : c env = pure false) : sIf c f g env = g env := by simp only [sIf, h, pure_bind, Bool.false_eq_true, if_false]
theorem sRet_eq {f : DEx} {env : En} {d : DV} (h : f env = pure d) : sRet f env = pure (.rt d, env) := by simp only [sRet, h, pure_bind]
theorem runF_rt {n : Nat} {body : DSx} {ds : List DV} {d : DV} {env : En} (h : body (ds.map .val ++ List.replicate (n - ds.length) .un) = pure (.rt d, env)) : runF n body ds = pure d := by simp only [runF, h, pure_bind]
theorem eB_eq {f : DEx} {env : En} {b : Bool} (h : f env = pure (.bl b)) : eB f env = pure b := by simp only [eB, h, pure_bind, asB]
theorem eNot_eq {c : DTx} {env : En} {b : Bool} (h : c env = pure b) : eNot c env = pure (!b) := by simp only [eNot, h, pure_bind]
theorem eBin_eq {g : DV → DV → M DV} {f f' : DEx} {env : En} {x y d : DV} (h : f env = pure x) (h' : f' env = pure y) (hg : g x y = pure d) : eBin g f f' env = pure d := by simp only [eBin, h, h', pure_bind, hg]
theorem eCall2 {F : List DV → M DV} {f f' : DEx} {env : En} {x y d : DV} (h : f env = pure x) (h' : f' env = pure y) (hF : F [x, y] = pure d) : eCall 2 F (aCons f (aCons f' aNil)) env = pure d := by simp [eCall, aCons, aNil, h, h', guardM, hF]
theorem eCall3 {F : List DV → M DV} {f f' f'' : DEx} {env : En} {x y z d : DV} (h : f env = pure x) (h' : f' env = pure y) (h'' : f'' env = pure z) (hF : F [x, y, z] = pure d) : eCall 3 F (aCons f (aCons f' (aCons f'' aNil))) env = pure d := by simp [eCall, aCons, aNil, h, h', h'', guardM, hF]
end D

/-! ## the world: lists that are known by number -/
namespace D
open PySem PySem.Spec PyProof.Rows L2
section
variable {K : PySem.W.Frag} {ρ : List Addr} {B : Addr → Prop} {hp : Hs} {H : Hp}
theorem Gr.wnew {p : Addr} {o : HO} (h : H p = none) (kf : K.lookup p = none) : Gr K ρ B H (ρ ++ [p]) (banP B p) (upd H p o) where
  pre := List.prefix_append _ _
  ban := fun _ h => .inl h
  new := fun a z => z.elim .inl fun e => .inr (e ▸ ⟨h, kf⟩)
  rnew := fun a z => (List.mem_append.mp z).elim .inl fun q => .inr (by rw [List.mem_singleton.mp q]; exact h)
  keep := fun a u _ q => by rw [upd_ne (ne_of_none q h)]; exact q
  trk := (Gr.laid (K := K) (ρ := ρ) (B := B) h).trk
theorem WOk.wnew {p : Addr} {o : HO} {v : OV} (W : WOk K ρ B hp H) (h : H p = none) (kf : K.lookup p = none) (hv : ORep K (ρ ++ [p]) (banP B p) (upd H p o) p v) : WOk K (ρ ++ [p]) (banP B p) (hp ++ [v]) (upd H p o) where
  len := by simp [W.len]
  nd := List.nodup_append.mpr ⟨W.nd, by simp, fun a ha b hb => by rw [List.mem_singleton.mp hb]; exact fun z => W.bt a (W.rb a ha) (z ▸ h)⟩
  obj := fun i a u e q => by
    by_cases hi : i < ρ.length
    · rw [List.getElem?_append_left hi] at e
      rw [List.getElem?_append_left (by rw [← W.len]; exact hi)] at q
      exact ORep.gs ((Gr.wnew h kf).gs W.rb) (upd_ne (fun z => W.bt a (W.rb a (List.mem_of_getElem? e)) (z ▸ h))) (W.obj i a u e q)
    · rw [List.getElem?_append_right (by omega)] at e
      rw [List.getElem?_append_right (by rw [← W.len]; omega)] at q
      have hi0 : i - ρ.length = 0 := by
        have := (List.getElem?_eq_some_iff.mp e).1
        simp at this; omega
      rw [hi0] at e
      rw [← W.len, hi0] at q
      simp at e q
      subst e q
      exact hv
  rb := fun a z => (List.mem_append.mp z).elim (fun q => .inl (W.rb a q)) fun q => .inr (List.mem_singleton.mp q)
  bt := fun a z q => by
    have q' := (Gr.laid (K := K) (ρ := ρ) (B := B) h).trk a q
    rcases z with z | rfl
    · exact W.bt a z q'
    · rw [upd_same] at q; cases q
/-- a thing of the world is written -/
theorem Gr.wset {i : Nat} {a : Addr} {o o' : HO} (ha : ρ[i]? = some a) (h : H a = some o) : Gr K ρ B H ρ B (upd H a o') where
  pre := List.prefix_rfl
  ban := fun _ h => h
  new := fun _ h => .inl h
  rnew := fun _ h => .inl h
  keep := fun b u nb q => by rw [upd_ne (show b ≠ a from fun z => nb (by rw [z]; exact List.mem_of_getElem? ha))]; exact q
  trk := fun b q => by
    by_cases e : b = a
    · subst e; rw [upd_same] at q; cases q
    · rw [upd_ne e] at q; exact q
theorem WOk.wset {i : Nat} {a : Addr} {o o' : HO} {v : OV} (W : WOk K ρ B hp H) (ha : ρ[i]? = some a) (h : H a = some o) (hv : ORep K ρ B (upd H a o') a v) : WOk K ρ B (hp.set i v) (upd H a o') where
  len := by simp [W.len]
  nd := W.nd
  obj := fun j b u e q => by
    by_cases hj : j = i
    · subst hj
      rw [ha] at e; cases e
      have hl : j < hp.length := by rw [← W.len]; exact (List.getElem?_eq_some_iff.mp ha).1
      rw [List.getElem?_set_self hl] at q; cases q
      exact hv
    · rw [List.getElem?_set_ne (Ne.symm hj)] at q
      have hb : b ≠ a := fun z => hj (by
        subst z
        exact (List.getElem?_inj (List.getElem?_eq_some_iff.mp e).1 W.nd).mp (e.trans ha.symm))
      exact ORep.gs ((Gr.wset ha h).gs W.rb) (upd_ne hb) (W.obj j b u e q)
  rb := W.rb
  bt := fun b z q => W.bt b z ((Gr.wset (K := K) (B := B) ha h).trk b q)
end
section
variable {X : Cx} {e a b c : Expr} {f fa fb fc : DEx} {pos : Pos}
def allocW (o : OV) : M DV := fun h => some (.ref h.length, h ++ [o])
def getW (i : Nat) : M OV := fun h => match h[i]? with
  | some o => some (o, h)
  | none => none
def setW (i : Nat) (o : OV) : M Unit := fun h => some ((), h.set i o)
theorem getW_some {i : Nat} {o : OV} {hp hp' : Hs} (h : getW i hp = some (o, hp')) : hp[i]? = some o ∧ hp = hp' := by
  unfold getW at h
  cases q : hp[i]? with
  | none => rw [q] at h; cases h
  | some z => rw [q] at h; cases h; exact ⟨rfl, rfl⟩
theorem RepV.refW {K : PySem.W.Frag} {ρ : List Addr} {B : Addr → Prop} {H : Hp} {hp : Hs} {i : Nat} {o : OV} {v : V} (W : WOk K ρ B hp H) (r : RepV K ρ B H (.ref i) v) (h : hp[i]? = some o) : ∃ a, v = .ref a ∧ ρ[i]? = some a ∧ ORep K ρ B H a o := by
  obtain ⟨a, rfl, e⟩ := r.refI
  exact ⟨a, rfl, e, W.obj i a o e h⟩
def tupW : List DV → M DV
  | [.ref n] => do
    match ← getW n with
    | .lst ds => pure (.tup ds)
    | _ => failure
  | xs => tupF xs
theorem c_tupleW : CallR X (.type "tuple") (tPn X.K tupW) := by
  intro pins s σ H xs us Q I r h
  obtain ⟨ρ, B, hp, ds, d, hp', W, rl, e, k⟩ := h
  unfold tupW at e
  split at e
  · rename_i n
    obtain ⟨o, hp1, e1, e2⟩ := bind_some e
    obtain ⟨e3, rfl⟩ := getW_some e1
    cases o with
    | dic _ => cases e2
    | ins _ _ => cases e2
    | lst zs =>
      obtain ⟨rfl, rfl⟩ := pure_some e2
      obtain ⟨v, rfl, rv⟩ := rl.oneI
      obtain ⟨a, rfl, _, ys, h1, l1⟩ := RepV.refW W rv e3
      exact call_tuple_of pins s σ H _ us Q I r ⟨a, ys, rfl, .inl ⟨SqL.of h1, fol_tup W l1 k⟩⟩
  · exact c_tuple pins s σ H xs us Q I r ⟨ρ, B, hp, _, d, hp', W, rl, e, k⟩
end
end D
namespace D
open PySem PySem.Spec PyProof.Rows L2
/-- a def that calls itself, with no call left -/
theorem has_none {P : Program} {w : World} {K : PySem.W.Frag} {mg : Str → Option Value} {base : Heap} {x : Str} {stm : Stmt} {g : Addr} {fd : FuncData} {ps : List Str} {k : Nat} (F : Fun K x x stm g fd) (hm : mg x = some (.ref g))
    (hb : ∀ (kV doc pm : Value) (an : Option Addr) (cdv ct : Value) (us : List Value), us.length = ps.length → bindArgs (PySem.W.fnOf x x (defArgs stm) (defBody stm) (defScope stm) .none kV doc pm an cdv ct) ⟨us, []⟩ = pure (ps.zip us)) :
    Has P w K mg base x k ps.length (fun _ => failure) := by
  have no : ∀ vs H Q E, ¬ spD K ps.length (fun _ => failure) vs H Q E := fun vs H Q E h => by
    obtain ⟨_, ρ, B, hp, ds, d, hp', _, _, e, _⟩ := h
    cases e
  exact ⟨g, fd, ps, ⟨fun vs H Q E h => absurd h (no vs H Q E), fun A outer s H args us vs Q E _ _ _ _ h => absurd h (no vs H Q E)⟩, F.binds hb, F.kp, hm⟩
end D

/-! ## running with a world -/
namespace D
open PySem PySem.Spec PyProof.Rows L2
/-- it comes to x, whatever the world (which may grow) -/
def Runs {α : Type} (m : M α) (x : α) : Prop := ∀ hp, ∃ hp', m hp = some (x, hp')
theorem Runs.pure {α : Type} (x : α) : Runs (pure x : M α) x := fun hp => ⟨hp, rfl⟩
theorem Runs.of {α : Type} {m : M α} {x : α} (h : m = Pure.pure x) : Runs m x := h ▸ Runs.pure x
theorem Runs.bind {α β : Type} {m : M α} {k : α → M β} {x : α} {y : β} (h : Runs m x) (h' : Runs (k x) y) : Runs (m >>= k) y := fun hp => by
  obtain ⟨hp1, e1⟩ := h hp
  obtain ⟨hp2, e2⟩ := h' hp1
  refine ⟨hp2, ?_⟩
  show (m hp).bind (fun p => k p.1 p.2) = _
  rw [e1]; exact e2
section
variable {f g : DSx} {env env1 env2 : En} {c ca cb : DTx} {e fa fb : DEx} {d x y : DV} {r : Fl × En}
end
/-- steps at a world -/
theorem bind_at {α β : Type} {m : M α} {k : α → M β} {x : α} {hp hp1 : Hs} (h : m hp = some (x, hp1)) : (m >>= k) hp = k x hp1 := by
  show (m hp).bind (fun p => k p.1 p.2) = _
  rw [h]; rfl
theorem sSeq_at {f g : DSx} {env env1 : En} {hp hp1 : Hs} (h : f env hp = some ((.nx, env1), hp1)) : sSeq f g env hp = g env1 hp1 := bind_at h
theorem sSet_at {i : Nat} {f : DEx} {env : En} {d : DV} {hp hp1 : Hs} (h : f env hp = some (d, hp1)) : sSet i f env hp = some ((.nx, env.set i (.val d)), hp1) := bind_at h
theorem ixD_lst {ds : List DV} {i : Int} {d : DV} (h : atI ds i = some d) : ixD (.lst ds) (.int i) = pure d := by simp only [ixD, h]
/-! slices from the left and to the right -/
theorem cut_take (ds : List DV) (m : Nat) : D.cutD ds none (some (m : Int)) = ds.take m := by
  unfold D.cutD
  rw [HT.sIx_nat]
  show (ds.drop 0).take (min m ds.length - 0) = ds.take m
  simp
theorem cut_drop (ds : List DV) (m : Nat) : D.cutD ds (some (m : Int)) none = ds.drop m := by
  unfold D.cutD
  rw [HT.sIx_nat]
  show (ds.drop (min m ds.length)).take (ds.length - min m ds.length) = ds.drop m
  rcases Nat.le_total m ds.length with h | h
  · rw [Nat.min_eq_left h, List.take_of_length_le (by simp)]
  · rw [Nat.min_eq_right h, List.drop_of_length_le h, List.drop_of_length_le (Nat.le_refl _)]
    simp
theorem slD_take (ds : List DV) (m : Nat) : slD (.tup ds) none (some (m : Int)) = pure (.tup (ds.take m)) := by rw [← cut_take]; rfl
theorem slD_drop (ds : List DV) (m : Nat) : slD (.tup ds) (some (m : Int)) none = pure (.tup (ds.drop m)) := by rw [← cut_drop]; rfl
end D

/-! ## the world at large: dicts and lists known by number -/
namespace L2
open PySem PySem.Spec PyProof.Rows
section
variable {X : Cx}
def rIxD : R2 := fun x y H Q => ∃ a kvs k v, x = .ref a ∧ y = kV k ∧ H a = some (.dK kvs) ∧ valV kvs k = some v ∧ Q v H
theorem ix_dict (hu : X.A.units + 1 < cLine) : IxR X rIxD := by
  intro value slice pins s σ H x y v u Q I rx ry h hs
  obtain ⟨a, kvs, k, z, rfl, rfl, hH, hv, q⟩ := h
  cases rx
  have g : DGet H a (kV k) (some z) := hv ▸ DGet.k hH
  exact tail_any (dict_typeIs I g) PySem.F.slot_dict_getitem.lookup (d_getItem hu I g ry fun w' s' I' rw' => ⟨z, H, I', rw', q⟩) hs
def rSetD : V → V → V → Hp → (Hp → Prop) → Prop := fun o i v H Q => ∃ a kvs k, o = .ref a ∧ i = kV k ∧ H a = some (.dK kvs) ∧ kvs.length < sizeLine ∧ Q (upd H a (.dK (putK kvs k v)))
theorem set_dict (hu : X.A.units + 1 < cLine) : PSet X rSetD := fun pins s σ H o i v ov iv u Q I ro ri rv h => by
  obtain ⟨a, kvs, k, rfl, rfl, hH, hl, q⟩ := h
  cases ro
  exact d_setItem hu I (DPut.k hH hl) ri rv fun s' I' => ⟨_, I', q⟩
def rDPop : V → List V → Hp → VK → Prop := fun x vs H Q => ∃ a kvs k, x = .ref a ∧ H a = some (.dK kvs) ∧ ((vs = [kV k] ∧ ∃ v, valV kvs k = some v ∧ Q v (upd H a (.dK (dropK kvs k)))) ∨
  ∃ z, vs = [kV k, z] ∧ (∀ v, valV kvs k = some v → Q v (upd H a (.dK (dropK kvs k)))) ∧ (valV kvs k = none → Q z H))
theorem mt_dpop : MtR X "dict.pop" rDPop := by
  intro pins s σ H x vs v us Q I rx rv h
  obtain ⟨a, kvs, k, rfl, hH, h⟩ := h
  cases rx
  rcases h with ⟨rfl, w, hw, q⟩ | ⟨z, rfl, q1, q2⟩
  · obtain ⟨u, rfl, ru⟩ := vals1 rv
    exact d_pop I hH ru hw (.inl rfl) fun w' s' I' rw' => ⟨w, _, I', rw', q⟩
  · obtain ⟨u, u2, rfl, ru, ru2⟩ := vals2 rv
    cases l : valV kvs k with
    | some w => exact d_pop I hH ru l (.inr ⟨u2, rfl⟩) fun w' s' I' rw' => ⟨w, _, I', rw', q1 w l⟩
    | none => exact d_popD I hH ru l fun s' I' => ⟨z, H, I', ru2, q2 l⟩
end
end L2
namespace D
open PySem PySem.Spec PyProof.Rows L2
/-! ### dicts as data -/
def dkey : DV → Option Key
  | .int i => some (.inl i)
  | .str x => some (.inr x)
  | _ => none
def valD (kvs : List (Key × DV)) (k : Key) : Option DV := (kvs.find? fun kv => decide (kv.1 = k)).map (·.2)
def putD (kvs : List (Key × DV)) (k : Key) (d : DV) : List (Key × DV) :=
  if (kvs.any fun kv => decide (kv.1 = k)) = true then kvs.map (fun kv => if kv.1 = k then (kv.1, d) else kv) else kvs ++ [(k, d)]
def dropD (kvs : List (Key × DV)) (k : Key) : List (Key × DV) := kvs.filter fun kv => decide (kv.1 ≠ k)
section
variable {K : PySem.W.Frag} {ρ : List Addr} {B : Addr → Prop} {H : Hp} {hp : Hs}
theorem dkey_rep {d : DV} {k : Key} {v : V} (h : dkey d = some k) (r : RepV K ρ B H d v) : v = kV k := by
  cases d <;> simp [dkey] at h <;> subst h
  · exact r.intI
  · exact r.strI
abbrev RepK (K : PySem.W.Frag) (ρ : List Addr) (B : Addr → Prop) (H : Hp) : List (Key × DV) → List (Key × V) → Prop := Paired fun p q => p.1 = q.1 ∧ RepV K ρ B H p.2 q.2
theorem repK_of : ∀ {kvs : List (Key × DV)} {xs : List (Key × V)}, xs.map (·.1) = kvs.map (·.1) → RepL K ρ B H (kvs.map (·.2)) (xs.map (·.2)) → RepK K ρ B H kvs xs
  | [], [], _, _ => .nil
  | [], _ :: _, e, _ => by simp at e
  | _ :: _, [], e, _ => by simp at e
  | p :: kvs, q :: xs, e, r => by
    simp only [List.map_cons, List.cons.injEq] at e
    simp only [List.map_cons] at r
    unfold RepL at r
    obtain ⟨x, t, e2, h1, h2⟩ := r
    simp only [List.cons.injEq] at e2
    obtain ⟨rfl, rfl⟩ := e2
    exact .cons ⟨e.1.symm, h1⟩ (repK_of e.2 h2)
theorem RepK.to {kvs : List (Key × DV)} {xs : List (Key × V)} (r : RepK K ρ B H kvs xs) : xs.map (·.1) = kvs.map (·.1) ∧ RepL K ρ B H (kvs.map (·.2)) (xs.map (·.2)) := by
  induction r with
  | nil => exact ⟨rfl, RepL.nil⟩
  | cons h _ ih => exact ⟨by simp [ih.1, h.1], by simpa using RepL.cons h.2 ih.2⟩
theorem RepK.val {kvs : List (Key × DV)} {xs : List (Key × V)} (r : RepK K ρ B H kvs xs) (k : Key) : (valD kvs k = none ∧ valV xs k = none) ∨ ∃ d v, valD kvs k = some d ∧ valV xs k = some v ∧ RepV K ρ B H d v := by
  induction r with
  | nil => exact .inl ⟨rfl, rfl⟩
  | @cons p q _ _ h _ ih =>
    by_cases e : p.1 = k
    · exact .inr ⟨p.2, q.2, by simp [valD, List.find?_cons, e], by simp [valV, List.find?_cons, h.1 ▸ e], h.2⟩
    · have e' : ¬ q.1 = k := h.1 ▸ e
      simpa [valD, valV, List.find?_cons, e, e'] using ih
theorem RepK.any {kvs : List (Key × DV)} {xs : List (Key × V)} (r : RepK K ρ B H kvs xs) (k : Key) : (kvs.any fun kv => decide (kv.1 = k)) = xs.any fun kv => decide (kv.1 = k) := by
  induction r with
  | nil => rfl
  | cons h _ ih => simp only [List.any_cons, ih, h.1]
theorem RepK.repl {kvs : List (Key × DV)} {xs : List (Key × V)} (r : RepK K ρ B H kvs xs) (k : Key) {d : DV} {v : V} (rd : RepV K ρ B H d v) : RepK K ρ B H (kvs.map fun kv => if kv.1 = k then (kv.1, d) else kv) (xs.map fun kv => if kv.1 = k then (kv.1, v) else kv) := by
  induction r with
  | nil => exact .nil
  | @cons p q _ _ h _ ih =>
    refine .cons ?_ ih
    dsimp only
    by_cases e : p.1 = k
    · rw [if_pos e, if_pos (h.1 ▸ e)]; exact ⟨h.1, rd⟩
    · rw [if_neg e, if_neg (h.1 ▸ e)]; exact h
theorem RepK.snoc {kvs : List (Key × DV)} {xs : List (Key × V)} (r : RepK K ρ B H kvs xs) {k : Key} {d : DV} {v : V} (rd : RepV K ρ B H d v) : RepK K ρ B H (kvs ++ [(k, d)]) (xs ++ [(k, v)]) := by
  induction r with
  | nil => exact .cons ⟨rfl, rd⟩ .nil
  | cons h _ ih => exact .cons h ih
theorem RepK.put {kvs : List (Key × DV)} {xs : List (Key × V)} (r : RepK K ρ B H kvs xs) (k : Key) {d : DV} {v : V} (rd : RepV K ρ B H d v) : RepK K ρ B H (putD kvs k d) (putK xs k v) := by
  unfold putD putK
  rw [r.any k]
  split
  · exact r.repl k rd
  · exact r.snoc rd
theorem RepK.drop {kvs : List (Key × DV)} {xs : List (Key × V)} (r : RepK K ρ B H kvs xs) (k : Key) : RepK K ρ B H (dropD kvs k) (dropK xs k) := by
  induction r with
  | nil => exact .nil
  | @cons p q _ _ h _ ih =>
    unfold dropD dropK at ih ⊢
    by_cases e : p.1 = k
    · have e' : q.1 = k := h.1 ▸ e
      simpa [e, e'] using ih
    · have e' : ¬ q.1 = k := h.1 ▸ e
      rw [List.filter_cons_of_pos (by simpa using e), List.filter_cons_of_pos (by simpa using e')]; exact .cons h ih
theorem RepK.len {kvs : List (Key × DV)} {xs : List (Key × V)} (r : RepK K ρ B H kvs xs) : kvs.length = xs.length := Paired.length r
theorem RepK.gs {ρ' : List Addr} {B' : Addr → Prop} {H' : Hp} {kvs : List (Key × DV)} {xs : List (Key × V)} (g : Gs K ρ B H ρ' B' H') (r : RepK K ρ B H kvs xs) : RepK K ρ' B' H' kvs xs := L2.Paired.mapP r fun _ _ h => ⟨h.1, RepV.gs g _ _ h.2⟩
theorem ORep.dic {a : Addr} {kvs : List (Key × DV)} (h : ORep K ρ B H a (.dic kvs)) : ∃ xs, H a = some (.dK xs) ∧ RepK K ρ B H kvs xs := by
  obtain ⟨xs, e, ek, rl⟩ := h
  exact ⟨xs, e, repK_of ek rl⟩
theorem RepK.orep {a : Addr} {kvs : List (Key × DV)} {xs : List (Key × V)} (r : RepK K ρ B H kvs xs) (e : H a = some (.dK xs)) : ORep K ρ B H a (.dic kvs) := ⟨xs, e, r.to.1, r.to.2⟩
/-- a dict of the world is written -/
theorem wset_dic {n : Nat} {a : Addr} {xs xs' : List (Key × V)} {kvs' : List (Key × DV)} (W : WOk K ρ B hp H) (i : ρ[n]? = some a) (e : H a = some (.dK xs)) (r : RepK K ρ B H kvs' xs') : Gr K ρ B H ρ B (upd H a (.dK xs')) ∧ WOk K ρ B (hp.set n (.dic kvs')) (upd H a (.dK xs')) := by
  have g : Gr K ρ B H ρ B (upd H a (.dK xs')) := Gr.wset i e
  exact ⟨g, W.wset (o' := .dK xs') (v := .dic kvs') i e ((r.gs (g.gs W.rb)).orep upd_same)⟩
theorem wset_lst {n : Nat} {a : Addr} {o : HO} {xs' : List V} {ds' : List DV} (W : WOk K ρ B hp H) (i : ρ[n]? = some a) (e : H a = some o) (r : RepL K ρ B H ds' xs') : Gr K ρ B H ρ B (upd H a (.lst xs')) ∧ WOk K ρ B (hp.set n (.lst ds')) (upd H a (.lst xs')) := by
  have g : Gr K ρ B H ρ B (upd H a (.lst xs')) := Gr.wset i e
  exact ⟨g, W.wset (o' := .lst xs') (v := .lst ds') i e ⟨xs', upd_same, RepL.grow W.rb g _ _ r⟩⟩
end
section
variable {X : Cx} {e a b c : Expr} {f fa fb fc : DEx} {pos : Pos}
def optM (o : Option DV) : M DV := match o with
  | some d => pure d
  | none => failure
theorem optM_some {o : Option DV} {d : DV} {hp hp' : Hs} (h : optM o hp = some (d, hp')) : o = some d ∧ hp = hp' := by
  cases o with
  | none => cases h
  | some z => obtain ⟨rfl, rfl⟩ := pure_some h; exact ⟨rfl, rfl⟩
def keyM (d : DV) : M Key := match dkey d with
  | some k => pure k
  | none => failure
theorem keyM_some {d : DV} {k : Key} {hp hp' : Hs} (h : keyM d hp = some (k, hp')) : dkey d = some k ∧ hp = hp' := by
  unfold keyM at h
  cases q : dkey d with
  | none => rw [q] at h; cases h
  | some z => rw [q] at h; obtain ⟨rfl, rfl⟩ := pure_some h; exact ⟨rfl, rfl⟩
/-- x[y], x data or of the world -/
def ixG : DV → DV → M DV
  | .ref n, y => do
    match ← getW n with
    | .lst ds => do let i ← asI y; optM (atI ds i)
    | .dic kvs => do let k ← keyM y; optM (valD kvs k)
    | _ => failure
  | x, y => ixD x y
theorem p_ixG (hu : X.A.units + 1 < cLine) : IxR X (tP2 X.K ixG) := by
  intro value slice pins s σ H x y v u Q I rx ry h hsub
  obtain ⟨ρ, B, hp, dx, dy, d, hp', W, r1, r2, e, k⟩ := h
  unfold ixG at e
  split at e
  · rename_i n
    obtain ⟨o, hp1, e1, e2⟩ := bind_some e
    obtain ⟨e3, rfl⟩ := getW_some e1
    obtain ⟨a, rfl, i1, ro⟩ := RepV.refW W r1 e3
    cases o with
    | ins _ _ => cases e2
    | dic kvs =>
      obtain ⟨ky, hp2, e4, e5⟩ := bind_some e2
      obtain ⟨hk, rfl⟩ := keyM_some e4
      obtain ⟨hv, rfl⟩ := optM_some e5
      obtain ⟨xs, h1, rk⟩ := ro.dic
      rcases rk.val ky with ⟨z, _⟩ | ⟨d', v', z, zv, rz⟩
      · rw [hv] at z; cases z
      · rw [hv] at z; cases z
        exact ix_dict hu value slice pins s σ H _ _ v u Q I rx ry ⟨a, xs, ky, v', rfl, dkey_rep hk r2, h1, zv, k _ ρ B H Gr.refl W rz⟩ hsub
    | lst ds =>
      obtain ⟨i, hp2, e4, e5⟩ := bind_some e2
      obtain ⟨rfl, rfl⟩ := asI_some e4
      obtain ⟨hv, rfl⟩ := optM_some e5
      obtain ⟨xs, h1, l1⟩ := ro
      obtain ⟨z, hz, rz⟩ := atI_rep l1 hv
      exact ix_list value slice pins s σ H _ _ v u Q I rx ry ⟨a, xs, i, z, rfl, r2.intI, SqL.of h1, hz, k _ ρ B H Gr.refl W rz⟩ hsub
  · exact p_ix value slice pins s σ H x y v u Q I rx ry ⟨ρ, B, hp, _, _, d, hp', W, r1, r2, e, k⟩ hsub
theorem de_ixG (hu : X.A.units + 1 < cLine) (ha : DE X a fa) (hb : DE X b fb) (hs : PlainIx b := by intro _ _; rfl) : DE X (.Subscript a b pos) (eBin ixG fa fb) := L2.PE.imp (pe_ix (p_ixG hu) ha hb hs) fun _ _ _ h => eBin_imp h
def lenG : List DV → M DV
  | [.ref n] => do
    match ← getW n with
    | .lst ds => pure (.int ds.length)
    | .dic kvs => pure (.int kvs.length)
    | _ => failure
  | xs => lenF xs
theorem c_lenG : CallR X (.builtin "len") (tPn X.K lenG) := by
  intro pins s σ H xs us Q I r h
  obtain ⟨ρ, B, hp, ds, d, hp', W, rl, e, k⟩ := h
  unfold lenG at e
  split at e
  · rename_i n
    obtain ⟨o, hp1, e1, e2⟩ := bind_some e
    obtain ⟨e3, rfl⟩ := getW_some e1
    obtain ⟨v, rfl, rv⟩ := rl.oneI
    obtain ⟨a, rfl, _, ro⟩ := RepV.refW W rv e3
    cases o with
    | ins _ _ => cases e2
    | lst zs =>
      obtain ⟨rfl, rfl⟩ := pure_some e2
      obtain ⟨ys, h1, l1⟩ := ro
      exact call_len_seq pins s σ H _ us Q I r ⟨a, ys, rfl, .inl (SqL.of h1), by rw [← l1.length]; exact k _ ρ B H Gr.refl W rep_int⟩
    | dic kvs =>
      obtain ⟨rfl, rfl⟩ := pure_some e2
      obtain ⟨ys, h1, l1⟩ := ro.dic
      exact call_lenD pins s σ H _ us Q I r ⟨a, ys, rfl, h1, by rw [← l1.len]; exact k _ ρ B H Gr.refl W rep_int⟩
  · exact c_len pins s σ H xs us Q I r ⟨ρ, B, hp, _, d, hp', W, rl, e, k⟩
def one1 (g : DV → M DV) : List DV → M DV
  | [d] => g d
  | _ => failure
theorem one1_some {g : DV → M DV} {ds : List DV} {d : DV} {hp hp' : Hs} (h : one1 g ds hp = some (d, hp')) : ∃ x, ds = [x] ∧ g x hp = some (d, hp') := by
  unfold one1 at h
  split at h
  · exact ⟨_, rfl, h⟩
  · cases h
theorem _root_.L2.CallR.kf {f : Value} {r : List V → Hp → VK → Prop} (h : CallR X f r) : CallR X f (fun xs H Q => r xs H fun v H' => KFree X.K H' → Q v H') := by
  intro pins s σ H xs us Q I rv q
  refine thn (h pins s σ H xs us _ I rv q) fun v s' ⟨x, H', I', rx, q'⟩ => ⟨x, H', I', rx, q' (Inv.kfree I')⟩
end
end D

namespace D
open PySem PySem.Spec PyProof.Rows L2
/-! ### == through the world -/
def drf : Nat → Hs → DV → Option DV
  | 0, _, _ => none
  | n + 1, hp, d => match d with
    | .ref i => match hp[i]? with
      | some (.lst ds) => (ds.mapM (drf n hp)).map .lst
      | _ => none
    | .tup ds => (ds.mapM (drf n hp)).map .tup
    | .lst ds => (ds.mapM (drf n hp)).map .lst
    | d => some d
theorem mapM_cons_some {α β : Type} {f : α → Option β} {x : α} {xs : List α} {ys : List β} (h : (x :: xs).mapM f = some ys) : ∃ y zs, f x = some y ∧ xs.mapM f = some zs ∧ ys = y :: zs := by
  rw [List.mapM_cons] at h
  cases q : f x with
  | none => rw [q] at h; cases h
  | some y =>
    cases q2 : xs.mapM f with
    | none => rw [q, q2] at h; cases h
    | some zs => rw [q, q2] at h; exact ⟨y, zs, rfl, rfl, (Option.some.inj h).symm⟩
section
variable {X : Cx} {pins : List (Addr × Obj)} {σ : St} {H : Hp} {s : Shared} {ρ : List Addr} {B : Addr → Prop} {hp : Hs}
theorem reads_drf (I : Inv X pins σ H s) (W : WOk X.K ρ B hp H) : ∀ (n : Nat) (d d' : DV) (v : V) (u : Value), drf n hp d = some d' → RepV X.K ρ B H d v → RelV v u → ∃ as, Reads s.heap u (toP d') as
  | 0, _, _, _, _, h, _, _ => by cases h
  | n + 1, d, d', v, u, h, r, ru => by
    have all : ∀ (ds ds' : List DV) (xs : List V) (us : List Value), ds.mapM (drf n hp) = some ds' → RepL X.K ρ B H ds xs → Vals xs us → ∃ as, ReadsAll s.heap us (toPs ds') as := by
      intro ds
      induction ds with
      | nil =>
        intro ds' xs us h r ru
        rw [List.mapM_nil] at h; cases h
        unfold RepL at r; subst r; cases ru
        exact ⟨[], by unfold toPs; exact .nil⟩
      | cons x ds ih =>
        intro ds' xs us h r ru
        obtain ⟨y, zs, h1, h2, rfl⟩ := mapM_cons_some h
        unfold RepL at r
        obtain ⟨z, t, rfl, r1, r2⟩ := r
        cases ru with
        | cons q1 q2 =>
          obtain ⟨as, a1⟩ := reads_drf I W n x y z _ h1 r1 q1
          obtain ⟨bs, a2⟩ := ih zs t _ h2 r2 q2
          exact ⟨_, by unfold toPs; exact .cons a1 a2⟩
    have lst : ∀ (ds ds' : List DV) (a : Addr) (xs : List V), ds.mapM (drf n hp) = some ds' → SqL X.K H a xs → RepL X.K ρ B H ds xs → ∃ as, Reads s.heap (.ref a) (toP (.lst ds')) as := by
      intro ds ds' a xs h sq rl
      obtain ⟨its, rv, ⟨o, k, e, hc, _, hd⟩, _⟩ := I.list sq
      obtain ⟨as, q⟩ := all ds ds' xs its h rl rv
      exact ⟨_, by unfold toP; exact reads_list_at e hc hd (by simpa using q)⟩
    unfold drf at h
    cases d with
    | non => cases h; obtain rfl := r.nonI; cases ru; exact ⟨[], by unfold toP; exact .none⟩
    | bl b => cases h; obtain rfl := r.blI; cases ru; exact ⟨[], by unfold toP; exact .bool b⟩
    | int i => cases h; obtain rfl := r.intI; obtain ⟨t, rfl⟩ := ru; exact ⟨[], by unfold toP; exact .int i t⟩
    | str x => cases h; obtain rfl := r.strI; obtain ⟨t, rfl⟩ := ru; exact ⟨[], by unfold toP; exact .str x t⟩
    | tup ds =>
      obtain ⟨ds', h1, rfl⟩ := Option.map_eq_some_iff.mp h
      obtain ⟨a, xs, rfl, _, sq, rl⟩ := r.tupI
      cases ru
      obtain ⟨its, rv, ⟨o, e, hc, k, hd⟩, _⟩ := I.tuple sq
      obtain ⟨as, q⟩ := all ds ds' xs its h1 rl rv
      exact ⟨_, by unfold toP; exact reads_tuple_at e hc hd (by simpa using q)⟩
    | lst ds =>
      obtain ⟨ds', h1, rfl⟩ := Option.map_eq_some_iff.mp h
      obtain ⟨a, xs, rfl, _, sq, rl⟩ := r.lstI
      cases ru
      exact lst ds ds' a xs h1 sq rl
    | ref i =>
      cases q : hp[i]? with
      | none => simp only [q] at h; cases h
      | some o =>
        simp only [q] at h
        cases o with
        | dic _ => cases h
        | ins _ _ => cases h
        | lst ds =>
          obtain ⟨ds', h1, rfl⟩ := Option.map_eq_some_iff.mp h
          obtain ⟨a, rfl, _, xs, h2, l⟩ := RepV.refW W r q
          cases ru
          exact lst ds ds' a xs h1 (SqL.of h2) l
end
def drfM (d : DV) : M DV := fun hp => (drf 40 hp d).map fun x => (x, hp)
theorem drfM_some {d d' : DV} {hp hp' : Hs} (h : drfM d hp = some (d', hp')) : drf 40 hp d = some d' ∧ hp = hp' := by
  obtain ⟨x, h1, h2⟩ := Option.map_eq_some_iff.mp h
  cases h2; exact ⟨h1, rfl⟩
def eqvG (x y : DV) : M Bool := do
  let x' ← drfM x
  let y' ← drfM y
  guardM (SeqAt.shaped (toP x') && SeqAt.shaped (toP y'))
  pure (PyData.eqv (toP x') (toP y'))
def eqG : DV → DV → M DV := fun x y => do let b ← eqvG x y; pure (.bl b)
def neG : DV → DV → M DV := fun x y => do let b ← eqvG x y; pure (.bl (!b))
section
variable {X : Cx} {e a b c : Expr} {f fa fb fc : DEx} {ca cb : DTx} {pos : Pos}
theorem eqvG_some {x y : DV} {k : Bool} {hp hp' : Hs} (h : eqvG x y hp = some (k, hp')) : ∃ x' y', drf 40 hp x = some x' ∧ drf 40 hp y = some y' ∧ SeqAt.shaped (toP x') = true ∧ SeqAt.shaped (toP y') = true ∧ k = PyData.eqv (toP x') (toP y') ∧ hp = hp' := by
  obtain ⟨x', hp1, e1, h⟩ := bind_some h
  obtain ⟨y', hp2, e2, h⟩ := bind_some h
  obtain ⟨_, hp3, e3, h⟩ := bind_some h
  obtain ⟨q1, rfl⟩ := drfM_some e1
  obtain ⟨q2, rfl⟩ := drfM_some e2
  obtain ⟨hs, rfl⟩ := guardM_some e3
  obtain ⟨rfl, rfl⟩ := pure_some h
  rw [Bool.and_eq_true] at hs
  exact ⟨x', y', q1, q2, hs.1, hs.2, rfl, rfl⟩
theorem p_eqG (hu : X.A.units + 64 < cLine) : P2 X (compareOp .Eq) eqG := by
  intro pins s σ H x y v u Q I rx ry h
  obtain ⟨ρ, B, hp, dx, dy, d, hp', W, r1, r2, e, k⟩ := h
  obtain ⟨b, hp1, e1, e2⟩ := bind_some e
  obtain ⟨rfl, rfl⟩ := pure_some e2
  obtain ⟨x', y', q1, q2, s1, s2, rfl, rfl⟩ := eqvG_some e1
  obtain ⟨as, a1⟩ := reads_drf I W _ _ _ _ _ q1 r1 rx
  obtain ⟨bs, a2⟩ := reads_drf I W _ _ _ _ _ q2 r2 ry
  exact eq_dataH a1 a2 s1 s2 hu ⟨.bl _, H, I, rfl, k _ ρ B H Gr.refl W rep_bl⟩
theorem p_neG (hu : X.A.units + 64 < cLine) : P2 X (compareOp .NotEq) neG := by
  intro pins s σ H x y v u Q I rx ry h
  obtain ⟨ρ, B, hp, dx, dy, d, hp', W, r1, r2, e, k⟩ := h
  obtain ⟨b, hp1, e1, e2⟩ := bind_some e
  obtain ⟨rfl, rfl⟩ := pure_some e2
  obtain ⟨x', y', q1, q2, s1, s2, rfl, rfl⟩ := eqvG_some e1
  obtain ⟨as, a1⟩ := reads_drf I W _ _ _ _ _ q1 r1 rx
  obtain ⟨bs, a2⟩ := reads_drf I W _ _ _ _ _ q2 r2 ry
  exact ne_dataH a1 a2 s1 s2 hu ⟨.bl _, H, I, rfl, k _ ρ B H Gr.refl W rep_bl⟩
/-! ### o[i] = v -/
def putG (o i d : DV) : M Unit := match o with
  | .ref n => do
    match ← getW n with
    | .lst ds => do
      let k ← asI i
      match ixN ds.length k with
      | some j => setW n (.lst (ds.set j d))
      | none => failure
    | .dic kvs => do
      let k ← keyM i
      guardM (decide (kvs.length < lim))
      setW n (.dic (putD kvs k d))
    | _ => failure
  | _ => failure
def tP3 (K : PySem.W.Frag) (g : DV → DV → DV → M Unit) : TSet := fun o i v H Q => ∃ ρ B hp dO di dv hp', WOk K ρ B hp H ∧ RepV K ρ B H dO o ∧ RepV K ρ B H di i ∧ RepV K ρ B H dv v ∧ g dO di dv hp = some ((), hp') ∧ ∀ ρ' B' H', Gr K ρ B H ρ' B' H' → WOk K ρ' B' hp' H' → Q H'
theorem RepL.set {K : PySem.W.Frag} {ρ : List Addr} {B : Addr → Prop} {H : Hp} {d : DV} {x : V} (r : RepV K ρ B H d x) : ∀ {ds : List DV} {xs : List V} (i : Nat), RepL K ρ B H ds xs → RepL K ρ B H (ds.set i d) (xs.set i x)
  | [], _, i, h => by unfold RepL at h; subst h; exact RepL.nil
  | _ :: ds, _, 0, h => by
    unfold RepL at h
    obtain ⟨y, t, rfl, _, h2⟩ := h
    exact RepL.cons r h2
  | _ :: ds, _, i + 1, h => by
    unfold RepL at h
    obtain ⟨y, t, rfl, h1, h2⟩ := h
    exact RepL.cons h1 (RepL.set r i h2)
theorem p_put (hu : X.A.units + 1 < cLine) : PSet X (tP3 X.K putG) := by
  intro pins s σ H o i v ov iv u Q I ro ri rv h
  obtain ⟨ρ, B, hp, dO, di, dv, hp', W, r1, r2, r3, e, k⟩ := h
  cases dO with
  | ref n =>
    obtain ⟨ob, hp1, e1, e2⟩ := bind_some e
    obtain ⟨e3, rfl⟩ := getW_some e1
    obtain ⟨a, rfl, i1, rob⟩ := RepV.refW W r1 e3
    cases ob with
    | ins _ _ => cases e2
    | lst ds =>
      obtain ⟨j, hp2, e4, e5⟩ := bind_some e2
      obtain ⟨rfl, rfl⟩ := asI_some e4
      obtain ⟨xs, h1, l1⟩ := rob
      cases q : ixN ds.length j with
      | none => simp only [q] at e5; cases e5
      | some m =>
        simp only [q] at e5
        cases e5
        obtain ⟨g, W'⟩ := wset_lst W i1 h1 (RepL.set r3 m l1)
        exact set_list pins s σ H _ _ v ov iv u Q I ro ri rv ⟨a, xs, j, m, rfl, r2.intI, h1, by rw [← l1.length]; exact q, k ρ B _ g W'⟩
    | dic kvs =>
      obtain ⟨ky, hp2, e4, e5⟩ := bind_some e2
      obtain ⟨hk, rfl⟩ := keyM_some e4
      obtain ⟨_, hp3, e6, e7⟩ := bind_some e5
      obtain ⟨hl, rfl⟩ := guardM_some e6
      cases e7
      obtain ⟨xs, h1, rk⟩ := rob.dic
      obtain ⟨g, W'⟩ := wset_dic W i1 h1 (rk.put ky r3)
      exact set_dict hu pins s σ H _ _ v ov iv u Q I ro ri rv ⟨a, xs, ky, rfl, dkey_rep hk r2, h1, by rw [← rk.len]; exact Nat.lt_of_lt_of_le (of_decide_eq_true hl) lim_le, k ρ B _ g W'⟩
  | non => cases e
  | bl _ => cases e
  | int _ => cases e
  | str _ => cases e
  | tup _ => cases e
  | lst _ => cases e
def gSb (f g : DEx) : DGx := fun d env => do
  let o ← f env
  let i ← g env
  putG o i d
  pure env
theorem dg_sub {o i : Expr} {fo fi : DEx} (hu : X.A.units + 1 < cLine) (ho : DE X o fo) (hi : DE X i fi)
    (ha : ∀ v, assign (.Subscript o i pos) X.env v = (do
      let ov ← holding [v] (eval o X.env)
      let iv ← holding [v, ov] (eval i X.env)
      standAt pos
      holding [v, ov, iv] (setItem ov iv v)
      release [v, ov, iv] []) := by intro _; rfl) : PG X (.Subscript o i pos) (tDG X.K (gSb fo fi)) := by
  intro pins s σ H v u Q I r h
  refine pg_sub ho hi (p_put hu) ha pins s σ H v u Q I r ?_
  obtain ⟨Z, env, ρ, B, hp, d, env', hp', S, rd, e, k⟩ := h
  obtain ⟨x, hp1, e1, e⟩ := bind_some e
  obtain ⟨y, hp2, e2, e⟩ := bind_some e
  obtain ⟨z, hp3, e3, e⟩ := bind_some e
  obtain ⟨rfl, rfl⟩ := pure_some e
  refine tD.run S e1 fun vx ρ1 B1 H1 g1 S1 r1 => tD.run S1 e2 fun vy ρ2 B2 H2 g2 S2 r2 => ?_
  exact ⟨ρ2, B2, hp2, x, y, d, hp3, S2.wo, RepV.grow S1.wo.rb g2 _ _ r1, r2, RepV.grow S.wo.rb (g1.trans g2) _ _ rd, e3, fun ρ3 B3 H3 g3 W3 => k _ ρ3 B3 H3 ((g1.trans (g2.trans g3)).gs S.wo.rb) (S2.grow g3 W3)⟩
/-! ### methods of Python's own things -/
def kindG : String → DV → M Unit
  | "list", .lst _ => pure ()
  | "str", .str _ => pure ()
  | T, .ref n => do
    match ← getW n with
    | .lst _ => guardM (T == "list")
    | .dic _ => guardM (T == "dict")
    | _ => failure
  | _, _ => failure
theorem kindG_ty {T : String} {d : DV} {hp hp' : Hs} {K : PySem.W.Frag} {ρ : List Addr} {B : Addr → Prop} {H : Hp} {v : V} {u : Unit} (W : WOk K ρ B hp H) (r : RepV K ρ B H d v) (h : kindG T d hp = some (u, hp')) : hp = hp' ∧ tyV K T v H := by
  unfold kindG at h
  split at h
  · obtain ⟨_, rfl⟩ := pure_some h
    obtain ⟨a, xs, rfl, _, sq, _⟩ := r.lstI
    exact ⟨rfl, .inl ⟨rfl, xs, sq⟩⟩
  · obtain ⟨_, rfl⟩ := pure_some h
    obtain rfl := r.strI
    exact ⟨rfl, rfl⟩
  · obtain ⟨o, hp1, e1, e2⟩ := bind_some h
    obtain ⟨e3, rfl⟩ := getW_some e1
    obtain ⟨a, rfl, _, ro⟩ := RepV.refW W r e3
    cases o with
    | lst ds =>
      obtain ⟨hT, rfl⟩ := guardM_some e2
      obtain ⟨xs, h1, _⟩ := ro
      exact ⟨rfl, .inl ⟨by simpa using hT, xs, SqL.of h1⟩⟩
    | dic kvs =>
      obtain ⟨hT, rfl⟩ := guardM_some e2
      obtain ⟨xs, h1, _⟩ := ro
      exact ⟨rfl, .inr (.inr (.inl ⟨by simpa using hT, .inl ⟨xs, h1⟩⟩))⟩
    | ins _ _ => cases e2
  · cases h
def tPm (K : PySem.W.Frag) (m : DV → List DV → M DV) : V → List V → Hp → VK → Prop := fun x vs H Q => ∃ ρ B hp dx ds d hp', WOk K ρ B hp H ∧ RepV K ρ B H dx x ∧ RepL K ρ B H ds vs ∧ m dx ds hp = some (d, hp') ∧ Fol K ρ B H d hp' Q
def eMth (T : String) (m : DV → List DV → M DV) (f : DEx) (a : DAx) : DEx := fun env => do
  let x ← f env
  kindG T x
  let ds ← a env
  m x ds
theorem de_mth {T id : String} {name : Str} {o : Expr} {es : List Expr} {fo : DEx} {fs : DAx} {m : DV → List DV → M DV} {apos cpos : Pos} (hm : MtR X id (tPm X.K m)) (pa : PlainAttrs T) (slot : Slot T name id) (hty : typeOf (.builtin id) = pure (.type "method_descriptor")) (ho : DE X o fo) (ha : DA X (e :: es) fs)
    (hbase : attributeBase o name X.env (eval o X.env) = eval o X.env := by rfl)
    (hfew : ((backTo cpos (starEach (e :: es) X.env)).all (fun x => !x.1) && (backToKw cpos (keywordEach [] X.env)).all (fun x => x.1.isSome)
      && decide ((e :: es).length + ([] : List Keyword).length + (if ([] : List Keyword).isEmpty then 0 else 1) < 30)) = true := by rfl)
    (hline : (apos.endLine == cpos.line) = true := by rfl) (hs : starEach (e :: es) X.env = (false, eval e X.env) :: starEach es X.env := by rfl) (hplain : (backTo cpos (starEach es X.env)).any (·.1) = false := by rfl) :
    DE X (.Call (.Attribute o name apos) (e :: es) [] cpos) (eMth T m fo fs) :=
  L2.PE.imp (pe_bm pa slot hty hm ho ha hbase hfew hline hs hplain) fun σ H Q ⟨Z, env, ρ, B, hp, d, hp', S, e, k⟩ => by
    obtain ⟨x, hp1, e1, ea⟩ := bind_some e
    obtain ⟨_, hp2, e2, eb⟩ := bind_some ea
    obtain ⟨ds, hp3, e3, ec⟩ := bind_some eb
    refine tD.run S e1 fun v ρ1 B1 H1 g1 S1 r1 => ?_
    obtain ⟨z, ty⟩ := kindG_ty S1.wo r1 e2
    rw [← z] at e3
    exact ⟨ty, tDA.run S1 e3 fun vs ρ2 B2 H2 g2 S2 r2 => ⟨ρ2, B2, hp3, x, ds, d, hp', S2.wo, RepV.grow S1.wo.rb g2 _ _ r1, r2, ec, k.after (g1.trans g2)⟩⟩
def onD (x : DV) (k : Nat → List (Key × DV) → M DV) : M DV := match x with
  | .ref n => do
    match ← getW n with
    | .dic ds => k n ds
    | _ => failure
  | _ => failure
theorem onD_some {x d : DV} {k : Nat → List (Key × DV) → M DV} {hp hp' : Hs} (h : onD x k hp = some (d, hp')) : ∃ n ds, x = .ref n ∧ hp[n]? = some (.dic ds) ∧ k n ds hp = some (d, hp') := by
  cases x with
  | ref n =>
    obtain ⟨o, hp1, e1, e2⟩ := bind_some h
    obtain ⟨e3, rfl⟩ := getW_some e1
    cases o with
    | dic ds => exact ⟨n, ds, rfl, e3, e2⟩
    | lst _ => cases e2
    | ins _ _ => cases e2
  | _ => cases h
def mDPop (x : DV) : List DV → M DV
  | [y] => onD x fun n kvs => do
    let k ← keyM y
    let d ← optM (valD kvs k)
    setW n (.dic (dropD kvs k))
    pure d
  | [y, z] => onD x fun n kvs => do
    let k ← keyM y
    match valD kvs k with
    | some d => do setW n (.dic (dropD kvs k)); pure d
    | none => pure z
  | _ => failure
theorem m_dpop : MtR X "dict.pop" (tPm X.K mDPop) := by
  intro pins s σ H x vs v us Q I rx rv h
  obtain ⟨ρ, B, hp, dx, es, d, hp', W, r1, r2, e, k⟩ := h
  unfold mDPop at e
  split at e
  · rename_i y
    obtain ⟨n, kvs, rfl, h0, e⟩ := onD_some e
    obtain ⟨ky, hp1, e1, e⟩ := bind_some e
    obtain ⟨hk, rfl⟩ := keyM_some e1
    obtain ⟨d', hp2, e2, e⟩ := bind_some e
    obtain ⟨hv, rfl⟩ := optM_some e2
    cases e
    obtain ⟨a, rfl, i1, ro⟩ := RepV.refW W r1 h0
    obtain ⟨xs, h1, rk⟩ := ro.dic
    obtain ⟨w, rfl, rw'⟩ := r2.oneI
    obtain rfl := dkey_rep hk rw'
    obtain ⟨g, W'⟩ := wset_dic W i1 h1 (rk.drop ky)
    rcases rk.val ky with ⟨z, _⟩ | ⟨d'', v', z, zv, rz⟩
    · rw [hv] at z; cases z
    · rw [hv] at z; cases z
      exact mt_dpop pins s σ H _ _ v us Q I rx rv ⟨a, xs, ky, rfl, h1, .inl ⟨rfl, v', zv, k _ ρ B _ g W' (RepV.grow W.rb g _ _ rz)⟩⟩
  · rename_i y z
    obtain ⟨n, kvs, rfl, h0, e⟩ := onD_some e
    obtain ⟨ky, hp1, e1, e⟩ := bind_some e
    obtain ⟨hk, rfl⟩ := keyM_some e1
    obtain ⟨a, rfl, i1, ro⟩ := RepV.refW W r1 h0
    obtain ⟨xs, h1, rk⟩ := ro.dic
    unfold RepL at r2
    obtain ⟨w, t, rfl, rw', r2⟩ := r2
    obtain rfl := dkey_rep hk rw'
    obtain ⟨w2, rfl, rw2⟩ := r2.oneI
    rcases rk.val ky with ⟨z1, zv⟩ | ⟨d'', v', z1, zv, rz⟩
    · rw [z1] at e
      obtain ⟨rfl, rfl⟩ := pure_some e
      exact mt_dpop pins s σ H _ _ v us Q I rx rv ⟨a, xs, ky, rfl, h1, .inr ⟨w2, rfl, (fun v hv => by rw [zv] at hv; cases hv), fun _ => k _ ρ B H Gr.refl W rw2⟩⟩
    · rw [z1] at e
      cases e
      obtain ⟨g, W'⟩ := wset_dic W i1 h1 (rk.drop ky)
      exact mt_dpop pins s σ H _ _ v us Q I rx rv ⟨a, xs, ky, rfl, h1, .inr ⟨w2, rfl, (fun v hv => by rw [zv] at hv; cases hv; exact k _ ρ B _ g W' (RepV.grow W.rb g _ _ rz)), fun hn => by rw [zv] at hn; cases hn⟩⟩
  · cases e
end
end D

namespace L2
open PySem PySem.Spec PyProof.Rows
theorem Inv.kfresh {X : Cx} {pins : List (Addr × Obj)} {σ : St} {H : Hp} {s : Shared} (I : Inv X pins σ H s) : X.K.lookup s.heap.objs.size = none := by
  cases q : X.K.lookup s.heap.objs.size with
  | none => rfl
  | some o => exact absurd (Heap.lt_size (I.kIn _ o q)) (Nat.lt_irrefl _)
theorem pe_dnewKK {X : Cx} {pos : Pos} : PE X (.Dict [] [] pos) (fun _ H Q => ∀ p, H p = none → X.K.lookup p = none → Q (.ref p) (upd H p (.dK []))) := fun pins s σ H Q I h =>
  wpAny_Dict_empty ⟨.ref s.heap.objs.size, _, I.laid (a := s.heap.objs.size) (o := .dK []) (t' := s.toks) (fun _ _ q => Heap.get?_push_of_some _ q) (Nat.le_refl _) (dk_empty s.heap I.big), rfl, h _ (I.hok.fresh (Nat.le_refl _)) I.kfresh⟩
end L2
namespace D
open PySem PySem.Spec PyProof.Rows L2
section
variable {X : Cx} {e a b c : Expr} {f fa fb fc : DEx} {ca cb : DTx} {pos : Pos}
def mergeD (kvs more : List (Key × DV)) : List (Key × DV) := more.foldl (fun acc kv => putD acc kv.1 kv.2) kvs
theorem RepK.merge {K : PySem.W.Frag} {ρ : List Addr} {B : Addr → Prop} {H : Hp} {more : List (Key × DV)} {ms : List (Key × V)} (r : RepK K ρ B H more ms) : ∀ {kvs : List (Key × DV)} {xs : List (Key × V)}, RepK K ρ B H kvs xs → RepK K ρ B H (mergeD kvs more) (mergeK xs ms) := by
  induction r with
  | nil => intro kvs xs r; exact r
  | @cons p q _ _ h _ ih =>
    intro kvs xs r
    unfold mergeD mergeK at ih ⊢
    rw [List.foldl_cons, List.foldl_cons, h.1]
    exact ih (r.put q.1 h.2)
def eNewD0 : DEx := fun _ => allocW (.dic [])
theorem de_newD0 : DE X (.Dict [] [] pos) eNewD0 := L2.PE.imp pe_dnewKK fun σ H Q ⟨Z, env, ρ, B, hp, d, hp', S, e, k⟩ => by
  cases e
  intro p hn hk
  have g : Gr X.K ρ B H (ρ ++ [p]) (banP B p) (upd H p (.dK [])) := Gr.wnew hn hk
  refine k _ _ _ _ g (S.wo.wnew hn hk (RepK.orep (xs := []) .nil upd_same)) ?_
  unfold RepV
  exact ⟨p, rfl, by rw [← S.wo.len]; simp⟩
/-! ### walking: what comes next -/
abbrev NX := Nat → M (Option DV)
def NxtOk (K : PySem.W.Frag) (ρ : List Addr) (B : Addr → Prop) (H : Hp) (nxt : NX) (J : It) : Prop :=
  ∀ ρ1 B1 hp1 H1, Gs K ρ B H ρ1 B1 H1 → WOk K ρ1 B1 hp1 H1 → ∀ (i : Nat) (o : Option DV) (hp2 : Hs), nxt i hp1 = some (o, hp2) → hp2 = hp1 ∧ match o with
    | none => J.stop i H1
    | some d => J.go i H1 ∧ ∀ x H', J.yld i H1 x H' → RepV K ρ1 B1 H' d x ∧ (H' = H1 ∨ ∃ p o, H1 p = none ∧ H' = upd H1 p o)
abbrev DXx := En → M NX
def tDX (K : PySem.W.Frag) (f : DXx) : TI := fun σ H R => ∃ Z env ρ B hp nxt hp', SOk K Z env σ ρ B hp H ∧ f env hp = some (nxt, hp') ∧ ∀ J ρ' B' H', Gr K ρ B H ρ' B' H' → WOk K ρ' B' hp' H' → NxtOk K ρ' B' H' nxt J → R J H'
def DX (X : Cx) (tg iter : Expr) (f : DXx) : Prop := PI X tg iter (tDX X.K f)
def nxD (ds : List DV) : NX := fun i => if i ≤ ds.length then pure ds[i]? else failure
def nxW (n : Nat) : NX := fun i => do
  match ← getW n with
  | .lst ds => pure ds[i]?
  | _ => failure
theorem nxD_ok {K : PySem.W.Frag} {ρ : List Addr} {B : Addr → Prop} {H : Hp} {ds : List DV} {J : It} (h : ItOk K ρ B H ds J) : NxtOk K ρ B H (nxD ds) J := fun ρ1 B1 hp1 H1 g W i o hp2 e => by
  unfold nxD at e
  by_cases hi : i ≤ ds.length
  · rw [if_pos hi] at e
    obtain ⟨rfl, rfl⟩ := pure_some e
    obtain ⟨h1, h2⟩ := h ρ1 B1 H1 g W.rb W.bt
    refine ⟨rfl, ?_⟩
    cases q : ds[i]? with
    | none =>
      have : i = ds.length := by have := List.getElem?_eq_none_iff.mp q; omega
      subst this
      exact h2
    | some d => exact h1 i d q
  · rw [if_neg hi] at e; cases e
theorem nxW_ok {K : PySem.W.Frag} {ρ : List Addr} {B : Addr → Prop} {H : Hp} {n : Nat} {a : Addr} (ha : ρ[n]? = some a) (kf : ∀ H1 : Hp, ∀ xs ys, H1 a = some (.lst xs) → SqL K H1 a ys → ys = xs) : NxtOk K ρ B H (nxW n) (Itl K a) := fun ρ1 B1 hp1 H1 g W i o hp2 e => by
  obtain ⟨ob, hp3, e1, e2⟩ := bind_some e
  obtain ⟨e3, rfl⟩ := getW_some e1
  have ha1 := pre_get g.pre ha
  cases ob with
  | dic _ => cases e2
  | ins _ _ => cases e2
  | lst ds =>
    obtain ⟨rfl, rfl⟩ := pure_some e2
    obtain ⟨xs, h1, l1⟩ := W.obj n a _ ha1 e3
    refine ⟨rfl, ?_⟩
    cases q : ds[i]? with
    | none => exact ⟨xs, SqL.of h1, by rw [← l1.length]; exact List.getElem?_eq_none_iff.mp q⟩
    | some d =>
      obtain ⟨x, hx, rx⟩ := l1.get q
      refine ⟨⟨xs, x, SqL.of h1, hx⟩, fun y H' ⟨eH, hy⟩ => ?_⟩
      subst eH
      have := hy xs (SqL.of h1)
      rw [hx] at this; cases this
      exact ⟨rx, .inl rfl⟩
theorem sql_uniq {K : PySem.W.Frag} {a : Addr} (hk : K.lookup a = none) (H : Hp) (xs ys : List V) (h : H a = some (.lst xs)) (h' : SqL K H a ys) : ys = xs := by
  rcases h' with (h' | ⟨o, h'⟩) | ⟨o, _, _, h', _⟩
  · rw [h] at h'; cases h'; rfl
  · rw [h] at h'; cases h'
  · rw [hk] at h'; cases h'
/-- a list: data, or of the world -/
def xLs (f : DEx) : DXx := fun env => do
  match ← f env with
  | .lst ds => pure (nxD ds)
  | .ref n => do
    match ← getW n with
    | .lst _ => pure (nxW n)
    | _ => failure
  | _ => failure
variable {tg iter : Expr}
theorem dx_list (h : DE X iter f) : DX X tg iter (xLs f) := L2.PI.imp (pi_list (L2.PE.kf h)) fun σ H R ⟨Z, env, ρ, B, hp, nxt, hp', S, e, k⟩ => by
  obtain ⟨d, hp1, e1, e2⟩ := bind_some e
  refine tD.run S e1 fun v ρ1 B1 H1 g1 S1 r1 kf => ?_
  cases d with
  | lst ds =>
    obtain ⟨rfl, rfl⟩ := pure_some e2
    obtain ⟨a, xs, rfl, nb, sq, rl⟩ := r1.lstI
    exact ⟨a, rfl, ⟨xs, sq⟩, k _ ρ1 B1 H1 g1 S1.wo (nxD_ok (it_list nb sq rl))⟩
  | ref n =>
    obtain ⟨o, hp2, e3, e4⟩ := bind_some (show (getW n >>= fun o => (match o with | .lst _ => pure (nxW n) | _ => failure : M NX)) hp1 = some (nxt, hp') from e2)
    obtain ⟨e5, e6⟩ := getW_some e3
    cases o with
    | lst ds =>
      obtain ⟨rfl, z⟩ := pure_some e4
      rw [← z, ← e6] at k
      obtain ⟨a, rfl, i1, xs, h1, _⟩ := RepV.refW S1.wo r1 e5
      exact ⟨a, rfl, ⟨xs, SqL.of h1⟩, k _ ρ1 B1 H1 g1 S1.wo (nxW_ok i1 (sql_uniq (kf a _ h1)))⟩
    | dic _ => cases e4
    | ins _ _ => cases e4
  | non => cases e2
  | bl _ => cases e2
  | int _ => cases e2
  | str _ => cases e2
  | tup _ => cases e2
/-! ### for -/
def forX (nxt : NX) (b : DV → DSx) : Nat → Nat → DSx
  | 0, _, _ => failure
  | m + 1, i, env => do
    match ← nxt i with
    | none => pure (.nx, env)
    | some d => do
      let r ← b d env
      match r.1 with
      | .nx => forX nxt b m (i + 1) r.2
      | .ct => forX nxt b m (i + 1) r.2
      | .bk => pure (.nx, r.2)
      | .rt x => pure (.rt x, r.2)
def sForX (f : DXx) (g : DGx) (body : DSx) : DSx := fun env => do let nxt ← f env; forX nxt (fun d env => do let env' ← g d env; body env') 100000 0 env
theorem ds_forX {body : List Stmt} {fi : DXx} {g : DGx} {sb : DSx} (hp : PassesOwn (model X.prog X.w) X.A X.env X.xe) (hc : X.calm = true) (hi : DX X tg iter fi) (hg : PG X tg (tDG X.K g)) (hb : DSs X body sb)
    (hs : ∀ x, foldedSetIterable iter X.env x = pure x := by intro _; rfl) : DS X (.For tg iter body [] pos) (sForX fi g sb) :=
  (ps_for hp hc hi hg hb hs).imp fun D σ H ⟨Z, env, ρ, B, hp, fl, env', hp', S, e, k⟩ => by
    obtain ⟨nxt, hp1, e1, e2⟩ := bind_some e
    refine ⟨Z, env, ρ, B, hp, nxt, hp1, S, e1, fun J ρ1 B1 H1 g1 W1 it => ?_⟩
    have k1 := k.after (g1.gs S.wo.rb)
    refine ⟨fun i m σ H => ∃ env ρ B hp, SOk X.K Z env σ ρ B hp H ∧ Gs X.K ρ1 B1 H1 ρ B H ∧ forX nxt (fun d env => do let env' ← g d env; sb env') m i env hp = some ((fl, env'), hp'),
      ⟨100000, env, ρ1, B1, hp1, S.grow g1 W1, Gs.refl, e2⟩, ?_⟩
    rintro i m σ H ⟨env2, ρ2, B2, hp2, S2, g2, e3⟩
    cases m with
    | zero => cases e3
    | succ m =>
      obtain ⟨o, hpo, eo, e3⟩ := bind_some e3
      obtain ⟨rfl, ito⟩ := it ρ2 B2 hp2 H g2 S2.wo i o hpo eo
      cases o with
      | none =>
        obtain ⟨z, rfl⟩ := pure_some e3; cases z
        exact .inl ⟨ito, k1 σ ρ2 B2 H g2 S2⟩
      | some d =>
        obtain ⟨go, yl⟩ := ito
        obtain ⟨⟨f1, env4⟩, hp4, e4, e5⟩ := bind_some e3
        obtain ⟨env3, hp3, e6, e7⟩ := bind_some e4
        refine .inr ⟨go, fun σ' H' => ∃ env ρ B hp, SOk X.K Z env σ' ρ B hp H' ∧ Gs X.K ρ1 B1 H1 ρ B H' ∧ forX nxt (fun d env => do let env' ← g d env; sb env') m (i + 1) env hp = some ((fl, env'), hp'),
          fun σ' H' q => ⟨m, Nat.lt_succ_self m, q⟩, fun x H' y => ?_⟩
        obtain ⟨rx, hx⟩ := yl x H' y
        have S3 : SOk X.K Z env2 σ ρ2 B2 hpo H' ∧ Gs X.K ρ2 B2 H ρ2 B2 H' := by
          rcases hx with rfl | ⟨p, o, hn, rfl⟩
          · exact ⟨S2, Gs.refl⟩
          · exact ⟨S2.grow (Gr.laid hn) (S2.wo.laid hn), upd_gs S2.wo.rb hn⟩
        refine ⟨Z, env2, ρ2, B2, hpo, d, env3, hp3, S3.1, rx, e6, fun σ5 ρ5 B5 H5 g5 S5 => ⟨Z, env3, ρ5, B5, hp3, f1, env4, hp4, S5, e7, fun σ6 ρ6 B6 H6 g6 S6 => ?_⟩⟩
        have G6 := g2.trans (S3.2.trans (g5.trans g6))
        cases f1 with
        | nx => exact ⟨env4, ρ6, B6, hp4, S6, G6, e5⟩
        | ct => exact ⟨env4, ρ6, B6, hp4, S6, G6, e5⟩
        | bk => obtain ⟨z, rfl⟩ := pure_some e5; cases z; exact k1 σ6 ρ6 B6 H6 G6 S6
        | rt d => obtain ⟨z, rfl⟩ := pure_some e5; cases z; exact k1 σ6 ρ6 B6 H6 G6 S6
/-! ### comprehensions -/
def compX (nxt : NX) (g : DV → M Bool) (f : DV → M DV) : Nat → Nat → M (List DV)
  | 0, _ => failure
  | m + 1, i => do
    match ← nxt i with
    | none => pure []
    | some d => do
      if ← g d then
        let y ← f d
        let ys ← compX nxt g f m (i + 1)
        pure (y :: ys)
      else compX nxt g f m (i + 1)
/-- nw: as a list of the world -/
def eCompX (nw : Bool) (src : DXx) (idx : List Nat) (t : DTx) (f : DEx) : DEx := fun env => do
  let nxt ← src env
  let out ← compX nxt (fun d => t (cE idx env d)) (fun d => f (cE idx env d)) lim 0
  if nw then allocW (.lst out) else pure (.lst out)
variable {elt : Expr} {x : Str} {px : Pos} {ifs : List Expr} {scope : Scope} {cl : List (Str × Addr)} {caps : List Str} {idx : List Nat} {src : DXx} {te : DTx} {nw : Bool}
theorem eCompX_imp {K : PySem.W.Frag} {σ : St} {H : Hp} {Q : VK} (h : tD K (eCompX nw src idx te f) σ H Q) : tComp K (tDX K src) (tDT K te) (tD K f) idx σ H Q := by
  obtain ⟨Z, env, ρ, B, hp, d, hp', S, e, k⟩ := h
  obtain ⟨nxt, hp1, e1, e2⟩ := bind_some e
  obtain ⟨out, hp3, e5, e6⟩ := bind_some e2
  refine ⟨Z, env, ρ, B, hp, nxt, hp1, S, e1, fun J ρ1 B1 H1 g1 W1 it D hD hK => ?_⟩
  have g1s := g1.gs S.wo.rb
  refine ⟨fun i m ys H2 => H2 D = some (.lst ys) ∧ i + m = lim ∧ ∃ ρ2 B2 hp2 don rst, Gr K ρ1 B1 H1 ρ2 B2 H2 ∧ WOk K ρ2 B2 hp2 H2 ∧ B2 D ∧ D ∉ ρ2 ∧ RepL K ρ2 B2 H2 don ys ∧ don.length ≤ i ∧
    compX nxt (fun d => te (cE idx env d)) (fun d => f (cE idx env d)) m i hp2 = some (rst, hp3) ∧ don ++ rst = out, ?_, ?_⟩
  · exact ⟨lim, upd_same, Nat.zero_add _, ρ1, banP B1 D, hp1, [], out, Gr.banned hD hK, W1.banned hD hK, .inr rfl, fun z => W1.bt D (W1.rb D z) hD, RepL.nil, Nat.le_refl _, e5, rfl⟩
  · rintro i m ys H2 ⟨hDs, him, ρ2, B2, hp2, don, rst, g2, W2, bD, nD, rd, dn, e7, e8⟩
    refine ⟨hDs, ?_⟩
    cases m with
    | zero => cases e7
    | succ m =>
      obtain ⟨o, hpo, eo, e7⟩ := bind_some e7
      obtain ⟨rfl, ito⟩ := it ρ2 B2 hp2 H2 (g2.gs W1.rb) W2 i o hpo eo
      cases o with
      | some d0 =>
        obtain ⟨go, yl⟩ := ito
        obtain ⟨b, hp4, e9, e10⟩ := bind_some e7
        refine .inr ⟨go, fun x H3 y => ?_⟩
        obtain ⟨rx, hx⟩ := yl x H3 y
        have S3 : Gr K ρ2 B2 H2 ρ2 B2 H3 ∧ WOk K ρ2 B2 hpo H3 := by
          rcases hx with rfl | ⟨p, o, hn, rfl⟩
          · exact ⟨Gr.refl, W2⟩
          · exact ⟨Gr.laid hn, W2.laid hn⟩
        have g3 := g2.trans S3.1
        have C3 := cσ_ok (idx := idx) S (g1s.trans (g3.gs W1.rb)) S3.2 rx
        refine tDT.run C3 e9 fun ρ4 B4 H4 g4 S4 => ?_
        have hD4 : H4 D = some (.lst ys) := g4.keep D _ nD (S3.1.keep D _ nD hDs)
        have nD4 : D ∉ ρ4 := fun z => (g4.rnew D z).elim nD fun q => by rw [S3.1.keep D _ nD hDs] at q; cases q
        cases b with
        | false =>
          exact iteF ⟨m, Nat.lt_succ_self m, hD4, by omega, ρ4, B4, hp4, don, rst, g3.trans g4, S4.wo, g4.ban D bD, nD4, RepL.grow W2.rb (S3.1.trans g4) _ _ rd, by omega, e10, e8⟩
        | true =>
          obtain ⟨z, hp5, e11, e12⟩ := bind_some e10
          obtain ⟨zs, hp6, e13, e14⟩ := bind_some e12
          obtain ⟨rfl, rfl⟩ := pure_some e14
          refine iteT (tD.run S4 e11 fun v ρ5 B5 H5 g5 S5 r5 => ?_)
          have hD5 : H5 D = some (.lst ys) := g5.keep D _ nD4 hD4
          have nD5 : D ∉ ρ5 := fun z => (g5.rnew D z).elim nD4 fun q => by rw [hD4] at q; cases q
          have bD5 : B5 D := g5.ban D (g4.ban D bD)
          have G5 := g3.trans (g4.trans g5)
          have rd5 := RepL.grow W2.rb (S3.1.trans (g4.trans g5)) _ _ rd
          have trk : ∀ b, (upd H5 D (.lst (ys ++ [v]))) b = none → H5 b = none := fun b q => by
            by_cases e : b = D
            · subst e; rw [upd_same] at q; cases q
            · rw [upd_ne e] at q; exact q
          have g6 : Gs K ρ5 B5 H5 ρ5 B5 (upd H5 D (.lst (ys ++ [v]))) := ⟨List.prefix_rfl, fun _ h => .inl h, fun b o nb h => by rw [upd_ne (show b ≠ D from fun z => nb (by rw [z]; exact bD5))]; exact h, trk⟩
          refine ⟨hD5, ?_, m, Nat.lt_succ_self m, upd_same, by omega, ρ5, B5, hp5, don ++ [z], zs, ?_, ?_, bD5, nD5, RepL.gs g6 _ _ (RepL.append rd5 (RepL.one r5)), by simp; omega, e13, by rw [← e8]; simp⟩
          · have h1 := rd5.length
            have h2 : lim < sizeLine := by decide
            omega
          · exact ⟨G5.pre, G5.ban, G5.new, G5.rnew, fun b o nb h => by rw [upd_ne (show b ≠ D from fun q => by rw [q, hD] at h; cases h)]; exact G5.keep b o nb h, fun b q => G5.trk b (trk b q)⟩
          · exact ⟨S5.wo.len, S5.wo.nd, fun j b o q1 q2 => ORep.gs g6 (upd_ne (show b ≠ D from fun z => nD5 (by rw [← z]; exact List.mem_of_getElem? q1))) (S5.wo.obj j b o q1 q2), S5.wo.rb, fun b z q => S5.wo.bt b z (trk b q)⟩
      | none =>
        obtain ⟨z, z'⟩ := pure_some e7
        subst z
        subst z'
        refine .inl ⟨ito, ?_⟩
        rw [List.append_nil] at e8
        subst e8
        cases nw with
        | false =>
          obtain ⟨rfl, rfl⟩ := pure_some (show (pure (.lst don) : M DV) hpo = some (d, hp') from e6)
          have gU : Gs K ρ2 B2 H2 ρ2 (fun b => B2 b ∧ b ≠ D) H2 := ⟨List.prefix_rfl, fun _ h => .inl h.1, fun _ _ _ h => h, fun _ h => h⟩
          refine k (.ref D) ρ2 (fun b => B2 b ∧ b ≠ D) H2 (g1.trans ⟨g2.pre, fun b z => ⟨g2.ban b z, fun q => W1.bt b z (q ▸ hD)⟩, fun b z => g2.new b z.1, g2.rnew, g2.keep, g2.trk⟩)
            ⟨W2.len, W2.nd, fun j b o q1 q2 => ORep.gs gU rfl (W2.obj j b o q1 q2), fun b z => ⟨W2.rb b z, fun q => nD (q ▸ z)⟩, fun b z => W2.bt b z.1⟩ (rep_lst (fun z => z.2 rfl) (SqL.of hDs) (RepL.gs gU _ _ rd))
        | true =>
          cases (show some (DV.ref hpo.length, hpo ++ [OV.lst don]) = some (d, hp') from e6)
          have gU : Gs K ρ2 B2 H2 (ρ2 ++ [D]) B2 H2 := ⟨List.prefix_append _ _, fun _ h => .inl h, fun _ _ _ h => h, fun _ h => h⟩
          refine k (.ref D) (ρ2 ++ [D]) B2 H2 (g1.trans ⟨g2.pre.trans (List.prefix_append _ _), g2.ban, g2.new, fun a z => (List.mem_append.mp z).elim (g2.rnew a) fun q => .inr (by rw [List.mem_singleton.mp q]; exact hD), g2.keep, g2.trk⟩)
            ⟨by simp [W2.len], List.nodup_append.mpr ⟨W2.nd, by simp, fun a ha b hb => by rw [List.mem_singleton.mp hb]; exact fun z => nD (z ▸ ha)⟩, fun j b o q1 q2 => ?_, fun b z => (List.mem_append.mp z).elim (W2.rb b) fun q => by rw [List.mem_singleton.mp q]; exact bD, W2.bt⟩ ?_
          · by_cases hi : j < ρ2.length
            · rw [List.getElem?_append_left hi] at q1
              rw [List.getElem?_append_left (by rw [← W2.len]; exact hi)] at q2
              exact ORep.gs gU rfl (W2.obj j b o q1 q2)
            · rw [List.getElem?_append_right (by omega)] at q1
              rw [List.getElem?_append_right (by rw [← W2.len]; omega)] at q2
              have hi0 : j - ρ2.length = 0 := by
                have := (List.getElem?_eq_some_iff.mp q1).1
                simp at this; omega
              rw [hi0] at q1
              rw [← W2.len, hi0] at q2
              simp at q1 q2
              subst q1 q2
              exact ⟨ys, hDs, RepL.gs gU _ _ rd⟩
          · unfold RepV
            exact ⟨D, rfl, by rw [← W2.len]; simp⟩
theorem de_compX (S : CompS X x scope cl caps idx) (hc : X.calm = true) (hi : DX X (.Name x px) iter src)
    (ht : ∀ C s₀ H₀ ex, DTs (cxComp X scope cl C (x :: caps) s₀ H₀ ex) ifs te) (he : ∀ C s₀ H₀ ex, DE (cxComp X scope cl C (x :: caps) s₀ H₀ ex) elt f)
    (hs : ∀ x, foldedSetIterable iter X.env x = pure x := by intro _; rfl) : DE X (.ListComp elt [⟨.Name x px, iter, ifs, 0⟩] scope pos) (eCompX nw src idx te f) :=
  L2.PE.imp (pe_comp (tt := tDT X.K te) (te := tD X.K f) S hc hi ht he hs) fun _ _ _ h => eCompX_imp h
end
end D

/-! ## what a run comes to -/
namespace D
open PySem PySem.Spec PyProof.Rows L2
def WP {α : Type} (m : M α) (hp : Hs) (Q : α → Hs → Prop) : Prop := ∃ x hp', m hp = some (x, hp') ∧ Q x hp'
section
variable {α β : Type} {m : M α} {k : α → M β} {hp : Hs} {Q : α → Hs → Prop} {R : β → Hs → Prop}
theorem WP_pure {x : α} : WP (pure x) hp Q ↔ Q x hp := ⟨fun ⟨y, h, e, q⟩ => by obtain ⟨rfl, rfl⟩ := pure_some e; exact q, fun q => ⟨x, hp, rfl, q⟩⟩
theorem WP_bind : WP (m >>= k) hp R ↔ WP m hp fun x h => WP (k x) h R := ⟨fun ⟨y, h, e, q⟩ => by obtain ⟨x, h1, e1, e2⟩ := bind_some e; exact ⟨x, h1, e1, y, h, e2, q⟩, fun ⟨x, h1, e1, y, h, e2, q⟩ => ⟨y, h, (bind_at e1).trans e2, q⟩⟩
theorem WP.mono {Q' : α → Hs → Prop} (h : WP m hp Q) (hq : ∀ x h, Q x h → Q' x h) : WP m hp Q' := let ⟨x, h1, e, q⟩ := h; ⟨x, h1, e, hq x h1 q⟩
theorem WP.of {x : α} {hp' : Hs} (e : m hp = some (x, hp')) (q : Q x hp') : WP m hp Q := ⟨x, hp', e, q⟩
theorem WP.eq {x : α} (e : m = pure x) (q : Q x hp) : WP m hp Q := e ▸ WP_pure.mpr q
end
section
variable {hp : Hs} {env : En} {Q : Fl × En → Hs → Prop}
theorem WP_forL {b : DV → DSx} (I : Nat → En → Hs → Prop) (ds : List DV) (h0 : I 0 env hp) (hs : ∀ (i : Nat) d, ds[i]? = some d → ∀ env hp, I i env hp → WP (b d env) hp fun r h => match r.1 with
    | .nx => I (i + 1) r.2 h
    | .ct => I (i + 1) r.2 h
    | .bk => Q (.nx, r.2) h
    | .rt x => Q (.rt x, r.2) h) (he : ∀ env hp, I ds.length env hp → Q (.nx, env) hp) : WP (forL b ds env) hp Q := by
  suffices h : ∀ (m i : Nat) env hp, m + i = ds.length → I i env hp → WP (forL b (ds.drop i) env) hp Q by simpa using h ds.length 0 env hp rfl h0
  intro m
  induction m with
  | zero =>
    intro i env hp e hI
    have : i = ds.length := by omega
    subst this
    rw [List.drop_length]
    exact WP_pure.mpr (he env hp hI)
  | succ m ih =>
    intro i env hp e hI
    have hlt : i < ds.length := by omega
    rw [List.drop_eq_getElem_cons hlt, forL, WP_bind]
    refine (hs i ds[i] (List.getElem?_eq_getElem hlt) env hp hI).mono fun r h q => ?_
    obtain ⟨fl, env1⟩ := r
    cases fl with
    | nx => exact ih (i + 1) env1 h (by omega) q
    | ct => exact ih (i + 1) env1 h (by omega) q
    | bk => exact WP_pure.mpr q
    | rt x => exact WP_pure.mpr q
theorem WP_forX {nxt : NX} {b : DV → DSx} (ds : List DV) (I : Nat → En → Hs → Prop) (hl : ds.length < 100000) (hn : ∀ (i : Nat) env hp, i ≤ ds.length → I i env hp → nxt i hp = some (ds[i]?, hp)) (h0 : I 0 env hp) (hs : ∀ (i : Nat) d, ds[i]? = some d → ∀ env hp, I i env hp → WP (b d env) hp fun r h => match r.1 with
    | .nx => I (i + 1) r.2 h
    | .ct => I (i + 1) r.2 h
    | .bk => Q (.nx, r.2) h
    | .rt x => Q (.rt x, r.2) h) (he : ∀ env hp, I ds.length env hp → Q (.nx, env) hp) : WP (forX nxt b 100000 0 env) hp Q := by
  suffices h : ∀ (m i n : Nat) env hp, m + i = ds.length → m < n → I i env hp → WP (forX nxt b n i env) hp Q from h ds.length 0 100000 env hp rfl hl h0
  intro m
  induction m with
  | zero =>
    intro i n env hp e hn' hI
    have : i = ds.length := by omega
    subst this
    obtain ⟨n, rfl⟩ : ∃ k, n = k + 1 := ⟨n - 1, by omega⟩
    rw [forX, WP_bind]
    refine WP.of (hn _ env hp (Nat.le_refl _) hI) ?_
    rw [show ds[ds.length]? = none by simp]
    exact WP_pure.mpr (he env hp hI)
  | succ m ih =>
    intro i n env hp e hn' hI
    have hlt : i < ds.length := by omega
    obtain ⟨n, rfl⟩ : ∃ k, n = k + 1 := ⟨n - 1, by omega⟩
    rw [forX, WP_bind]
    refine WP.of (hn i env hp (by omega) hI) ?_
    simp only [List.getElem?_eq_getElem hlt]
    rw [WP_bind]
    refine (hs i ds[i] (List.getElem?_eq_getElem hlt) env hp hI).mono fun r h q => ?_
    obtain ⟨fl, env1⟩ := r
    cases fl with
    | nx => exact ih (i + 1) n env1 h (by omega) (by omega) q
    | ct => exact ih (i + 1) n env1 h (by omega) (by omega) q
    | bk => exact WP_pure.mpr q
    | rt x => exact WP_pure.mpr q
theorem nxD_at (ds : List DV) (i : Nat) (h : i ≤ ds.length) (hp : Hs) : nxD ds i hp = some (ds[i]?, hp) := by unfold nxD; rw [if_pos h]; rfl
/-- over data -/
theorem WP_forXD {b : DV → DSx} (ds : List DV) (I : Nat → En → Hs → Prop) (hl : ds.length < 100000) (h0 : I 0 env hp) (hs : ∀ (i : Nat) d, ds[i]? = some d → ∀ env hp, I i env hp → WP (b d env) hp fun r h => match r.1 with
    | .nx => I (i + 1) r.2 h
    | .ct => I (i + 1) r.2 h
    | .bk => Q (.nx, r.2) h
    | .rt x => Q (.rt x, r.2) h) (he : ∀ env hp, I ds.length env hp → Q (.nx, env) hp) : WP (forX (nxD ds) b 100000 0 env) hp Q :=
  WP_forX ds I hl (fun i env hp h _ => nxD_at ds i h hp) h0 hs he
end
/-! ### plain data through the world -/
theorem drf_int (n : Nat) (hp : Hs) (i : Int) : drf (n + 1) hp (.int i) = some (.int i) := rfl
theorem mapM_same {α : Type} {f : α → Option α} : ∀ {xs : List α}, (∀ x ∈ xs, f x = some x) → xs.mapM f = some xs
  | [], _ => rfl
  | x :: xs, h => by
    rw [List.mapM_cons, h x (by simp), mapM_same fun y hy => h y (List.mem_cons_of_mem _ hy)]; rfl
theorem drf_ints (n : Nat) (hp : Hs) (ns : List Int) : (ns.map DV.int).mapM (drf (n + 1) hp) = some (ns.map .int) := mapM_same fun x hx => by
  obtain ⟨i, _, rfl⟩ := List.mem_map.mp hx; rfl
theorem drf_tupI (n : Nat) (hp : Hs) (ns : List Int) : drf (n + 2) hp (.tup (ns.map .int)) = some (.tup (ns.map .int)) := by
  show ((ns.map DV.int).mapM (drf (n + 1) hp)).map DV.tup = _
  rw [drf_ints]; rfl
theorem drf_lstI (n : Nat) (hp : Hs) (ns : List Int) : drf (n + 2) hp (.lst (ns.map .int)) = some (.lst (ns.map .int)) := by
  show ((ns.map DV.int).mapM (drf (n + 1) hp)).map DV.lst = _
  rw [drf_ints]; rfl
theorem drfM_of {d d' : DV} {hp : Hs} (h : drf 40 hp d = some d') : drfM d hp = some (d', hp) := by unfold drfM; rw [h]; rfl
theorem eqvG_of {x y x' y' : DV} {hp : Hs} (hx : drf 40 hp x = some x') (hy : drf 40 hp y = some y') (s1 : okP x' = true) (s2 : okP y' = true) : eqvG x y hp = some (PyData.eqv (toP x') (toP y'), hp) := by
  unfold eqvG
  simp only [okP, Bool.and_eq_true] at s1 s2
  rw [bind_at (drfM_of hx), bind_at (drfM_of hy)]
  simp only [s1.2, s2.2, Bool.and_self, guardM, if_true, pure_bind]
  rfl
theorem eqvG_int (i j : Int) (hp : Hs) : eqvG (.int i) (.int j) hp = some (i == j, hp) := eqvG_of (drf_int 39 hp i) (drf_int 39 hp j) (okP_int i) (okP_int j)
theorem eqvG_tupI (a b : List Int) (hp : Hs) : eqvG (.tup (a.map .int)) (.tup (b.map .int)) hp = some (decide (a = b), hp) := by
  rw [eqvG_of (drf_tupI 38 hp a) (drf_tupI 38 hp b) (okP_tupI a) (okP_tupI b)]
  simp only [toP, toPs_ints, PyData.eqv, eqvAll_ints]
end D
namespace D
open PySem PySem.Spec PyProof.Rows L2
theorem valD_cons (p : Key × DV) (r : List (Key × DV)) (j : Key) : valD (p :: r) j = if p.1 = j then some p.2 else valD r j := by
  by_cases e : p.1 = j
  · simp [valD, List.find?_cons, e]
  · simp [valD, List.find?_cons, e]
theorem valD_app (a b : List (Key × DV)) (j : Key) : valD (a ++ b) j = match valD a j with
    | some d => some d
    | none => valD b j := by
  induction a with
  | nil => rfl
  | cons p r ih =>
    rw [List.cons_append, valD_cons, valD_cons]
    split
    · rfl
    · exact ih
theorem valD_any (kvs : List (Key × DV)) (k : Key) : (kvs.any fun kv => decide (kv.1 = k)) = (valD kvs k).isSome := by
  induction kvs with
  | nil => rfl
  | cons p r ih =>
    rw [List.any_cons, valD_cons, ih]
    by_cases e : p.1 = k <;> simp [e]
theorem valD_repl (kvs : List (Key × DV)) (k j : Key) (d : DV) : valD (kvs.map fun kv => if kv.1 = k then (kv.1, d) else kv) j = (valD kvs j).map fun x => if j = k then d else x := by
  induction kvs with
  | nil => rfl
  | cons p r ih =>
    rw [List.map_cons, valD_cons, valD_cons, ih]
    by_cases e : p.1 = k
    · rw [if_pos e]
      by_cases e2 : p.1 = j
      · have : j = k := e2 ▸ e
        simp [e2, this]
      · simp [e2]
    · rw [if_neg e]
      by_cases e2 : p.1 = j
      · have : ¬ j = k := e2 ▸ e
        simp [e2, this]
      · simp [e2]
theorem valD_put (kvs : List (Key × DV)) (k j : Key) (d : DV) : valD (putD kvs k d) j = if j = k then some d else valD kvs j := by
  unfold putD
  rw [valD_any]
  cases q : valD kvs k with
  | none =>
    rw [if_neg (by simp), valD_app, valD_cons]
    by_cases e : j = k
    · subst e; simp [q]
    · rw [if_neg e, if_neg (Ne.symm e)]
      cases valD kvs j <;> rfl
  | some x =>
    rw [if_pos (show (some x).isSome = true from rfl), valD_repl]
    by_cases e : j = k
    · subst e; simp [q]
    · simp only [if_neg e]
      cases valD kvs j <;> rfl
theorem getW_of {n : Nat} {o : OV} {hp : Hs} (h : hp[n]? = some o) : getW n hp = some (o, hp) := by unfold getW; rw [h]
theorem putG_dic {n : Nat} {kvs : List (Key × DV)} {hp : Hs} {i d : DV} {k : Key} (h : hp[n]? = some (.dic kvs)) (hk : dkey i = some k) (hl : kvs.length < 100000) : putG (.ref n) i d hp = some ((), hp.set n (.dic (putD kvs k d))) := by
  show (getW n >>= _) hp = _
  rw [bind_at (getW_of h)]
  have e1 : keyM i hp = some (k, hp) := by unfold keyM; rw [hk]; rfl
  have e2 : guardM (decide (kvs.length < lim)) hp = some ((), hp) := by rw [show decide (kvs.length < lim) = true from decide_eq_true hl]; rfl
  show (keyM i >>= fun k => guardM (decide (kvs.length < lim)) >>= fun _ => setW n (.dic (putD kvs k d))) hp = _
  rw [bind_at e1, bind_at e2]; rfl
theorem sAsg_at {f : DEx} {g : DGx} {env env' : En} {d : DV} {hp hp1 hp2 : Hs} (h : f env hp = some (d, hp1)) (h' : g d env hp1 = some (env', hp2)) : sAsg f g env hp = some ((.nx, env'), hp2) := by
  unfold sAsg
  rw [bind_at h, bind_at h']; rfl
theorem at_of {α : Type} {m : M α} {x : α} (h : m = pure x) (hp : Hs) : m hp = some (x, hp) := by rw [h]; rfl
theorem sIf_at {c : DTx} {f g : DSx} {env : En} {b : Bool} {hp hp1 : Hs} (h : c env hp = some (b, hp1)) : sIf c f g env hp = if b = true then f env hp1 else g env hp1 := by
  unfold sIf
  rw [bind_at h]
  cases b <;> rfl
theorem eB_at {f : DEx} {env : En} {b : Bool} {hp hp1 : Hs} (h : f env hp = some (.bl b, hp1)) : eB f env hp = some (b, hp1) := by
  unfold eB
  rw [bind_at h]; rfl
theorem eBin_atW {g : DV → DV → M DV} {f f' : DEx} {env : En} {x y d : DV} {hp hp1 hp2 hp3 : Hs} (h : f env hp = some (x, hp1)) (h' : f' env hp1 = some (y, hp2)) (hg : g x y hp2 = some (d, hp3)) : eBin g f f' env hp = some (d, hp3) := by
  unfold eBin
  rw [bind_at h, bind_at h', hg]
theorem eCall1_at {F : List DV → M DV} {f : DEx} {env : En} {x d : DV} {hp hp1 hp2 : Hs} (h : f env hp = some (x, hp1)) (hF : F [x] hp1 = some (d, hp2)) : eCall 1 F (aCons f aNil) env hp = some (d, hp2) := by
  have : aCons f aNil env hp = some ([x], hp1) := by unfold aCons; rw [bind_at h]; rfl
  unfold eCall
  rw [bind_at this]; exact hF
theorem eCall2_at {F : List DV → M DV} {f f' : DEx} {env : En} {x y d : DV} {hp hp1 hp2 hp3 : Hs} (h : f env hp = some (x, hp1)) (h' : f' env hp1 = some (y, hp2)) (hF : F [x, y] hp2 = some (d, hp3)) : eCall 2 F (aCons f (aCons f' aNil)) env hp = some (d, hp3) := by
  have e0 : aCons f' aNil env hp1 = some ([y], hp2) := by unfold aCons; rw [bind_at h']; rfl
  have : aCons f (aCons f' aNil) env hp = some ([x, y], hp2) := by unfold aCons at e0 ⊢; rw [bind_at h, bind_at e0]; rfl
  unfold eCall
  rw [bind_at this]; exact hF
theorem eCall3_at {F : List DV → M DV} {f f' f'' : DEx} {env : En} {x y z d : DV} {hp hp1 hp2 hp3 hp4 : Hs} (h : f env hp = some (x, hp1)) (h' : f' env hp1 = some (y, hp2)) (h'' : f'' env hp2 = some (z, hp3)) (hF : F [x, y, z] hp3 = some (d, hp4)) : eCall 3 F (aCons f (aCons f' (aCons f'' aNil))) env hp = some (d, hp4) := by
  have e1 : aCons f'' aNil env hp2 = some ([z], hp3) := by unfold aCons; rw [bind_at h'']; rfl
  have e0 : aCons f' (aCons f'' aNil) env hp1 = some ([y, z], hp3) := by unfold aCons at e1 ⊢; rw [bind_at h', bind_at e1]; rfl
  have : aCons f (aCons f' (aCons f'' aNil)) env hp = some ([x, y, z], hp3) := by unfold aCons at e0 ⊢; rw [bind_at h, bind_at e0]; rfl
  unfold eCall
  rw [bind_at this]; exact hF
theorem sRet_at {f : DEx} {env : En} {d : DV} {hp hp1 : Hs} (h : f env hp = some (d, hp1)) : sRet f env hp = some ((.rt d, env), hp1) := by
  unfold sRet
  rw [bind_at h]; rfl
theorem sDrop_at {f : DEx} {env : En} {d : DV} {hp hp1 : Hs} (h : f env hp = some (d, hp1)) : sDrop f env hp = some ((.nx, env), hp1) := by
  unfold sDrop
  rw [bind_at h]; rfl
theorem runF_at {n : Nat} {body : DSx} {ds : List DV} {d : DV} {env : En} {hp hp1 : Hs} (h : body (ds.map .val ++ List.replicate (n - ds.length) .un) hp = some ((.rt d, env), hp1)) : runF n body ds hp = some (d, hp1) := by
  unfold runF
  rw [bind_at h]; rfl
theorem eNot_at {c : DTx} {env : En} {b : Bool} {hp hp1 : Hs} (h : c env hp = some (b, hp1)) : eNot c env hp = some (!b, hp1) := by
  unfold eNot
  rw [bind_at h]; rfl
theorem eAndV_at {f g : DEx} {env : En} {b : Bool} {hp hp1 : Hs} (h : f env hp = some (.bl b, hp1)) : eAndV f g env hp = if b = true then g env hp1 else some (.bl false, hp1) := by
  unfold eAndV
  rw [bind_at h]
  cases b <;> rfl
end D

/-! ## list.sort, whatever the length: runs, insertion, galloping merges -/
namespace TS
open PySem PyProof.Rows
def gal : Bool → Keyed → Array Keyed → Nat → Nat → Nat → StateT SortSt Sem (Option Nat) := sortPriv% PySem.Builtin.gallop
def mLo : Array Keyed → Array Keyed → StateT SortSt Sem (Array Keyed) := sortPriv% PySem.Builtin.mergeLo
def mHi : Array Keyed → Array Keyed → StateT SortSt Sem (Array Keyed) := sortPriv% PySem.Builtin.mergeHi
def setMin : Nat → StateT SortSt Sem Unit := sortPriv% PySem.Builtin.setMinGallop
def mAt : Nat → StateT SortSt Sem Bool := mergeAt'
/-- what is compared: the things of S by an int -/
structure Cmp where
  key : Keyed → Int
  kd : SortKind
  S : Keyed → Prop
  prog : Program
  w : World
  A : Around
  E : Value → Shared → Prop
  s : Shared
  lt : ∀ (st : SortSt) (p q : Keyed) (Q : Option Bool → SortSt → Prop), S p → S q → kindOf st = kd → Q (some (decide (key p < key q))) st → wpS (model prog w) A E s (lt' p q) Q st
variable {C : Cmp}
abbrev W (C : Cmp) {σ α : Type} (m : StateT σ Sem α) (Q : α → σ → Prop) (st : σ) : Prop := wpS (model C.prog C.w) C.A C.E C.s m Q st
def kx (C : Cmp) (xs : Array Keyed) (i : Nat) : Int := ((xs[i]?).map C.key).getD 0
/-- the state but for its least gallop -/
structure Ok (C : Cmp) (st : SortSt) : Prop where
  kind : kindOf st = C.kd
  fine : failedOf st = none
  mem : ∀ p ∈ (arrOf st).toList, C.S p
theorem elem_at {xs : Array Keyed} {i : Nat} {Q : Keyed → SortSt → Prop} {st : SortSt} (hi : i < xs.size) (h : Q xs[i] st) : W C (elem' xs i) Q st := by
  rw [elem'_eq, getElem?_pos xs i hi]; exact wpS_pure h
theorem kx_at (xs : Array Keyed) {i : Nat} (hi : i < xs.size) : kx C xs i = C.key xs[i] := by unfold kx; rw [getElem?_pos xs i hi]; rfl
theorem ltAt_k {st : SortSt} {i j : Nat} {Q : Option Bool → SortSt → Prop} (g : Ok C st) (hi : i < (arrOf st).size) (hj : j < (arrOf st).size) (h : Q (some (decide (kx C (arrOf st) i < kx C (arrOf st) j))) st) : W C (ltAt' i j) Q st := by
  rw [ltAt'_eq]
  refine wpS_bind (wpS_get (wpS_bind (elem_at hi (wpS_bind (elem_at hj ?_)))))
  refine C.lt st _ _ Q (g.mem _ (by simp)) (g.mem _ (by simp)) g.kind ?_
  rw [← kx_at _ hi, ← kx_at _ hj]; exact h
/-! ### gallop -/
theorem gal_eq (left : Bool) (key : Keyed) (arr : Array Keyed) (base n hint : Nat) : gal left key arr base n hint = (do
    let bey (i : Nat) : StateT SortSt Sem (Option Bool) := do
      let x ← elem' arr (base + i)
      if left then lt' x key else return (← lt' key x).map (!·)
    let mut last := 0
    let mut ofs := 1
    let mut lo := 0
    let mut hi := 0
    let some right ← bey hint | return none
    if right then
      let most := n - hint
      for _ in [0:n] do
        if ofs ≥ most then break
        let some more ← bey (hint + ofs) | return none
        if !more then break
        last := ofs
        ofs := 2 * ofs + 1
      lo := hint + last + 1
      hi := hint + min ofs most
    else
      let most := hint + 1
      for _ in [0:n] do
        if ofs ≥ most then break
        let some found ← bey (hint - ofs) | return none
        if found then break
        last := ofs
        ofs := 2 * ofs + 1
      lo := hint + 1 - min ofs most
      hi := hint - last
    for _ in [0:n] do
      if lo ≥ hi then break
      let m := lo + (hi - lo) / 2
      let some more ← bey m | return none
      if more then lo := m + 1 else hi := m
    return some hi) := rfl
def beyT (left : Bool) (key : Keyed) (arr : Array Keyed) (base i : Nat) : StateT SortSt Sem (Option Bool) := do
  let x ← elem' arr (base + i)
  if left then lt' x key else return (← lt' key x).map (!·)
def binL (left : Bool) (key : Keyed) (arr : Array Keyed) (base n l h : Nat) : StateT SortSt Sem (Option Nat) := do
  let mut lo := l
  let mut hi := h
  for _ in [0:n] do
    if lo ≥ hi then break
    let m := lo + (hi - lo) / 2
    let some more ← beyT left key arr base m | return none
    if more then lo := m + 1 else hi := m
  return some hi
/-- where the test holds: at the places ahead of hi, of n -/
theorem gal_spec {left : Bool} {key : Keyed} {arr : Array Keyed} {base n hint : Nat} {Q : Option Nat → SortSt → Prop} {st : SortSt} (T : Nat → Bool) (hk : kindOf st = C.kd) (hkey : C.S key) (hS : ∀ p ∈ arr.toList, C.S p) (hb : base + n ≤ arr.size) (hh : hint < n)
    (hT : ∀ i, i < n → T i = if left then decide (kx C arr (base + i) < C.key key) else !decide (C.key key < kx C arr (base + i))) (mono : ∀ i j, i ≤ j → j < n → T j = true → T i = true)
    (h : ∀ hi, hi ≤ n → (∀ i, i < hi → T i = true) → (∀ i, hi ≤ i → i < n → T i = false) → Q (some hi) st) : W C (gal left key arr base n hint) Q st := by
  have bey : ∀ (i : Nat) (R : Option Bool → SortSt → Prop), i < n → R (some (T i)) st → W C (beyT left key arr base i) R st := by
    intro i R hi hR
    have hlt : base + i < arr.size := by omega
    unfold beyT
    refine wpS_bind (elem_at hlt ?_)
    have hm : C.S arr[base + i] := hS _ (by simp)
    rw [hT i hi, kx_at _ hlt] at hR
    cases left with
    | true =>
      simp only [if_true] at hR ⊢
      exact C.lt st _ _ R hm hkey hk hR
    | false =>
      simp only [Bool.false_eq_true, if_false] at hR ⊢
      exact wpS_bind (C.lt st _ _ _ hkey hm hk (wpS_pure hR))
  -- the last search
  have bin : ∀ lo hi, lo ≤ hi → hi ≤ n → (∀ i, i < lo → T i = true) → (∀ i, hi ≤ i → i < n → T i = false) → W C (binL left key arr base n lo hi) Q st := by
    intro lo hi hlh hin hl hr
    unfold binL
    dsimp only
    refine wpS_bind (wpS_mono (wpS_forRange (I := fun x c st' => st' = st ∧ ∃ lo hi, c = (none, lo, hi) ∧ lo ≤ hi ∧ hi ≤ n ∧ hi - lo ≤ n - x ∧ (∀ i, i < lo → T i = true) ∧ (∀ i, hi ≤ i → i < n → T i = false))
      (Q := fun c st' => st' = st ∧ ∃ hi lo, c = (none, lo, hi) ∧ hi ≤ n ∧ (∀ i, i < hi → T i = true) ∧ (∀ i, hi ≤ i → i < n → T i = false)) ?step ?fin ⟨rfl, lo, hi, rfl, hlh, hin, by omega, hl, hr⟩) ?post)
    case post =>
      rintro c st' ⟨rfl, hi, lo, rfl, h1, h2, h3⟩
      exact wpS_pure (h hi h1 h2 h3)
    case fin =>
      rintro c st' ⟨rfl, lo, hi, rfl, h1, h2, h3, h4, h5⟩
      have : lo = hi := by omega
      subst this
      exact ⟨rfl, lo, lo, rfl, h2, h4, h5⟩
    case step =>
      rintro x c st' _ hx ⟨rfl, lo, hi, rfl, h1, h2, h3, h4, h5⟩
      dsimp only
      by_cases q : lo ≥ hi
      · rw [if_pos q]
        have : lo = hi := by omega
        subst this
        exact wpS_pure ⟨rfl, lo, lo, rfl, h2, h4, h5⟩
      · rw [if_neg q]
        refine wpS_bind (bey _ _ (by omega) ?_)
        dsimp only
        cases hm : T (lo + (hi - lo) / 2) with
        | true =>
          simp only [if_true]
          refine wpS_pure ⟨rfl, _, hi, rfl, by omega, h2, by omega, fun i hi' => ?_, h5⟩
          exact mono i (lo + (hi - lo) / 2) (by omega) (by omega) hm
        | false =>
          simp only [Bool.false_eq_true, if_false]
          refine wpS_pure ⟨rfl, lo, _, rfl, by omega, by omega, by omega, h4, fun i h6 h7 => ?_⟩
          cases ht : T i with
          | false => rfl
          | true => rw [mono _ i h6 h7 ht] at hm; cases hm
  rw [gal_eq]
  dsimp only
  refine wpS_bind (bey hint _ hh ?_)
  dsimp only
  cases hr : T hint with
  | true =>
    simp only [if_true]
    refine wpS_bind (wpS_mono (wpS_forRange (I := fun x c st' => st' = st ∧ ∃ last ofs, c = (none, last, ofs) ∧ last < ofs ∧ x + 1 ≤ ofs ∧ hint + last < n ∧ T (hint + last) = true)
      (Q := fun c st' => st' = st ∧ ∃ last ofs, c = (none, last, ofs) ∧ last < ofs ∧ hint + last < n ∧ T (hint + last) = true ∧ (n - hint ≤ ofs ∨ T (hint + ofs) = false)) ?step ?fin ⟨rfl, 0, 1, rfl, by omega, by omega, by omega, hr⟩) ?post)
    case fin =>
      rintro c st' ⟨rfl, last, ofs, rfl, h1, h2, h3, h4⟩
      exact ⟨rfl, last, ofs, rfl, h1, h3, h4, .inl (by omega)⟩
    case step =>
      rintro x c st' _ hx ⟨rfl, last, ofs, rfl, h1, h2, h3, h4⟩
      dsimp only
      by_cases q : ofs ≥ n - hint
      · rw [if_pos q]
        exact wpS_pure ⟨rfl, last, ofs, rfl, h1, h3, h4, .inl q⟩
      · rw [if_neg q]
        refine wpS_bind (bey _ _ (by omega) ?_)
        dsimp only
        cases hm : T (hint + ofs) with
        | true =>
          simp only [Bool.not_true, Bool.false_eq_true, if_false]
          exact wpS_pure ⟨rfl, ofs, 2 * ofs + 1, rfl, by omega, by omega, by omega, hm⟩
        | false =>
          simp only [Bool.not_false, if_true]
          exact wpS_pure ⟨rfl, last, ofs, rfl, h1, h3, h4, .inr hm⟩
    case post =>
      rintro c st' ⟨rfl, last, ofs, rfl, h1, h2, h3, h4⟩
      dsimp only
      refine bin (hint + last + 1) (hint + min ofs (n - hint)) (by omega) (by omega) (fun i hi => mono i (hint + last) (by omega) h2 h3) fun i h5 h6 => ?_
      rcases h4 with q | q
      · omega
      · cases ht : T i with
        | false => rfl
        | true => rw [mono _ i (by omega) h6 ht] at q; cases q
  | false =>
    simp only [Bool.false_eq_true, if_false]
    refine wpS_bind (wpS_mono (wpS_forRange (I := fun x c st' => st' = st ∧ ∃ last ofs, c = (none, last, ofs) ∧ last < ofs ∧ x + 1 ≤ ofs ∧ last ≤ hint ∧ T (hint - last) = false)
      (Q := fun c st' => st' = st ∧ ∃ last ofs, c = (none, last, ofs) ∧ last < ofs ∧ last ≤ hint ∧ T (hint - last) = false ∧ (hint + 1 ≤ ofs ∨ (ofs ≤ hint ∧ T (hint - ofs) = true))) ?step ?fin ⟨rfl, 0, 1, rfl, by omega, by omega, by omega, hr⟩) ?post)
    case fin =>
      rintro c st' ⟨rfl, last, ofs, rfl, h1, h2, h3, h4⟩
      exact ⟨rfl, last, ofs, rfl, h1, h3, h4, .inl (by omega)⟩
    case step =>
      rintro x c st' _ hx ⟨rfl, last, ofs, rfl, h1, h2, h3, h4⟩
      dsimp only
      by_cases q : ofs ≥ hint + 1
      · rw [if_pos q]
        exact wpS_pure ⟨rfl, last, ofs, rfl, h1, h3, h4, .inl q⟩
      · rw [if_neg q]
        refine wpS_bind (bey _ _ (by omega) ?_)
        dsimp only
        cases hm : T (hint - ofs) with
        | true =>
          simp only [if_true]
          exact wpS_pure ⟨rfl, last, ofs, rfl, h1, h3, h4, .inr ⟨by omega, hm⟩⟩
        | false =>
          simp only [Bool.false_eq_true, if_false]
          exact wpS_pure ⟨rfl, ofs, 2 * ofs + 1, rfl, by omega, by omega, by omega, hm⟩
    case post =>
      rintro c st' ⟨rfl, last, ofs, rfl, h1, h2, h3, h4⟩
      dsimp only
      refine bin (hint + 1 - min ofs (hint + 1)) (hint - last) (by omega) (by omega) (fun i hi => ?_) fun i h5 h6 => ?_
      · rcases h4 with q | ⟨q1, q2⟩
        · omega
        · exact mono i (hint - ofs) (by omega) (by omega) q2
      · cases ht : T i with
        | false => rfl
        | true => rw [mono _ i h5 h6 ht] at h3; cases h3
end TS

namespace TS
open PySem PyProof.Rows
variable {C : Cmp}
def Srt (C : Cmp) (l : List Keyed) : Prop := l.Pairwise fun p q => C.key p ≤ C.key q
def Sm (st st' : SortSt) : Prop := kindOf st' = kindOf st ∧ arrOf st' = arrOf st ∧ pendingOf st' = pendingOf st ∧ failedOf st' = failedOf st
theorem Sm.refl (st : SortSt) : Sm st st := ⟨rfl, rfl, rfl, rfl⟩
theorem setMin_k {g : Nat} {st₀ st : SortSt} {Q : Unit → SortSt → Prop} (hs : Sm st₀ st) (h : ∀ st', Sm st₀ st' → Q () st') : W C (setMin g) Q st := by
  show W C (modify (fun s => SortSt.mk' (kindOf s) (arrOf s) (pendingOf s) g (failedOf s)) : StateT SortSt Sem Unit) Q st
  exact wpS_modify (h _ hs)
theorem rule_k {x : String} {st : SortSt} {Q : Unit → SortSt → Prop} (h : Q () st) : W C (liftM (rule x) : StateT SortSt Sem Unit) Q st := wpS_lift (wpAny_rule ⟨rfl, h⟩)
/-! ### merging from the left -/
structure MI (C : Cmp) (A B out : List Keyed) (i j : Nat) : Prop where
  perm : (out ++ (A.drop i ++ B.drop j)).Perm (A ++ B)
  srt : Srt C out
  low : ∀ x ∈ out, ∀ y ∈ A.drop i ++ B.drop j, C.key x ≤ C.key y
section
variable {A B out : List Keyed} {i j : Nat}
theorem Srt.drop (h : Srt C A) (n : Nat) : Srt C (A.drop n) := List.Pairwise.sublist (List.drop_sublist _ _) h
theorem Srt.take (h : Srt C A) (n : Nat) : Srt C (A.take n) := List.Pairwise.sublist (List.take_sublist _ _) h
theorem Srt.app (h : Srt C A) (h' : Srt C B) (hb : ∀ x ∈ A, ∀ y ∈ B, C.key x ≤ C.key y) : Srt C (A ++ B) := List.pairwise_append.mpr ⟨h, h', hb⟩
theorem MI.takeA (m : MI C A B out i j) (hA : Srt C A) (k : Nat) (h : ∀ x ∈ (A.drop i).take k, ∀ y ∈ B.drop j, C.key x ≤ C.key y) : MI C A B (out ++ (A.drop i).take k) (i + k) j := by
  have e : A.drop i = (A.drop i).take k ++ A.drop (i + k) := by rw [← List.drop_drop, List.take_append_drop]
  have hd := hA.drop i
  rw [e] at hd
  obtain ⟨_, _, h3⟩ := List.pairwise_append.mp hd
  refine ⟨?_, m.srt.app ((hA.drop i).take k) fun x hx y hy => m.low x hx y (List.mem_append_left _ (List.mem_of_mem_take hy)), fun x hx y hy => ?_⟩
  · have := m.perm
    rw [e] at this
    simpa [List.append_assoc] using this
  · rcases List.mem_append.mp hx with q | q
    · refine m.low x q y ?_
      rcases List.mem_append.mp hy with z | z
      · exact List.mem_append_left _ (by rw [e]; exact List.mem_append_right _ z)
      · exact List.mem_append_right _ z
    · rcases List.mem_append.mp hy with z | z
      · exact h3 x q y z
      · exact h x q y z
theorem MI.takeB (m : MI C A B out i j) (hB : Srt C B) (k : Nat) (h : ∀ x ∈ (B.drop j).take k, ∀ y ∈ A.drop i, C.key x ≤ C.key y) : MI C A B (out ++ (B.drop j).take k) i (j + k) := by
  have e : B.drop j = (B.drop j).take k ++ B.drop (j + k) := by rw [← List.drop_drop, List.take_append_drop]
  have hd := hB.drop j
  rw [e] at hd
  obtain ⟨_, _, h3⟩ := List.pairwise_append.mp hd
  refine ⟨?_, m.srt.app ((hB.drop j).take k) fun x hx y hy => m.low x hx y (List.mem_append_right _ (List.mem_of_mem_take hy)), fun x hx y hy => ?_⟩
  · refine List.Perm.trans ?_ m.perm
    rw [List.append_assoc]
    refine List.Perm.append_left _ ?_
    generalize (B.drop j).take k = ch at e ⊢
    rw [e, ← List.append_assoc, ← List.append_assoc]
    exact List.Perm.append_right _ List.perm_append_comm
  · rcases List.mem_append.mp hx with q | q
    · refine m.low x q y ?_
      rcases List.mem_append.mp hy with z | z
      · exact List.mem_append_left _ z
      · exact List.mem_append_right _ (by rw [e]; exact List.mem_append_right _ z)
    · rcases List.mem_append.mp hy with z | z
      · exact h x q y z
      · exact h3 x q y z
/-- sorted, and made of both -/
def Fin (C : Cmp) (A B r : List Keyed) : Prop := Srt C r ∧ r.Perm (A ++ B)
theorem MI.endB (m : MI C A B out i j) (hA : Srt C A) (h : B.length ≤ j) : Fin C A B (out ++ A.drop i ++ B.drop j) := by
  have e : B.drop j = [] := List.drop_of_length_le h
  refine ⟨?_, by have := m.perm; simpa [List.append_assoc] using this⟩
  rw [e, List.append_nil]
  exact m.srt.app (hA.drop i) fun x hx y hy => m.low x hx y (List.mem_append_left _ hy)
theorem MI.endA (m : MI C A B out i j) (hB : Srt C B) (h : A.length ≤ i) : Fin C A B (out ++ A.drop i ++ B.drop j) := by
  have e : A.drop i = [] := List.drop_of_length_le h
  refine ⟨?_, by have := m.perm; simpa [List.append_assoc] using this⟩
  rw [e, List.append_nil]
  exact m.srt.app (hB.drop j) fun x hx y hy => m.low x hx y (List.mem_append_right _ hy)
theorem MI.lastA (m : MI C A B out i j) (hA : Srt C A) (hB : Srt C B) (hl : ∀ x ∈ A.drop (A.length - 1), ∀ y ∈ B, C.key y ≤ C.key x) (h : i + 1 = A.length) : Fin C A B (out ++ B.drop j ++ A.drop i) := by
  have e : A.length - 1 = i := by omega
  rw [e] at hl
  refine ⟨?_, ?_⟩
  · refine (m.srt.app (hB.drop j) fun x hx y hy => m.low x hx y (List.mem_append_right _ hy)).app (hA.drop i) fun x hx y hy => ?_
    rcases List.mem_append.mp hx with q | q
    · exact m.low x q y (List.mem_append_left _ hy)
    · exact hl y hy x (List.mem_of_mem_drop q)
  · refine List.Perm.trans ?_ m.perm
    rw [List.append_assoc]
    exact List.Perm.append_left _ List.perm_append_comm
end
theorem mLo_eq (a b : Array Keyed) : mLo a b = (do
    rule "list.sort.merge-lo"
    let all := a.size + b.size
    let fin (res : Array Keyed) (i j : Nat) := res ++ a.extract i a.size ++ b.extract j b.size
    let lst (res : Array Keyed) (i j : Nat) := res ++ b.extract j b.size ++ a.extract i a.size
    let mut res : Array Keyed := #[← elem' b 0]
    let mut i := 0
    let mut j := 1
    if j == b.size then return fin res i j
    if i + 1 == a.size then return lst res i j
    let mut mg := gallopOf (← get)
    for _ in [0:all] do
      let mut ac := 0
      let mut bc := 0
      for _ in [0:all] do
        let some bw ← lt' (← elem' b j) (← elem' a i) | return fin res i j
        if bw then
          res := res.push (← elem' b j); j := j + 1; bc := bc + 1; ac := 0
          if j == b.size then return fin res i j
          if bc ≥ mg then break
        else
          res := res.push (← elem' a i); i := i + 1; ac := ac + 1; bc := 0
          if i + 1 == a.size then return lst res i j
          if ac ≥ mg then break
      rule "list.sort.gallop"
      mg := mg + 1
      for _ in [0:all] do
        if mg > 1 then mg := mg - 1
        setMin mg
        let some k ← gal false (← elem' b j) a i (a.size - i) 0 | return fin res i j
        ac := k
        if k > 0 then
          res := res ++ a.extract i (i + k); i := i + k
          if i + 1 == a.size then return lst res i j
          if i == a.size then return fin res i j
        res := res.push (← elem' b j); j := j + 1
        if j == b.size then return fin res i j
        let some k ← gal true (← elem' a i) b j (b.size - j) 0 | return fin res i j
        bc := k
        if k > 0 then
          res := res ++ b.extract j (j + k); j := j + k
          if j == b.size then return fin res i j
        res := res.push (← elem' a i); i := i + 1
        if i + 1 == a.size then return lst res i j
        if ac < 7 && bc < 7 then break
      mg := mg + 1
      setMin mg
    unsupported "internal:list.sort.merge-bound") := rfl
/-! the turn of the galloping loop, in parts -/
abbrev GS := Option (Array Keyed) × Array Keyed × Nat × Nat × Nat × Nat × Nat
def lo4 (a b : Array Keyed) (mg ac bc : Nat) (res : Array Keyed) (i j : Nat) : StateT SortSt Sem (ForInStep GS) := do
  let x ← elem' a i
  if (i + 1 + 1 == a.size) = true then pure (.done (some (res.push x ++ b.extract j b.size ++ a.extract (i + 1) a.size), res.push x, i + 1, j, mg, ac, bc))
  else if (decide (ac < 7) && decide (bc < 7)) = true then pure (.done (none, res.push x, i + 1, j, mg, ac, bc)) else pure (.yield (none, res.push x, i + 1, j, mg, ac, bc))
def lo3 (a b : Array Keyed) (mg ac bc : Nat) (res : Array Keyed) (i j : Nat) : StateT SortSt Sem (ForInStep GS) := do
  let y ← elem' a i
  let z ← gal true y b j (b.size - j) 0
  match z with
  | some k => (if k > 0 then (if (j + k == b.size) = true then pure (.done (some (res ++ b.extract j (j + k) ++ a.extract i a.size ++ b.extract (j + k) b.size), res ++ b.extract j (j + k), i, j + k, mg, ac, k)) else lo4 a b mg ac k (res ++ b.extract j (j + k)) i (j + k)) else lo4 a b mg ac k res i j : StateT SortSt Sem (ForInStep GS))
  | _ => pure (.done (some (res ++ a.extract i a.size ++ b.extract j b.size), res, i, j, mg, ac, bc))
def lo2 (a b : Array Keyed) (mg ac bc : Nat) (res : Array Keyed) (i j : Nat) : StateT SortSt Sem (ForInStep GS) := do
  let y ← elem' b j
  if (j + 1 == b.size) = true then pure (.done (some (res.push y ++ a.extract i a.size ++ b.extract (j + 1) b.size), res.push y, i, j + 1, mg, ac, bc))
  else lo3 a b mg ac bc (res.push y) i (j + 1)
def lo1 (a b : Array Keyed) (mg ac bc : Nat) (res : Array Keyed) (i j : Nat) : StateT SortSt Sem (ForInStep GS) := do
  setMin mg
  let y ← elem' b j
  let z ← gal false y a i (a.size - i) 0
  match z with
  | some k => (if k > 0 then (if (i + k + 1 == a.size) = true then pure (.done (some (res ++ a.extract i (i + k) ++ b.extract j b.size ++ a.extract (i + k) a.size), res ++ a.extract i (i + k), i + k, j, mg, k, bc))
      else if (i + k == a.size) = true then pure (.done (some (res ++ a.extract i (i + k) ++ a.extract (i + k) a.size ++ b.extract j b.size), res ++ a.extract i (i + k), i + k, j, mg, k, bc))
      else lo2 a b mg k bc (res ++ a.extract i (i + k)) (i + k) j) else lo2 a b mg k bc res i j : StateT SortSt Sem (ForInStep GS))
  | _ => pure (.done (some (res ++ a.extract i a.size ++ b.extract j b.size), res, i, j, mg, ac, bc))
section
variable {a b res : Array Keyed} {i j k : Nat}
theorem ex_to (a : Array Keyed) (i : Nat) : (a.extract i a.size).toList = a.toList.drop i := by
  simp [Array.toList_extract, List.extract_eq_take_drop]
  exact List.take_of_length_le (by simp)
theorem ex_ch (a : Array Keyed) (i k : Nat) : (a.extract i (i + k)).toList = (a.toList.drop i).take k := by
  simp [Array.toList_extract, List.extract_eq_take_drop]
theorem one_of (a : Array Keyed) {i : Nat} (h : i < a.size) : (a.toList.drop i).take 1 = [a[i]] := by
  rw [List.drop_eq_getElem_cons (by simpa using h)]; simp
theorem mem_ch {x : Keyed} (h : x ∈ (a.toList.drop i).take k) : ∃ t, t < k ∧ ∃ q : i + t < a.size, x = a[i + t] := by
  obtain ⟨t, ht, e⟩ := List.getElem_of_mem h
  have h1 : t < k := by simp at ht; omega
  have h2 : i + t < a.size := by simp at ht; omega
  exact ⟨t, h1, h2, by rw [← e]; simp [List.getElem_take, List.getElem_drop]⟩
theorem mem_dr {x : Keyed} (h : x ∈ a.toList.drop i) : ∃ t, i ≤ t ∧ ∃ q : t < a.size, x = a[t] := by
  obtain ⟨t, ht, e⟩ := List.getElem_of_mem h
  have h2 : i + t < a.size := by simp at ht; omega
  exact ⟨i + t, by omega, h2, by rw [← e]; simp [List.getElem_drop]⟩
theorem srt_le (h : Srt C a.toList) {s t : Nat} (hst : s ≤ t) (ht : t < a.size) : C.key (a[s]'(by omega)) ≤ C.key a[t] := by
  rcases Nat.lt_or_ge s t with q | q
  · have := List.pairwise_iff_getElem.mp h s t (by simp; omega) (by simpa using ht) q
    simpa using this
  · have : s = t := by omega
    subst this; exact Int.le_refl _
theorem srt_kx (h : Srt C a.toList) {s t : Nat} (hst : s ≤ t) (ht : t < a.size) : kx C a s ≤ kx C a t := by
  rw [kx_at a (by omega), kx_at a ht]; exact srt_le h hst ht
end
/-- what both runs are -/
structure Two (C : Cmp) (a b : Array Keyed) : Prop where
  sa : Srt C a.toList
  sb : Srt C b.toList
  ma : ∀ p ∈ a.toList, C.S p
  mb : ∀ p ∈ b.toList, C.S p
  na : 1 ≤ a.size
  nb : 1 ≤ b.size
  first : ∀ y ∈ a.toList, ∀ x ∈ b.toList.take 1, C.key x ≤ C.key y
  last : ∀ x ∈ a.toList.drop (a.size - 1), ∀ y ∈ b.toList, C.key y ≤ C.key x
section
variable {a b : Array Keyed} {st₀ : SortSt} {n0 : Nat}
def EndG (C : Cmp) (a b : Array Keyed) (st₀ : SortSt) (r : Option (Array Keyed)) (st' : SortSt) : Prop := Sm st₀ st' ∧ ∃ x, r = some x ∧ Fin C a.toList b.toList x.toList
def GoG (C : Cmp) (a b : Array Keyed) (st₀ : SortSt) (n0 : Nat) (r : Option (Array Keyed)) (res : Array Keyed) (i j : Nat) (st' : SortSt) : Prop := Sm st₀ st' ∧ r = none ∧ MI C a.toList b.toList res.toList i j ∧ i + 1 < a.size ∧ j < b.size ∧ n0 < i + j
def TurnG (C : Cmp) (a b : Array Keyed) (st₀ : SortSt) (n0 : Nat) (r : ForInStep GS) (st' : SortSt) : Prop := match r with
  | .done c => EndG C a b st₀ c.1 st' ∨ GoG C a b st₀ n0 c.1 c.2.1 c.2.2.1 c.2.2.2.1 st'
  | .yield c => GoG C a b st₀ n0 c.1 c.2.1 c.2.2.1 c.2.2.2.1 st'
variable {mg ac bc i j : Nat} {res : Array Keyed} {st : SortSt}
theorem lo4_k (T : Two C a b) (hs : Sm st₀ st) (m : MI C a.toList b.toList res.toList i j) (hi : i + 1 < a.size) (hj : j < b.size) (hn : n0 ≤ i + j) (hc : ∀ y ∈ b.toList.drop j, C.key (a[i]'(by omega)) ≤ C.key y) : W C (lo4 a b mg ac bc res i j) (TurnG C a b st₀ n0) st := by
  have hi' : i < a.size := by omega
  refine wpS_bind (elem_at hi' ?_)
  have m' := m.takeA T.sa 1 (fun x hx y hy => by rw [one_of a hi'] at hx; rw [List.mem_singleton.mp hx]; exact hc y hy)
  rw [one_of a hi', ← Array.toList_push] at m'
  by_cases q : i + 1 + 1 = a.size
  · rw [if_pos (by simpa using q)]
    refine wpS_pure (.inl ⟨hs, _, rfl, ?_⟩)
    rw [Array.toList_append, Array.toList_append, ex_to, ex_to]
    exact m'.lastA T.sa T.sb (by simpa using T.last) (by simpa using q)
  · rw [if_neg (by simpa using q)]
    have g : GoG C a b st₀ n0 none (res.push a[i]) (i + 1) j st := ⟨hs, rfl, m', by omega, hj, by omega⟩
    split
    · exact wpS_pure (.inr g)
    · exact wpS_pure g
theorem lo3_k (T : Two C a b) (hk : kindOf st = C.kd) (hs : Sm st₀ st) (m : MI C a.toList b.toList res.toList i j) (hi : i + 1 < a.size) (hj : j < b.size) (hn : n0 ≤ i + j) : W C (lo3 a b mg ac bc res i j) (TurnG C a b st₀ n0) st := by
  have hi' : i < a.size := by omega
  refine wpS_bind (elem_at hi' (wpS_bind (gal_spec (fun t => decide (kx C b (j + t) < C.key a[i])) hk (T.ma _ (by simp)) T.mb (by omega) (by omega) (fun t _ => rfl) (fun s t h1 h2 h3 => ?_) fun k h1 h2 h3 => ?_)))
  · exact decide_eq_true (Int.lt_of_le_of_lt (srt_kx T.sb (by omega) (by omega)) (of_decide_eq_true h3))
  · dsimp only
    have lowc : ∀ x ∈ (b.toList.drop j).take k, C.key x < C.key a[i] := fun x hx => by
      obtain ⟨t, ht, q, rfl⟩ := mem_ch hx
      have := of_decide_eq_true (h2 t ht)
      rwa [kx_at b q] at this
    have m' := m.takeB T.sb k (fun x hx y hy => by
      obtain ⟨t, ht, q, rfl⟩ := mem_dr hy
      have := lowc x hx
      have := srt_le T.sa ht q
      omega)
    have hc : ∀ y ∈ b.toList.drop (j + k), C.key a[i] ≤ C.key y := fun y hy => by
      obtain ⟨t, ht, q, rfl⟩ := mem_dr hy
      have := of_decide_eq_false (h3 (t - j) (by omega) (by omega))
      rw [show j + (t - j) = t by omega, kx_at b q] at this
      omega
    by_cases hk0 : k > 0
    · rw [if_pos hk0]
      by_cases q : j + k = b.size
      · rw [if_pos (by simpa using q)]
        refine wpS_pure (.inl ⟨hs, _, rfl, ?_⟩)
        rw [Array.toList_append, Array.toList_append, Array.toList_append, ex_to, ex_to, ex_ch]
        exact m'.endB T.sa (by simp; omega)
      · rw [if_neg (by simpa using q)]
        refine lo4_k T hs ?_ hi (by omega) (by omega) hc
        rw [Array.toList_append, ex_ch]; exact m'
    · rw [if_neg hk0]
      have : k = 0 := by omega
      subst this
      exact lo4_k T hs m hi hj hn hc
theorem lo2_k (T : Two C a b) (hk : kindOf st = C.kd) (hs : Sm st₀ st) (m : MI C a.toList b.toList res.toList i j) (hi : i + 1 < a.size) (hj : j < b.size) (hn : n0 ≤ i + j) (hc : ∀ y ∈ a.toList.drop i, C.key b[j] ≤ C.key y) : W C (lo2 a b mg ac bc res i j) (TurnG C a b st₀ n0) st := by
  refine wpS_bind (elem_at hj ?_)
  have m' := m.takeB T.sb 1 (fun x hx y hy => by rw [one_of b hj] at hx; rw [List.mem_singleton.mp hx]; exact hc y hy)
  rw [one_of b hj, ← Array.toList_push] at m'
  by_cases q : j + 1 = b.size
  · rw [if_pos (by simpa using q)]
    refine wpS_pure (.inl ⟨hs, _, rfl, ?_⟩)
    rw [Array.toList_append, Array.toList_append, ex_to, ex_to]
    exact m'.endB T.sa (by simp; omega)
  · rw [if_neg (by simpa using q)]
    exact lo3_k T hk hs m' hi (by omega) (by omega)
theorem lo1_k (T : Two C a b) (hk : kindOf st₀ = C.kd) (hs : Sm st₀ st) (m : MI C a.toList b.toList res.toList i j) (hi : i + 1 < a.size) (hj : j < b.size) (hn : n0 ≤ i + j) : W C (lo1 a b mg ac bc res i j) (TurnG C a b st₀ n0) st := by
  refine wpS_bind (setMin_k hs fun st hs => ?_)
  have hk' : kindOf st = C.kd := hs.1.trans hk
  refine wpS_bind (elem_at hj (wpS_bind (gal_spec (fun t => !decide (C.key b[j] < kx C a (i + t))) hk' (T.mb _ (by simp)) T.ma (by omega) (by omega) (fun t _ => rfl) (fun s t h1 h2 h3 => ?_) fun k h1 h2 h3 => ?_)))
  · have q := srt_kx T.sa (show i + s ≤ i + t by omega) (by omega)
    simp only [Bool.not_eq_true', decide_eq_false_iff_not] at h3 ⊢
    omega
  · dsimp only
    have lowc : ∀ x ∈ (a.toList.drop i).take k, C.key x ≤ C.key b[j] := fun x hx => by
      obtain ⟨t, ht, q, rfl⟩ := mem_ch hx
      have := h2 t ht
      simp only [Bool.not_eq_true', decide_eq_false_iff_not] at this
      rw [kx_at a q] at this
      omega
    have m' := m.takeA T.sa k (fun x hx y hy => by
      obtain ⟨t, ht, q, rfl⟩ := mem_dr hy
      have := lowc x hx
      have := srt_le T.sb ht q
      omega)
    have hc : ∀ y ∈ a.toList.drop (i + k), C.key b[j] ≤ C.key y := fun y hy => by
      obtain ⟨t, ht, q, rfl⟩ := mem_dr hy
      have := h3 (t - i) (by omega) (by omega)
      simp only [Bool.not_eq_false', decide_eq_true_eq] at this
      rw [show i + (t - i) = t by omega, kx_at a q] at this
      omega
    by_cases hk0 : k > 0
    · rw [if_pos hk0]
      by_cases q : i + k + 1 = a.size
      · rw [if_pos (by simpa using q)]
        refine wpS_pure (.inl ⟨hs, _, rfl, ?_⟩)
        rw [Array.toList_append, Array.toList_append, Array.toList_append, ex_to, ex_to, ex_ch]
        exact m'.lastA T.sa T.sb (by simpa using T.last) (by simpa using q)
      · rw [if_neg (by simpa using q)]
        by_cases q2 : i + k = a.size
        · rw [if_pos (by simpa using q2)]
          refine wpS_pure (.inl ⟨hs, _, rfl, ?_⟩)
          rw [Array.toList_append, Array.toList_append, Array.toList_append, ex_to, ex_to, ex_ch]
          exact m'.endA T.sb (by simp; omega)
        · rw [if_neg (by simpa using q2)]
          refine lo2_k T hk' hs ?_ (by omega) hj (by omega) hc
          rw [Array.toList_append, ex_ch]; exact m'
    · rw [if_neg hk0]
      have : k = 0 := by omega
      subst this
      exact lo2_k T hk' hs m hi hj hn hc
end
end TS

namespace TS
open PySem PyProof.Rows
variable {C : Cmp} {a b : Array Keyed}
theorem mi0 (T : Two C a b) : MI C a.toList b.toList [b[0]'T.nb] 0 1 := by
  have m : MI C a.toList b.toList [] 0 0 := ⟨by simp, List.Pairwise.nil, fun x hx => by simp at hx⟩
  have := m.takeB T.sb 1 (fun x hx y hy => T.first y (by simpa using hy) x (by simpa using hx))
  rw [one_of b T.nb] at this
  simpa using this
theorem mLo_k {st : SortSt} {Q : Array Keyed → SortSt → Prop} (T : Two C a b) (hk : kindOf st = C.kd) (h : ∀ r st', Sm st st' → Fin C a.toList b.toList r.toList → Q r st') : W C (mLo a b) Q st := by
  have na := T.na
  have nb := T.nb
  have m0 := mi0 T
  rw [mLo_eq]
  dsimp only
  refine wpS_bind (rule_k (wpS_bind (elem_at T.nb ?_)))
  by_cases q : 1 = b.size
  · rw [if_pos (by simpa using q)]
    refine wpS_pure (h _ st (Sm.refl _) ?_)
    rw [Array.toList_append, Array.toList_append, ex_to, ex_to]
    exact m0.endB T.sa (by simp; omega)
  rw [if_neg (by simpa using q)]
  by_cases q : 0 + 1 = a.size
  · rw [if_pos (by simpa using q)]
    refine wpS_pure (h _ st (Sm.refl _) ?_)
    rw [Array.toList_append, Array.toList_append, ex_to, ex_to]
    exact m0.lastA T.sa T.sb (by simpa using T.last) (by simpa using q)
  rw [if_neg (by simpa using q)]
  refine wpS_bind (wpS_get ?_)
  refine wpS_bind (wpS_mono (wpS_forRange (I := fun x c st' => ∃ res i j mg, c = (none, res, i, j, mg) ∧ GoG C a b st x none res i j st') (Q := fun c st' => EndG C a b st c.1 st') ?step ?fin ⟨_, _, _, _, rfl, Sm.refl _, rfl, m0, by omega, by omega, by omega⟩) ?post)
  case post =>
    rintro ⟨c1, c2⟩ st' ⟨hs, x, rfl, hf⟩
    exact wpS_pure (h x st' hs hf)
  case fin =>
    rintro c st' ⟨res, i, j, mg, rfl, hs, _, m, h1, h2, h3⟩
    omega
  case step =>
    rintro x c st' _ hx ⟨res, i, j, mg, rfl, hs, _, m, h1, h2, h3⟩
    dsimp only
    refine wpS_bind (wpS_mono (wpS_forRange (I := fun y c st'' => ∃ res i j ac bc, c = (none, res, i, j, ac, bc) ∧ GoG C a b st (x + y) none res i j st'')
      (Q := fun c st'' => EndG C a b st c.1 st'' ∨ ∃ res i j ac bc, c = (none, res, i, j, ac, bc) ∧ GoG C a b st (x + 1) none res i j st'') ?step1 ?fin1 ⟨_, _, _, _, _, rfl, hs, rfl, m, h1, h2, h3⟩) ?post1)
    case fin1 =>
      rintro c st'' ⟨res, i, j, ac, bc, rfl, hs, _, m, h1, h2, h3⟩
      omega
    case step1 =>
      rintro y c st'' _ hy ⟨res, i, j, ac, bc, rfl, hs, _, m, h1, h2, h3⟩
      dsimp only
      have hi : i < a.size := by omega
      refine wpS_bind (elem_at h2 (wpS_bind (elem_at hi (wpS_bind (C.lt st'' _ _ _ (T.mb _ (by simp)) (T.ma _ (by simp)) (hs.1.trans hk) ?_)))))
      dsimp only
      by_cases hlt : C.key b[j] < C.key a[i]
      · simp only [hlt, decide_true, if_true]
        refine wpS_bind (elem_at h2 ?_)
        have m' := m.takeB T.sb 1 (fun x hx y hy => by
          rw [one_of b h2] at hx; rw [List.mem_singleton.mp hx]
          obtain ⟨t, ht, q, rfl⟩ := mem_dr hy
          have := srt_le T.sa ht q
          omega)
        rw [one_of b h2, ← Array.toList_push] at m'
        by_cases q : j + 1 = b.size
        · rw [if_pos (by simpa using q)]
          refine wpS_pure (.inl ⟨hs, _, rfl, ?_⟩)
          rw [Array.toList_append, Array.toList_append, ex_to, ex_to]
          exact m'.endB T.sa (by simp; omega)
        · rw [if_neg (by simpa using q)]
          split
          · exact wpS_pure (.inr ⟨_, _, _, _, _, rfl, hs, rfl, m', h1, by omega, by omega⟩)
          · exact wpS_pure ⟨_, _, _, _, _, rfl, hs, rfl, m', h1, by omega, by omega⟩
      · simp only [hlt, decide_false, Bool.false_eq_true, if_false]
        refine wpS_bind (elem_at hi ?_)
        have m' := m.takeA T.sa 1 (fun x hx y hy => by
          rw [one_of a hi] at hx; rw [List.mem_singleton.mp hx]
          obtain ⟨t, ht, q, rfl⟩ := mem_dr hy
          have := srt_le T.sb ht q
          omega)
        rw [one_of a hi, ← Array.toList_push] at m'
        by_cases q : i + 1 + 1 = a.size
        · rw [if_pos (by simpa using q)]
          refine wpS_pure (.inl ⟨hs, _, rfl, ?_⟩)
          rw [Array.toList_append, Array.toList_append, ex_to, ex_to]
          exact m'.lastA T.sa T.sb (by simpa using T.last) (by simpa using q)
        · rw [if_neg (by simpa using q)]
          split
          · exact wpS_pure (.inr ⟨_, _, _, _, _, rfl, hs, rfl, m', by omega, h2, by omega⟩)
          · exact wpS_pure ⟨_, _, _, _, _, rfl, hs, rfl, m', by omega, h2, by omega⟩
    case post1 =>
      rintro ⟨c1, c2⟩ st'' (⟨hs, r, hr, hf⟩ | ⟨res, i, j, ac, bc, e, hs, _, m, h1, h2, h3⟩)
      · simp only at hr
        subst hr
        exact wpS_pure ⟨hs, r, rfl, hf⟩
      · cases e
        dsimp only
        refine wpS_bind (rule_k ?_)
        refine wpS_bind (wpS_mono (wpS_forRange (I := fun y c st3 => ∃ res i j mg ac bc, c = (none, res, i, j, mg, ac, bc) ∧ GoG C a b st (x + 1 + y) none res i j st3)
          (Q := fun c st3 => EndG C a b st c.1 st3 ∨ ∃ res i j mg ac bc, c = (none, res, i, j, mg, ac, bc) ∧ GoG C a b st (x + 1) none res i j st3) ?step2 ?fin2 ⟨_, _, _, _, _, _, rfl, hs, rfl, m, h1, h2, by omega⟩) ?post2)
        case fin2 =>
          rintro c st3 ⟨res, i, j, mg, ac, bc, rfl, hs, _, m, h1, h2, h3⟩
          omega
        case step2 =>
          rintro y c st3 _ hy ⟨res, i, j, mg, ac, bc, rfl, hs, _, m, h1, h2, h3⟩
          dsimp only
          have key := fun mg => lo1_k (mg := mg) (ac := ac) (bc := bc) (n0 := x + 1 + (y + 1)) T hk hs m h1 h2 (by omega)
          rcases Nat.lt_or_ge 1 mg with hm | hm
          · rw [if_pos hm]
            refine wpS_mono (key (mg - 1)) ?_
            intro r st4 hr
            cases r with
            | done c =>
              obtain ⟨c1, c2, c3, c4, c5, c6, c7⟩ := c
              rcases hr with q | q
              · exact .inl q
              · obtain ⟨g1, g2, g3, g4, g5, g6⟩ := q
                simp only at g2 g3 g4 g5 g6
                subst g2
                exact .inr ⟨_, _, _, _, _, _, rfl, g1, rfl, g3, g4, g5, by omega⟩
            | yield c =>
              obtain ⟨c1, c2, c3, c4, c5, c6, c7⟩ := c
              obtain ⟨g1, g2, g3, g4, g5, g6⟩ := hr
              simp only at g2 g3 g4 g5 g6
              subst g2
              exact ⟨_, _, _, _, _, _, rfl, g1, rfl, g3, g4, g5, g6⟩
          · rw [if_neg (by omega)]
            refine wpS_mono (key mg) ?_
            intro r st4 hr
            cases r with
            | done c =>
              obtain ⟨c1, c2, c3, c4, c5, c6, c7⟩ := c
              rcases hr with q | q
              · exact .inl q
              · obtain ⟨g1, g2, g3, g4, g5, g6⟩ := q
                simp only at g2 g3 g4 g5 g6
                subst g2
                exact .inr ⟨_, _, _, _, _, _, rfl, g1, rfl, g3, g4, g5, by omega⟩
            | yield c =>
              obtain ⟨c1, c2, c3, c4, c5, c6, c7⟩ := c
              obtain ⟨g1, g2, g3, g4, g5, g6⟩ := hr
              simp only at g2 g3 g4 g5 g6
              subst g2
              exact ⟨_, _, _, _, _, _, rfl, g1, rfl, g3, g4, g5, g6⟩
        case post2 =>
          rintro ⟨c1, c2⟩ st3 (⟨hs, r, hr, hf⟩ | ⟨res, i, j, mg, ac, bc, e, hs, _, m, h1, h2, h3⟩)
          · simp only at hr
            subst hr
            exact wpS_pure ⟨hs, r, rfl, hf⟩
          · cases e
            dsimp only
            refine wpS_bind (setMin_k hs fun st4 hs4 => ?_)
            exact wpS_pure ⟨_, _, _, _, rfl, hs4, rfl, m, h1, h2, h3⟩
end TS

namespace TS
open PySem PyProof.Rows
variable {C : Cmp}
/-! ### merging from the right -/
structure MH (C : Cmp) (A B R : List Keyed) (p q : Nat) : Prop where
  perm : (A.take p ++ B.take q ++ R).Perm (A ++ B)
  srt : Srt C R
  high : ∀ x ∈ A.take p ++ B.take q, ∀ y ∈ R, C.key x ≤ C.key y
section
variable {A B R : List Keyed} {p q : Nat}
theorem cut_at (A : List Keyed) {p r : Nat} (h : r ≤ p) : A.take p = A.take r ++ (A.take p).drop r := by
  have : A.take r = (A.take p).take r := by rw [List.take_take, Nat.min_eq_left h]
  rw [this, List.take_append_drop]
theorem MH.takeA (m : MH C A B R p q) (hA : Srt C A) {r : Nat} (hr : r ≤ p) (h : ∀ y ∈ (A.take p).drop r, ∀ x ∈ B.take q, C.key x ≤ C.key y) : MH C A B ((A.take p).drop r ++ R) r q := by
  have e := cut_at A hr
  have hd := hA.take p
  rw [e] at hd
  obtain ⟨_, _, h3⟩ := List.pairwise_append.mp hd
  have sc : Srt C ((A.take p).drop r) := (hA.take p).drop r
  have mm : ∀ y ∈ (A.take p).drop r, y ∈ A.take p := fun y hy => List.mem_of_mem_drop hy
  generalize (A.take p).drop r = ch at e h h3 sc mm ⊢
  refine ⟨?_, sc.app m.srt fun x hx y hy => m.high x (List.mem_append_left _ (mm x hx)) y hy, fun x hx y hy => ?_⟩
  · refine List.Perm.trans ?_ m.perm
    rw [e]
    simp only [List.append_assoc]
    refine List.Perm.append_left _ ?_
    rw [← List.append_assoc, ← List.append_assoc]
    exact List.Perm.append_right _ List.perm_append_comm
  · rcases List.mem_append.mp hy with z | z
    · rcases List.mem_append.mp hx with w | w
      · exact h3 x w y z
      · exact h y z x w
    · refine m.high x ?_ y z
      rcases List.mem_append.mp hx with w | w
      · exact List.mem_append_left _ (by rw [e]; exact List.mem_append_left _ w)
      · exact List.mem_append_right _ w
theorem MH.takeB (m : MH C A B R p q) (hB : Srt C B) {r : Nat} (hr : r ≤ q) (h : ∀ y ∈ (B.take q).drop r, ∀ x ∈ A.take p, C.key x ≤ C.key y) : MH C A B ((B.take q).drop r ++ R) p r := by
  have e := cut_at B hr
  have hd := hB.take q
  rw [e] at hd
  obtain ⟨_, _, h3⟩ := List.pairwise_append.mp hd
  have sc : Srt C ((B.take q).drop r) := (hB.take q).drop r
  have mm : ∀ y ∈ (B.take q).drop r, y ∈ B.take q := fun y hy => List.mem_of_mem_drop hy
  generalize (B.take q).drop r = ch at e h h3 sc mm ⊢
  refine ⟨?_, sc.app m.srt fun x hx y hy => m.high x (List.mem_append_right _ (mm x hx)) y hy, fun x hx y hy => ?_⟩
  · have := m.perm
    rw [e] at this
    simpa [List.append_assoc] using this
  · rcases List.mem_append.mp hy with z | z
    · rcases List.mem_append.mp hx with w | w
      · exact h y z x w
      · exact h3 x w y z
    · refine m.high x ?_ y z
      rcases List.mem_append.mp hx with w | w
      · exact List.mem_append_left _ w
      · exact List.mem_append_right _ (by rw [e]; exact List.mem_append_left _ w)
theorem MH.endA (m : MH C A B R p q) (hp : p = 0) (hB : Srt C B) : Fin C A B (A.take p ++ B.take q ++ R) := by
  subst hp
  exact ⟨by simpa using (hB.take q).app m.srt fun x hx y hy => m.high x (List.mem_append_right _ hx) y hy, m.perm⟩
theorem MH.endB (m : MH C A B R p q) (hq : q = 0) (hA : Srt C A) : Fin C A B (A.take p ++ B.take q ++ R) := by
  subst hq
  exact ⟨by simpa using (hA.take p).app m.srt fun x hx y hy => m.high x (List.mem_append_left _ hx) y hy, m.perm⟩
theorem MH.firstB (m : MH C A B R p q) (hq : q = 1) (hA : Srt C A) (hB : Srt C B) (hf : ∀ y ∈ A, ∀ x ∈ B.take 1, C.key x ≤ C.key y) : Fin C A B (B.take q ++ A.take p ++ R) := by
  subst hq
  refine ⟨((hB.take 1).app (hA.take p) fun x hx y hy => hf y (List.mem_of_mem_take hy) x hx).app m.srt fun x hx y hy => ?_, ?_⟩
  · refine m.high x ?_ y hy
    rcases List.mem_append.mp hx with w | w
    · exact List.mem_append_right _ w
    · exact List.mem_append_left _ w
  · exact (List.Perm.append_right _ List.perm_append_comm).trans m.perm
end
theorem mHi_eq (a b : Array Keyed) : mHi a b = (do
    rule "list.sort.merge-hi"
    let all := a.size + b.size
    let fin (res : Array Keyed) (p q : Nat) := a.extract 0 p ++ b.extract 0 q ++ res.reverse
    let fst (res : Array Keyed) (p q : Nat) := b.extract 0 q ++ a.extract 0 p ++ res.reverse
    let mut p := a.size - 1
    let mut q := b.size
    let mut res : Array Keyed := #[← elem' a p]
    if p == 0 then return fin res p q
    if q == 1 then return fst res p q
    let mut mg := gallopOf (← get)
    for _ in [0:all] do
      let mut ac := 0
      let mut bc := 0
      for _ in [0:all] do
        let some aw ← lt' (← elem' b (q - 1)) (← elem' a (p - 1)) | return fin res p q
        if aw then
          p := p - 1; res := res.push (← elem' a p); ac := ac + 1; bc := 0
          if p == 0 then return fin res p q
          if ac ≥ mg then break
        else
          q := q - 1; res := res.push (← elem' b q); bc := bc + 1; ac := 0
          if q == 1 then return fst res p q
          if bc ≥ mg then break
      rule "list.sort.gallop"
      mg := mg + 1
      for _ in [0:all] do
        if mg > 1 then mg := mg - 1
        setMin mg
        let some t ← gal false (← elem' b (q - 1)) a 0 p (p - 1) | return fin res p q
        let k := p - t
        ac := k
        if k > 0 then
          res := res ++ (a.extract t p).reverse; p := t
          if p == 0 then return fin res p q
        q := q - 1; res := res.push (← elem' b q)
        if q == 1 then return fst res p q
        let some t ← gal true (← elem' a (p - 1)) b 0 q (q - 1) | return fin res p q
        let k := q - t
        bc := k
        if k > 0 then
          res := res ++ (b.extract t q).reverse; q := t
          if q == 1 then return fst res p q
          if q == 0 then return fin res p q
        p := p - 1; res := res.push (← elem' a p)
        if p == 0 then return fin res p q
        if ac < 7 && bc < 7 then break
      mg := mg + 1
      setMin mg
    unsupported "internal:list.sort.merge-bound") := rfl
abbrev HS := Option (Array Keyed) × Nat × Nat × Array Keyed × Nat × Nat × Nat
def hi4 (a b : Array Keyed) (mg ac bc : Nat) (res : Array Keyed) (p q : Nat) : StateT SortSt Sem (ForInStep HS) := do
  let x ← elem' a (p - 1)
  if (p - 1 == 0) = true then pure (.done (some (a.extract 0 (p - 1) ++ b.extract 0 q ++ (res.push x).reverse), p - 1, q, res.push x, mg, ac, bc))
  else if (decide (ac < 7) && decide (bc < 7)) = true then pure (.done (none, p - 1, q, res.push x, mg, ac, bc)) else pure (.yield (none, p - 1, q, res.push x, mg, ac, bc))
def hi3 (a b : Array Keyed) (mg ac bc : Nat) (res : Array Keyed) (p q : Nat) : StateT SortSt Sem (ForInStep HS) := do
  let y ← elem' a (p - 1)
  let z ← gal true y b 0 q (q - 1)
  match z with
  | some t => (if q - t > 0 then (if (t == 1) = true then pure (.done (some (b.extract 0 t ++ a.extract 0 p ++ (res ++ (b.extract t q).reverse).reverse), p, t, res ++ (b.extract t q).reverse, mg, ac, q - t))
      else if (t == 0) = true then pure (.done (some (a.extract 0 p ++ b.extract 0 t ++ (res ++ (b.extract t q).reverse).reverse), p, t, res ++ (b.extract t q).reverse, mg, ac, q - t))
      else hi4 a b mg ac (q - t) (res ++ (b.extract t q).reverse) p t) else hi4 a b mg ac (q - t) res p q : StateT SortSt Sem (ForInStep HS))
  | _ => pure (.done (some (a.extract 0 p ++ b.extract 0 q ++ res.reverse), p, q, res, mg, ac, bc))
def hi2 (a b : Array Keyed) (mg ac bc : Nat) (res : Array Keyed) (p q : Nat) : StateT SortSt Sem (ForInStep HS) := do
  let y ← elem' b (q - 1)
  if (q - 1 == 1) = true then pure (.done (some (b.extract 0 (q - 1) ++ a.extract 0 p ++ (res.push y).reverse), p, q - 1, res.push y, mg, ac, bc))
  else hi3 a b mg ac bc (res.push y) p (q - 1)
def hi1 (a b : Array Keyed) (mg ac bc : Nat) (res : Array Keyed) (p q : Nat) : StateT SortSt Sem (ForInStep HS) := do
  setMin mg
  let y ← elem' b (q - 1)
  let z ← gal false y a 0 p (p - 1)
  match z with
  | some t => (if p - t > 0 then (if (t == 0) = true then pure (.done (some (a.extract 0 t ++ b.extract 0 q ++ (res ++ (a.extract t p).reverse).reverse), t, q, res ++ (a.extract t p).reverse, mg, p - t, bc))
      else hi2 a b mg (p - t) bc (res ++ (a.extract t p).reverse) t q) else hi2 a b mg (p - t) bc res p q : StateT SortSt Sem (ForInStep HS))
  | _ => pure (.done (some (a.extract 0 p ++ b.extract 0 q ++ res.reverse), p, q, res, mg, ac, bc))
section
variable {a b res : Array Keyed} {p q r : Nat}
theorem ex_0 (a : Array Keyed) (p : Nat) : (a.extract 0 p).toList = a.toList.take p := by
  simp [Array.toList_extract, List.extract_eq_take_drop]
theorem ex_mid (a : Array Keyed) (r p : Nat) : (a.extract r p).toList = (a.toList.take p).drop r := by
  rw [Array.toList_extract, List.extract_eq_take_drop, List.drop_take]
theorem rv_push (x : Keyed) : (res.push x).toList.reverse = x :: res.toList.reverse := by simp
theorem rv_app (ch : Array Keyed) : (res ++ ch.reverse).toList.reverse = ch.toList ++ res.toList.reverse := by simp
theorem top_of (a : Array Keyed) {p : Nat} (h0 : 1 ≤ p) (h : p ≤ a.size) : (a.toList.take p).drop (p - 1) = [a[p - 1]'(by omega)] := by
  rw [List.drop_take, show p - (p - 1) = 1 by omega]
  exact one_of a (by omega)
theorem mem_mid {x : Keyed} (h : x ∈ (a.toList.take p).drop r) : ∃ t, r ≤ t ∧ t < p ∧ ∃ z : t < a.size, x = a[t] := by
  obtain ⟨t, ht, e⟩ := List.getElem_of_mem h
  have h1 : r + t < p ∧ r + t < a.size := by simp at ht; omega
  exact ⟨r + t, by omega, h1.1, h1.2, by rw [← e]; simp [List.getElem_take, List.getElem_drop]⟩
theorem mem_tk {x : Keyed} (h : x ∈ a.toList.take p) : ∃ t, t < p ∧ ∃ z : t < a.size, x = a[t] := by
  obtain ⟨t, ht, e⟩ := List.getElem_of_mem h
  have h1 : t < p ∧ t < a.size := by simp at ht; omega
  exact ⟨t, h1.1, h1.2, by rw [← e]; simp [List.getElem_take]⟩
end
section
variable {a b : Array Keyed} {st₀ : SortSt} {n0 : Nat}
def GoH (C : Cmp) (a b : Array Keyed) (st₀ : SortSt) (n0 : Nat) (r : Option (Array Keyed)) (res : Array Keyed) (p q : Nat) (st' : SortSt) : Prop := Sm st₀ st' ∧ r = none ∧ MH C a.toList b.toList res.toList.reverse p q ∧ (1 ≤ p ∧ p ≤ a.size) ∧ (2 ≤ q ∧ q ≤ b.size) ∧ n0 + p + q < a.size + b.size
def TurnH (C : Cmp) (a b : Array Keyed) (st₀ : SortSt) (n0 : Nat) (r : ForInStep HS) (st' : SortSt) : Prop := match r with
  | .done c => EndG C a b st₀ c.1 st' ∨ GoH C a b st₀ n0 c.1 c.2.2.2.1 c.2.1 c.2.2.1 st'
  | .yield c => GoH C a b st₀ n0 c.1 c.2.2.2.1 c.2.1 c.2.2.1 st'
variable {mg ac bc p q : Nat} {res : Array Keyed} {st : SortSt}
theorem hi4_k (T : Two C a b) (hs : Sm st₀ st) (m : MH C a.toList b.toList res.toList.reverse p q) (hp : 1 ≤ p ∧ p ≤ a.size) (hq : 2 ≤ q ∧ q ≤ b.size) (hn : n0 + p + q ≤ a.size + b.size) (hc : ∀ x ∈ b.toList.take q, C.key x ≤ C.key (a[p - 1]'(by omega))) : W C (hi4 a b mg ac bc res p q) (TurnH C a b st₀ n0) st := by
  have hp' : p - 1 < a.size := by omega
  refine wpS_bind (elem_at hp' ?_)
  have m' := m.takeA T.sa (r := p - 1) (by omega) (fun y hy x hx => by rw [top_of a hp.1 hp.2] at hy; rw [List.mem_singleton.mp hy]; exact hc x hx)
  rw [top_of a hp.1 hp.2, List.singleton_append, ← rv_push] at m'
  by_cases z : p - 1 = 0
  · rw [if_pos (by simpa using z)]
    refine wpS_pure (.inl ⟨hs, _, rfl, ?_⟩)
    rw [Array.toList_append, Array.toList_append, ex_0, ex_0, Array.toList_reverse]
    exact m'.endA z T.sb
  · rw [if_neg (by simpa using z)]
    have g : GoH C a b st₀ n0 none (res.push a[p - 1]) (p - 1) q st := ⟨hs, rfl, m', by omega, hq, by omega⟩
    split
    · exact wpS_pure (.inr g)
    · exact wpS_pure g
theorem hi3_k (T : Two C a b) (hk : kindOf st = C.kd) (hs : Sm st₀ st) (m : MH C a.toList b.toList res.toList.reverse p q) (hp : 1 ≤ p ∧ p ≤ a.size) (hq : 2 ≤ q ∧ q ≤ b.size) (hn : n0 + p + q ≤ a.size + b.size) : W C (hi3 a b mg ac bc res p q) (TurnH C a b st₀ n0) st := by
  have hp' : p - 1 < a.size := by omega
  refine wpS_bind (elem_at hp' (wpS_bind (gal_spec (fun t => decide (kx C b (0 + t) < C.key a[p - 1])) hk (T.ma _ (by simp)) T.mb (by omega) (by omega) (fun t _ => rfl) (fun s t h1 h2 h3 => ?_) fun t h1 h2 h3 => ?_)))
  · exact decide_eq_true (Int.lt_of_le_of_lt (srt_kx T.sb (by omega) (by omega)) (of_decide_eq_true h3))
  · dsimp only
    have m' := m.takeB T.sb h1 (fun y hy x hx => by
      obtain ⟨u, hu1, hu2, z, rfl⟩ := mem_mid hy
      have e := of_decide_eq_false (h3 u hu1 hu2)
      rw [Nat.zero_add, kx_at b z] at e
      obtain ⟨v, hv, z2, rfl⟩ := mem_tk hx
      have := srt_le T.sa (show v ≤ p - 1 by omega) hp'
      omega)
    have hc : ∀ x ∈ b.toList.take t, C.key x ≤ C.key a[p - 1] := fun x hx => by
      obtain ⟨v, hv, z2, rfl⟩ := mem_tk hx
      have e := of_decide_eq_true (h2 v hv)
      rw [Nat.zero_add, kx_at b z2] at e
      omega
    rw [← ex_mid, ← rv_app] at m'
    by_cases hk0 : q - t > 0
    · rw [if_pos hk0]
      by_cases z : t = 1
      · rw [if_pos (by simpa using z)]
        refine wpS_pure (.inl ⟨hs, _, rfl, ?_⟩)
        rw [Array.toList_append, Array.toList_append, ex_0, ex_0, Array.toList_reverse]
        exact m'.firstB z T.sa T.sb T.first
      · rw [if_neg (by simpa using z)]
        by_cases z2 : t = 0
        · rw [if_pos (by simpa using z2)]
          refine wpS_pure (.inl ⟨hs, _, rfl, ?_⟩)
          rw [Array.toList_append, Array.toList_append, ex_0, ex_0, Array.toList_reverse]
          exact m'.endB z2 T.sa
        · rw [if_neg (by simpa using z2)]
          exact hi4_k T hs m' hp (by omega) (by omega) hc
    · rw [if_neg hk0]
      have : t = q := by omega
      subst this
      exact hi4_k T hs m hp hq hn hc
theorem hi2_k (T : Two C a b) (hk : kindOf st = C.kd) (hs : Sm st₀ st) (m : MH C a.toList b.toList res.toList.reverse p q) (hp : 1 ≤ p ∧ p ≤ a.size) (hq : 2 ≤ q ∧ q ≤ b.size) (hn : n0 + p + q ≤ a.size + b.size) (hc : ∀ x ∈ a.toList.take p, C.key x ≤ C.key (b[q - 1]'(by omega))) : W C (hi2 a b mg ac bc res p q) (TurnH C a b st₀ n0) st := by
  have hq' : q - 1 < b.size := by omega
  refine wpS_bind (elem_at hq' ?_)
  have m' := m.takeB T.sb (r := q - 1) (by omega) (fun y hy x hx => by rw [top_of b (by omega) hq.2] at hy; rw [List.mem_singleton.mp hy]; exact hc x hx)
  rw [top_of b (by omega) hq.2, List.singleton_append, ← rv_push] at m'
  by_cases z : q - 1 = 1
  · rw [if_pos (by simpa using z)]
    refine wpS_pure (.inl ⟨hs, _, rfl, ?_⟩)
    rw [Array.toList_append, Array.toList_append, ex_0, ex_0, Array.toList_reverse]
    exact m'.firstB z T.sa T.sb T.first
  · rw [if_neg (by simpa using z)]
    exact hi3_k T hk hs m' hp (by omega) (by omega)
theorem hi1_k (T : Two C a b) (hk : kindOf st₀ = C.kd) (hs : Sm st₀ st) (m : MH C a.toList b.toList res.toList.reverse p q) (hp : 1 ≤ p ∧ p ≤ a.size) (hq : 2 ≤ q ∧ q ≤ b.size) (hn : n0 + p + q ≤ a.size + b.size) : W C (hi1 a b mg ac bc res p q) (TurnH C a b st₀ n0) st := by
  refine wpS_bind (setMin_k hs fun st hs => ?_)
  have hk' : kindOf st = C.kd := hs.1.trans hk
  have hq' : q - 1 < b.size := by omega
  refine wpS_bind (elem_at hq' (wpS_bind (gal_spec (fun t => !decide (C.key b[q - 1] < kx C a (0 + t))) hk' (T.mb _ (by simp)) T.ma (by omega) (by omega) (fun t _ => rfl) (fun s t h1 h2 h3 => ?_) fun t h1 h2 h3 => ?_)))
  · have e := srt_kx T.sa (show 0 + s ≤ 0 + t by omega) (by omega)
    simp only [Bool.not_eq_true', decide_eq_false_iff_not] at h3 ⊢
    omega
  · dsimp only
    have m' := m.takeA T.sa h1 (fun y hy x hx => by
      obtain ⟨u, hu1, hu2, z, rfl⟩ := mem_mid hy
      have e := h3 u hu1 hu2
      simp only [Bool.not_eq_false', decide_eq_true_eq] at e
      rw [Nat.zero_add, kx_at a z] at e
      obtain ⟨v, hv, z2, rfl⟩ := mem_tk hx
      have := srt_le T.sb (show v ≤ q - 1 by omega) hq'
      omega)
    have hc : ∀ x ∈ a.toList.take t, C.key x ≤ C.key b[q - 1] := fun x hx => by
      obtain ⟨v, hv, z2, rfl⟩ := mem_tk hx
      have e := h2 v hv
      simp only [Bool.not_eq_true', decide_eq_false_iff_not] at e
      rw [Nat.zero_add, kx_at a z2] at e
      omega
    rw [← ex_mid, ← rv_app] at m'
    by_cases hk0 : p - t > 0
    · rw [if_pos hk0]
      by_cases z : t = 0
      · rw [if_pos (by simpa using z)]
        refine wpS_pure (.inl ⟨hs, _, rfl, ?_⟩)
        rw [Array.toList_append, Array.toList_append, ex_0, ex_0, Array.toList_reverse]
        exact m'.endA z T.sb
      · rw [if_neg (by simpa using z)]
        exact hi2_k T hk' hs m' (by omega) hq (by omega) hc
    · rw [if_neg hk0]
      have : t = p := by omega
      subst this
      exact hi2_k T hk' hs m hp hq hn hc
theorem mh0 (T : Two C a b) : MH C a.toList b.toList [a[a.size - 1]'(by have := T.na; omega)] (a.size - 1) b.size := by
  have na := T.na
  have ea : a.toList.take a.size = a.toList := List.take_of_length_le (by simp)
  have eb : b.toList.take b.size = b.toList := List.take_of_length_le (by simp)
  have m : MH C a.toList b.toList [] a.size b.size := ⟨by rw [ea, eb, List.append_nil], List.Pairwise.nil, fun x hx y hy => by simp at hy⟩
  have := m.takeA T.sa (r := a.size - 1) (by omega) (fun y hy x hx => T.last y (by rw [ea] at hy; exact hy) x (List.mem_of_mem_take hx))
  rw [top_of a na (Nat.le_refl _)] at this
  simpa using this
theorem mHi_k {Q : Array Keyed → SortSt → Prop} (T : Two C a b) (hk : kindOf st = C.kd) (h : ∀ r st', Sm st st' → Fin C a.toList b.toList r.toList → Q r st') : W C (mHi a b) Q st := by
  have na := T.na
  have nb := T.nb
  have m0 := mh0 T
  have hl : a.size - 1 < a.size := by omega
  rw [mHi_eq]
  dsimp only
  refine wpS_bind (rule_k (wpS_bind (elem_at hl ?_)))
  have m1 : MH C a.toList b.toList (#[a[a.size - 1]]).toList.reverse (a.size - 1) b.size := m0
  by_cases z : a.size - 1 = 0
  · rw [if_pos (by simpa using z)]
    refine wpS_pure (h _ st (Sm.refl _) ?_)
    rw [Array.toList_append, Array.toList_append, ex_0, ex_0, Array.toList_reverse]
    exact m1.endA z T.sb
  rw [if_neg (by simpa using z)]
  by_cases z : b.size = 1
  · rw [if_pos (by simpa using z)]
    refine wpS_pure (h _ st (Sm.refl _) ?_)
    rw [Array.toList_append, Array.toList_append, ex_0, ex_0, Array.toList_reverse]
    exact m1.firstB z T.sa T.sb T.first
  rw [if_neg (by simpa using z)]
  refine wpS_bind (wpS_get ?_)
  refine wpS_bind (wpS_mono (wpS_forRange (I := fun x c st' => ∃ p q res mg, c = (none, p, q, res, mg) ∧ GoH C a b st x none res p q st') (Q := fun c st' => EndG C a b st c.1 st') ?step ?fin ⟨_, _, _, _, rfl, Sm.refl _, rfl, m1, by omega, by omega, by omega⟩) ?post)
  case post =>
    rintro ⟨c1, c2⟩ st' ⟨hs, x, rfl, hf⟩
    exact wpS_pure (h x st' hs hf)
  case fin =>
    rintro c st' ⟨p, q, res, mg, rfl, hs, _, m, h1, h2, h3⟩
    omega
  case step =>
    rintro x c st' _ hx ⟨p, q, res, mg, rfl, hs, _, m, h1, h2, h3⟩
    dsimp only
    refine wpS_bind (wpS_mono (wpS_forRange (I := fun y c st'' => ∃ p q res ac bc, c = (none, p, q, res, ac, bc) ∧ GoH C a b st (x + y) none res p q st'')
      (Q := fun c st'' => EndG C a b st c.1 st'' ∨ ∃ p q res ac bc, c = (none, p, q, res, ac, bc) ∧ GoH C a b st (x + 1) none res p q st'') ?step1 ?fin1 ⟨_, _, _, _, _, rfl, hs, rfl, m, h1, h2, h3⟩) ?post1)
    case fin1 =>
      rintro c st'' ⟨p, q, res, ac, bc, rfl, hs, _, m, h1, h2, h3⟩
      omega
    case step1 =>
      rintro y c st'' _ hy ⟨p, q, res, ac, bc, rfl, hs, _, m, h1, h2, h3⟩
      dsimp only
      have hp' : p - 1 < a.size := by omega
      have hq' : q - 1 < b.size := by omega
      refine wpS_bind (elem_at hq' (wpS_bind (elem_at hp' (wpS_bind (C.lt st'' _ _ _ (T.mb _ (by simp)) (T.ma _ (by simp)) (hs.1.trans hk) ?_)))))
      dsimp only
      by_cases hlt : C.key b[q - 1] < C.key a[p - 1]
      · simp only [hlt, decide_true, if_true]
        refine wpS_bind (elem_at hp' ?_)
        have m' := m.takeA T.sa (r := p - 1) (by omega) (fun y hy x hx => by
          rw [top_of a h1.1 h1.2] at hy; rw [List.mem_singleton.mp hy]
          obtain ⟨v, hv, z2, rfl⟩ := mem_tk hx
          have := srt_le T.sb (show v ≤ q - 1 by omega) hq'
          omega)
        rw [top_of a h1.1 h1.2, List.singleton_append, ← rv_push] at m'
        by_cases z : p - 1 = 0
        · rw [if_pos (by simpa using z)]
          refine wpS_pure (.inl ⟨hs, _, rfl, ?_⟩)
          rw [Array.toList_append, Array.toList_append, ex_0, ex_0, Array.toList_reverse]
          exact m'.endA z T.sb
        · rw [if_neg (by simpa using z)]
          split
          · exact wpS_pure (.inr ⟨_, _, _, _, _, rfl, hs, rfl, m', by omega, h2, by omega⟩)
          · exact wpS_pure ⟨_, _, _, _, _, rfl, hs, rfl, m', by omega, h2, by omega⟩
      · simp only [hlt, decide_false, Bool.false_eq_true, if_false]
        refine wpS_bind (elem_at hq' ?_)
        have m' := m.takeB T.sb (r := q - 1) (by omega) (fun y hy x hx => by
          rw [top_of b (by omega) h2.2] at hy; rw [List.mem_singleton.mp hy]
          obtain ⟨v, hv, z2, rfl⟩ := mem_tk hx
          have := srt_le T.sa (show v ≤ p - 1 by omega) hp'
          omega)
        rw [top_of b (by omega) h2.2, List.singleton_append, ← rv_push] at m'
        by_cases z : q - 1 = 1
        · rw [if_pos (by simpa using z)]
          refine wpS_pure (.inl ⟨hs, _, rfl, ?_⟩)
          rw [Array.toList_append, Array.toList_append, ex_0, ex_0, Array.toList_reverse]
          exact m'.firstB z T.sa T.sb T.first
        · rw [if_neg (by simpa using z)]
          split
          · exact wpS_pure (.inr ⟨_, _, _, _, _, rfl, hs, rfl, m', h1, by omega, by omega⟩)
          · exact wpS_pure ⟨_, _, _, _, _, rfl, hs, rfl, m', h1, by omega, by omega⟩
    case post1 =>
      rintro ⟨c1, c2⟩ st'' (⟨hs, r, hr, hf⟩ | ⟨p, q, res, ac, bc, e, hs, _, m, h1, h2, h3⟩)
      · simp only at hr
        subst hr
        exact wpS_pure ⟨hs, r, rfl, hf⟩
      · cases e
        dsimp only
        refine wpS_bind (rule_k ?_)
        refine wpS_bind (wpS_mono (wpS_forRange (I := fun y c st3 => ∃ p q res mg ac bc, c = (none, p, q, res, mg, ac, bc) ∧ GoH C a b st (x + 1 + y) none res p q st3)
          (Q := fun c st3 => EndG C a b st c.1 st3 ∨ ∃ p q res mg ac bc, c = (none, p, q, res, mg, ac, bc) ∧ GoH C a b st (x + 1) none res p q st3) ?step2 ?fin2 ⟨_, _, _, _, _, _, rfl, hs, rfl, m, h1, h2, by omega⟩) ?post2)
        case fin2 =>
          rintro c st3 ⟨p, q, res, mg, ac, bc, rfl, hs, _, m, h1, h2, h3⟩
          omega
        case step2 =>
          rintro y c st3 _ hy ⟨p, q, res, mg, ac, bc, rfl, hs, _, m, h1, h2, h3⟩
          dsimp only
          have key := fun mg => hi1_k (mg := mg) (ac := ac) (bc := bc) (n0 := x + 1 + (y + 1)) T hk hs m h1 h2 (by omega)
          rcases Nat.lt_or_ge 1 mg with hm | hm
          · rw [if_pos hm]
            refine wpS_mono (key (mg - 1)) ?_
            intro r st4 hr
            cases r with
            | done c =>
              obtain ⟨c1, c2, c3, c4, c5, c6, c7⟩ := c
              rcases hr with z | z
              · exact .inl z
              · obtain ⟨g1, g2, g3, g4, g5, g6⟩ := z
                simp only at g2 g3 g4 g5 g6
                subst g2
                exact .inr ⟨_, _, _, _, _, _, rfl, g1, rfl, g3, g4, g5, by omega⟩
            | yield c =>
              obtain ⟨c1, c2, c3, c4, c5, c6, c7⟩ := c
              obtain ⟨g1, g2, g3, g4, g5, g6⟩ := hr
              simp only at g2 g3 g4 g5 g6
              subst g2
              exact ⟨_, _, _, _, _, _, rfl, g1, rfl, g3, g4, g5, g6⟩
          · rw [if_neg (by omega)]
            refine wpS_mono (key mg) ?_
            intro r st4 hr
            cases r with
            | done c =>
              obtain ⟨c1, c2, c3, c4, c5, c6, c7⟩ := c
              rcases hr with z | z
              · exact .inl z
              · obtain ⟨g1, g2, g3, g4, g5, g6⟩ := z
                simp only at g2 g3 g4 g5 g6
                subst g2
                exact .inr ⟨_, _, _, _, _, _, rfl, g1, rfl, g3, g4, g5, by omega⟩
            | yield c =>
              obtain ⟨c1, c2, c3, c4, c5, c6, c7⟩ := c
              obtain ⟨g1, g2, g3, g4, g5, g6⟩ := hr
              simp only at g2 g3 g4 g5 g6
              subst g2
              exact ⟨_, _, _, _, _, _, rfl, g1, rfl, g3, g4, g5, g6⟩
        case post2 =>
          rintro ⟨c1, c2⟩ st3 (⟨hs, r, hr, hf⟩ | ⟨p, q, res, mg, ac, bc, e, hs, _, m, h1, h2, h3⟩)
          · simp only at hr
            subst hr
            exact wpS_pure ⟨hs, r, rfl, hf⟩
          · cases e
            dsimp only
            refine wpS_bind (setMin_k hs fun st4 hs4 => ?_)
            exact wpS_pure ⟨_, _, _, _, rfl, hs4, rfl, m, h1, h2, h3⟩
end
end TS

namespace TS
open PySem PyProof.Rows
variable {C : Cmp}
/-! ### segments -/
def seg (L : List Keyed) (s n : Nat) : List Keyed := (L.drop s).take n
theorem seg_len {L : List Keyed} {s n : Nat} (h : s + n ≤ L.length) : (seg L s n).length = n := by simp [seg]; omega
theorem seg_split (L : List Keyed) (s n : Nat) : L = L.take s ++ seg L s n ++ L.drop (s + n) := by
  unfold seg
  rw [List.append_assoc, ← List.drop_drop, List.take_append_drop, List.take_append_drop]
theorem seg_two (L : List Keyed) (s n m : Nat) : seg L s (n + m) = seg L s n ++ seg L (s + n) m := by
  unfold seg
  rw [← List.drop_drop, List.take_add]
theorem seg_pre {P M M' R : List Keyed} {s n : Nat} (h : s + n ≤ P.length) : seg (P ++ M ++ R) s n = seg (P ++ M' ++ R) s n := by
  unfold seg
  have : ∀ T : List Keyed, ((P ++ T).drop s).take n = (P.drop s).take n := fun T => by
    rw [List.drop_append_of_le_length (by omega), List.take_append_of_le_length (by simp; omega)]
  rw [List.append_assoc, List.append_assoc, this, this]
theorem seg_post {P M M' R : List Keyed} {s n : Nat} (hl : M.length = M'.length) (h : P.length + M.length ≤ s) : seg (P ++ M ++ R) s n = seg (P ++ M' ++ R) s n := by
  unfold seg
  have e : ∀ T : List Keyed, T.length ≤ s → (T ++ R).drop s = R.drop (s - T.length) := fun T hT => by rw [List.drop_append, List.drop_of_length_le hT, List.nil_append]
  rw [e (P ++ M) (by rw [List.length_append]; omega), e (P ++ M') (by rw [List.length_append]; omega), List.length_append, List.length_append, hl]
theorem seg_mid {P M R : List Keyed} {s n : Nat} (h : s = P.length) (hn : n = M.length) : seg (P ++ M ++ R) s n = M := by
  subst h hn
  unfold seg
  rw [List.append_assoc, List.drop_left, List.take_left]
theorem seg_kx {arr : Array Keyed} {s n i j : Nat} (h : Srt C (seg arr.toList s n)) (hn : s + n ≤ arr.size) (hij : i ≤ j) (hj : j < n) : kx C arr (s + i) ≤ kx C arr (s + j) := by
  rcases Nat.lt_or_ge i j with q | q
  · have hl : (seg arr.toList s n).length = n := seg_len (by simpa using hn)
    have := List.pairwise_iff_getElem.mp h i j (by omega) (by omega) q
    rw [kx_at arr (by omega), kx_at arr (by omega)]
    simpa [seg, List.getElem_take, List.getElem_drop] using this
  · have : i = j := by omega
    subst this; exact Int.le_refl _
theorem srt_seg {arr : Array Keyed} {s n : Nat} (hn : s + n ≤ arr.size) (h : ∀ i j, i ≤ j → j < n → kx C arr (s + i) ≤ kx C arr (s + j)) : Srt C (seg arr.toList s n) := by
  refine List.pairwise_iff_getElem.mpr fun i j hi hj hij => ?_
  have hl : (seg arr.toList s n).length = n := seg_len (by simpa using hn)
  have := h i j (by omega) (by omega)
  rw [kx_at arr (by omega), kx_at arr (by omega)] at this
  simpa [seg, List.getElem_take, List.getElem_drop] using this
def Runs (C : Cmp) (L : List Keyed) : List (Nat × Nat × Nat) → Nat → Nat → Prop
  | [], s, e => s = e
  | (x, n, _) :: r, s, e => x = s ∧ 1 ≤ n ∧ Srt C (seg L s n) ∧ Runs C L r (s + n) e
theorem Runs.le {L : List Keyed} : ∀ {r : List (Nat × Nat × Nat)} {s e : Nat}, Runs C L r s e → s + r.length ≤ e
  | [], _, _, h => by cases h; simp
  | (x, n, _) :: r, s, e, ⟨_, h1, _, h2⟩ => by have := Runs.le h2; simp; omega
theorem Runs.congr {L L' : List Keyed} : ∀ {r : List (Nat × Nat × Nat)} {s e : Nat}, Runs C L r s e → (∀ a n, s ≤ a → a + n ≤ e → seg L' a n = seg L a n) → Runs C L' r s e
  | [], _, _, h, _ => h
  | (x, n, _) :: r, s, e, ⟨h0, h1, h2, h3⟩, q => by
    have hle := h3.le
    exact ⟨h0, h1, by rw [q s n (Nat.le_refl _) (by omega)]; exact h2, h3.congr fun a m ha hm => q a m (by omega) hm⟩
theorem Runs.app {L : List Keyed} : ∀ {r r' : List (Nat × Nat × Nat)} {s e : Nat}, Runs C L (r ++ r') s e ↔ ∃ m, Runs C L r s m ∧ Runs C L r' m e
  | [], r', s, e => ⟨fun h => ⟨s, rfl, h⟩, fun ⟨m, h1, h2⟩ => by cases h1; exact h2⟩
  | (x, n, _) :: r, r', s, e => by
    constructor
    · rintro ⟨h0, h1, h2, h3⟩
      obtain ⟨m, q1, q2⟩ := Runs.app.mp h3
      exact ⟨m, ⟨h0, h1, h2, q1⟩, q2⟩
    · rintro ⟨m, ⟨h0, h1, h2, h3⟩, q⟩
      exact ⟨h0, h1, h2, Runs.app.mpr ⟨m, h3, q⟩⟩
structure G (C : Cmp) (L0 : List Keyed) (st : SortSt) (lo : Nat) : Prop where
  kind : kindOf st = C.kd
  fine : failedOf st = none
  perm : (arrOf st).toList.Perm L0
  runs : Runs C (arrOf st).toList (pendingOf st).toList 0 lo
  le : lo ≤ (arrOf st).size
theorem fold_set (off : Nat) : ∀ (M : List Keyed) (j0 : Nat) (arr : Array Keyed), off + j0 + M.length ≤ arr.size → ((M.zipIdx j0).foldl (fun a x => a.setIfInBounds (off + x.2) x.1) arr).toList = arr.toList.take (off + j0) ++ M ++ arr.toList.drop (off + j0 + M.length)
  | [], j0, arr, h => by simp
  | m :: M, j0, arr, h => by
    rw [List.zipIdx_cons, List.foldl_cons]
    have h' : off + j0 < arr.size := by simp at h; omega
    rw [fold_set off M (j0 + 1) _ (by simp at h ⊢; omega)]
    have e : (arr.setIfInBounds (off + j0) m).toList = arr.toList.take (off + j0) ++ m :: arr.toList.drop (off + j0 + 1) := by
      rw [Array.toList_setIfInBounds, List.set_eq_take_append_cons_drop, if_pos (by simpa using h')]
    have hl : (arr.toList.take (off + j0)).length = off + j0 := by simp; omega
    have t1 : (arr.toList.take (off + j0) ++ m :: arr.toList.drop (off + j0 + 1)).take (off + (j0 + 1)) = arr.toList.take (off + j0) ++ [m] := by
      rw [List.take_append, hl, show off + (j0 + 1) - (off + j0) = 1 by omega, List.take_of_length_le (by omega)]; simp
    have t2 : (arr.toList.take (off + j0) ++ m :: arr.toList.drop (off + j0 + 1)).drop (off + (j0 + 1) + M.length) = arr.toList.drop (off + j0 + (m :: M).length) := by
      rw [List.drop_append, hl, List.drop_of_length_le (by omega), show off + (j0 + 1) + M.length - (off + j0) = M.length + 1 by omega]
      simp [List.drop_drop]
      congr 1
      omega
    show _ = _
    rw [e, t1, t2]
    simp
theorem mAt_eq (i : Nat) : mAt i = (do
    let s ← get
    let (some (sa, na, pw), some (sb, nb, _)) := ((pendingOf s)[i]?, (pendingOf s)[i + 1]?) | unsupported "internal:list.sort.pending"
    set (setPending s (((pendingOf s).setIfInBounds i (sa, na + nb, pw)).eraseIdxIfInBounds (i + 1)))
    let some k ← gal false (← elem' (arrOf s) sb) (arrOf s) sa na 0 | return false
    let (sa, na) := (sa + k, na - k)
    if na == 0 then return true
    let some nb ← gal true (← elem' (arrOf s) (sa + na - 1)) (arrOf s) sb nb (nb - 1) | return false
    if nb == 0 then return true
    let x := (arrOf s).extract sa sb
    let y := (arrOf s).extract sb (sb + nb)
    let both ← if na ≤ nb then mLo x y else mHi x y
    modify fun s => setArr s (both.toList.zipIdx.foldl (fun a x => a.setIfInBounds (sa + x.2) x.1) (arrOf s))
    return (failedOf (← get)).isNone) := rfl
theorem ex_seg (a : Array Keyed) (s n : Nat) : (a.extract s (s + n)).toList = seg a.toList s n := ex_ch a s n
theorem wpS_setS {σ : Type} {s' st : σ} {Q : PUnit → σ → Prop} (h : Q ⟨⟩ s') : W C (set s' : StateT σ Sem PUnit) Q st := by
  show wpS _ _ _ _ _ Q st
  unfold wpS
  rw [StateT.run_set]; exact wpAny_pure ⟨rfl, h⟩
theorem mAt_k {L0 : List Keyed} {st : SortSt} {lo i : Nat} {Q : Bool → SortSt → Prop} (hS : ∀ p ∈ L0, C.S p) (g : G C L0 st lo) (hi : i + 1 < (pendingOf st).size) (h : ∀ st', G C L0 st' lo → (pendingOf st').size + 1 = (pendingOf st).size → (arrOf st').toList.drop lo = (arrOf st).toList.drop lo → Q true st') : W C (mAt i) Q st := by
  have memS : ∀ p ∈ (arrOf st).toList, C.S p := fun p hp => hS p (g.perm.mem_iff.mp hp)
  have e1 : (pendingOf st)[i]? = some (pendingOf st)[i] := getElem?_pos _ i (by omega)
  have e2 : (pendingOf st)[i + 1]? = some (pendingOf st)[i + 1] := getElem?_pos _ (i + 1) hi
  obtain ⟨⟨sa, na, pw⟩, ea⟩ : ∃ x, (pendingOf st)[i] = x := ⟨_, rfl⟩
  obtain ⟨⟨sb, nb, pw2⟩, eb⟩ : ∃ x, (pendingOf st)[i + 1] = x := ⟨_, rfl⟩
  rw [ea] at e1
  rw [eb] at e2
  -- the list of runs
  have split : (pendingOf st).toList = (pendingOf st).toList.take i ++ (sa, na, pw) :: (sb, nb, pw2) :: (pendingOf st).toList.drop (i + 2) := by
    have l1 : i < (pendingOf st).toList.length := by simp; omega
    have l2 : i + 1 < (pendingOf st).toList.length := by simpa using hi
    conv => lhs; rw [← List.take_append_drop i (pendingOf st).toList, List.drop_eq_getElem_cons l1, List.drop_eq_getElem_cons l2]
    simp [ea, eb]
  have newp : (((pendingOf st).setIfInBounds i (sa, na + nb, pw)).eraseIdxIfInBounds (i + 1)).toList = (pendingOf st).toList.take i ++ (sa, na + nb, pw) :: (pendingOf st).toList.drop (i + 2) := by
    have l1 : i < (pendingOf st).toList.length := by simp; omega
    have : ∀ (x : Array (Nat × Nat × Nat)) k, (x.eraseIdxIfInBounds k).toList = x.toList.eraseIdx k := fun x k => by
      have e : x = x.toList.toArray := by simp
      conv => lhs; rw [e, List.eraseIdxIfInBounds_toArray]
    rw [this, Array.toList_setIfInBounds, List.set_eq_take_append_cons_drop, if_pos l1]
    have l3 : ((pendingOf st).toList.take i).length = i := by simp; omega
    rw [List.eraseIdx_append_of_length_le (by omega), l3, show i + 1 - i = 1 by omega]
    rw [List.drop_eq_getElem_cons (by simpa using hi)]
    rfl
  have r := g.runs
  rw [split] at r
  obtain ⟨m, r1, ⟨hsa, hna, sA, hsb, hnb, sB, r2⟩⟩ := Runs.app.mp r
  subst hsa hsb
  have hle := r2.le
  have hsz := g.le
  have hlen : (arrOf st).toList.length = (arrOf st).size := by simp
  have lr1 := r1.le
  generalize hL : (arrOf st).toList = L at *
  -- what stands behind, once the two are one sorted run
  have done : ∀ (st' : SortSt) (M : List Keyed), kindOf st' = kindOf st → failedOf st' = failedOf st → pendingOf st' = ((pendingOf st).setIfInBounds i (sa, na + nb, pw)).eraseIdxIfInBounds (i + 1) → (arrOf st').toList = L.take sa ++ M ++ L.drop (sa + (na + nb)) → Srt C M → M.Perm (seg L sa na ++ seg L (sa + na) nb) → Q true st' := by
    intro st' M q1 q2 q3 q4 q5 q6
    have hM : M.length = na + nb := by rw [q6.length_eq, List.length_append, seg_len (by omega), seg_len (by omega)]
    have hT : (L.take sa).length = sa := by simp; omega
    have hOld := seg_split L sa (na + nb)
    have hseg : (seg L sa (na + nb)).length = M.length := by rw [seg_len (by omega), hM]
    refine h st' ⟨q1.trans g.kind, q2.trans g.fine, ?_, ?_, ?_⟩ ?_ ?_
    · rw [q4]
      refine List.Perm.trans ?_ (show L.Perm L0 from hL ▸ g.perm)
      conv => rhs; rw [hOld, seg_two]
      exact List.Perm.append_right _ (List.Perm.append_left _ q6)
    · rw [q3, newp, q4]
      refine Runs.app.mpr ⟨sa, r1.congr fun a n ha hn => ?_, rfl, by omega, ?_, ?_⟩
      · conv => rhs; rw [hOld]
        exact seg_pre (by rw [hT]; omega)
      · rw [seg_mid hT.symm hM.symm]; exact q5
      · have r2' : Runs C L ((pendingOf st).toList.drop (i + 2)) (sa + (na + nb)) lo := by rw [← Nat.add_assoc]; exact r2
        refine r2'.congr fun a n ha hn => ?_
        conv => rhs; rw [hOld]
        exact seg_post hseg.symm (by rw [hT, hM]; omega)
    · have : (arrOf st').size = (arrOf st).size := by
        have e := congrArg List.length q4
        rw [List.length_append, List.length_append, hM, hT, List.length_drop] at e
        rw [← Array.length_toList, e]; omega
      omega
    · have e := congrArg List.length newp
      rw [← q3] at e
      have e0 := congrArg List.length split
      simp at e e0
      omega
    · have d : L.drop lo = (L.drop (sa + (na + nb))).drop (lo - (sa + (na + nb))) := by rw [List.drop_drop]; congr 1; omega
      have hl : (L.take sa ++ M).length = sa + (na + nb) := by rw [List.length_append, hT, hM]
      rw [q4, d, List.drop_append, hl, List.drop_eq_nil_of_le (by rw [hl]; omega), List.nil_append]
  rw [mAt_eq]
  refine wpS_bind (wpS_get ?_)
  simp only [e1, e2]
  refine wpS_bind (wpS_setS ?_)
  have kd : kindOf (setPending st (((pendingOf st).setIfInBounds i (sa, na + nb, pw)).eraseIdxIfInBounds (i + 1))) = C.kd := g.kind
  generalize hst : setPending st (((pendingOf st).setIfInBounds i (sa, na + nb, pw)).eraseIdxIfInBounds (i + 1)) = st1 at kd
  have h1k : kindOf st1 = kindOf st := by rw [← hst]
  have h1f : failedOf st1 = failedOf st := by rw [← hst]
  have h1p : pendingOf st1 = ((pendingOf st).setIfInBounds i (sa, na + nb, pw)).eraseIdxIfInBounds (i + 1) := by rw [← hst]
  have h1a : arrOf st1 = arrOf st := by rw [← hst]
  have hbs : sa + na < (arrOf st).size := by omega
  have sA' : Srt C (seg (arrOf st).toList sa na) := by rw [hL]; exact sA
  have sB' : Srt C (seg (arrOf st).toList (sa + na) nb) := by rw [hL]; exact sB
  have memS' : ∀ p ∈ (arrOf st).toList, C.S p := by rw [hL]; exact memS
  have b0 : ∀ y ∈ seg L (sa + na) nb, C.key (arrOf st)[sa + na] ≤ C.key y := fun y hy => by
    rw [← hL] at hy
    obtain ⟨t, ht, z, rfl⟩ := mem_ch hy
    have := seg_kx sB' (by omega) (Nat.zero_le t) ht
    rw [Nat.add_zero, kx_at _ hbs, kx_at _ z] at this
    exact this
  refine wpS_bind (elem_at hbs (wpS_bind (gal_spec (fun t => !decide (C.key (arrOf st)[sa + na] < kx C (arrOf st) (sa + t))) kd (memS' _ (by simp)) memS' (by omega) (by omega) (fun t _ => rfl) (fun s t h1 h2 h3 => ?_) fun k h1 h2 h3 => ?_)))
  · have q := seg_kx sA' (by omega) h1 h2
    simp only [Bool.not_eq_true', decide_eq_false_iff_not] at h3 ⊢
    omega
  dsimp only
  have A1 : ∀ x ∈ seg L sa k, C.key x ≤ C.key (arrOf st)[sa + na] := fun x hx => by
    rw [← hL] at hx
    obtain ⟨t, ht, z, rfl⟩ := mem_ch hx
    have e := h2 t ht
    simp only [Bool.not_eq_true', decide_eq_false_iff_not] at e
    rw [kx_at _ z] at e
    omega
  have A2 : ∀ x ∈ seg L (sa + k) (na - k), C.key (arrOf st)[sa + na] < C.key x := fun x hx => by
    rw [← hL] at hx
    obtain ⟨t, ht, z, rfl⟩ := mem_ch hx
    have e := h3 (k + t) (by omega) (by omega)
    simp only [Bool.not_eq_false', decide_eq_true_eq] at e
    rw [← Nat.add_assoc, kx_at _ z] at e
    exact e
  have eA : seg L sa na = seg L sa k ++ seg L (sa + k) (na - k) := by rw [← seg_two, show k + (na - k) = na by omega]
  have same : (arrOf st1).toList = L.take sa ++ (seg L sa na ++ seg L (sa + na) nb) ++ L.drop (sa + (na + nb)) := by
    rw [h1a, hL, ← seg_two]; exact seg_split L sa (na + nb)
  by_cases hz : na - k = 0
  · rw [if_pos (by simpa using hz)]
    have hk' : k = na := by omega
    subst hk'
    exact wpS_pure (done st1 _ h1k h1f h1p same (sA.app sB fun x hx y hy => Int.le_trans (A1 x hx) (b0 y hy)) (List.Perm.refl _))
  rw [if_neg (by simpa using hz)]
  have hla : sa + k + (na - k) - 1 < (arrOf st).size := by omega
  have eidx : sa + k + (na - k) - 1 = sa + (na - 1) := by omega
  have kl : ∀ x ∈ seg L sa na, C.key x ≤ C.key ((arrOf st)[sa + k + (na - k) - 1]'hla) := fun x hx => by
    rw [← hL] at hx
    obtain ⟨t, ht, z, rfl⟩ := mem_ch hx
    have e := seg_kx sA' (by omega) (show t ≤ na - 1 by omega) (by omega)
    rw [kx_at _ z, ← eidx, kx_at _ hla] at e
    exact e
  refine wpS_bind (elem_at hla (wpS_bind (gal_spec (fun t => decide (kx C (arrOf st) (sa + na + t) < C.key ((arrOf st)[sa + k + (na - k) - 1]'hla))) kd (memS' _ (by simp)) memS' (by omega) (by omega) (fun t _ => rfl) (fun s t h1 h2 h3 => ?_) fun nb' g1 g2 g3 => ?_)))
  · exact decide_eq_true (Int.lt_of_le_of_lt (seg_kx sB' (by omega) h1 h2) (of_decide_eq_true h3))
  dsimp only
  generalize hal : C.key ((arrOf st)[sa + k + (na - k) - 1]'hla) = al at kl g2 g3
  have B1 : ∀ y ∈ seg L (sa + na) nb', C.key y < al := fun y hy => by
    rw [← hL] at hy
    obtain ⟨t, ht, z, rfl⟩ := mem_ch hy
    have e := of_decide_eq_true (g2 t ht)
    rwa [kx_at _ z] at e
  have B2 : ∀ y ∈ seg L (sa + na + nb') (nb - nb'), al ≤ C.key y := fun y hy => by
    rw [← hL] at hy
    obtain ⟨t, ht, z, rfl⟩ := mem_ch hy
    have e := of_decide_eq_false (g3 (nb' + t) (by omega) (by omega))
    rw [← Nat.add_assoc, kx_at _ z] at e
    omega
  have eB : seg L (sa + na) nb = seg L (sa + na) nb' ++ seg L (sa + na + nb') (nb - nb') := by rw [← seg_two, show nb' + (nb - nb') = nb by omega]
  by_cases hz2 : nb' = 0
  · rw [if_pos (by simpa using hz2)]
    subst hz2
    refine wpS_pure (done st1 _ h1k h1f h1p same (sA.app sB fun x hx y hy => ?_) (List.Perm.refl _))
    exact Int.le_trans (kl x hx) (B2 y (by simpa using hy))
  rw [if_neg (by simpa using hz2)]
  -- the two that are merged
  have ex : ((arrOf st).extract (sa + k) (sa + na)).toList = seg L (sa + k) (na - k) := by
    rw [show sa + na = sa + k + (na - k) by omega, ex_seg, hL]
  have ey : ((arrOf st).extract (sa + na) (sa + na + nb')).toList = seg L (sa + na) nb' := by rw [ex_seg, hL]
  have sx : ((arrOf st).extract (sa + k) (sa + na)).size = na - k := by rw [← Array.length_toList, ex, seg_len (by omega)]
  have sy : ((arrOf st).extract (sa + na) (sa + na + nb')).size = nb' := by rw [← Array.length_toList, ey, seg_len (by omega)]
  have sX : Srt C (seg L (sa + k) (na - k)) := by rw [eA] at sA; exact (List.pairwise_append.mp sA).2.1
  have sY : Srt C (seg L (sa + na) nb') := by rw [eB] at sB; exact (List.pairwise_append.mp sB).1
  have sY2 : Srt C (seg L (sa + na + nb') (nb - nb')) := by rw [eB] at sB; exact (List.pairwise_append.mp sB).2.1
  have sA1 : Srt C (seg L sa k) := by rw [eA] at sA; exact (List.pairwise_append.mp sA).1
  have inL : ∀ s n, ∀ p ∈ seg L s n, p ∈ L := fun s n p hp => List.mem_of_mem_drop (List.mem_of_mem_take hp)
  have T : Two C ((arrOf st).extract (sa + k) (sa + na)) ((arrOf st).extract (sa + na) (sa + na + nb')) := by
    refine ⟨by rw [ex]; exact sX, by rw [ey]; exact sY, by rw [ex]; exact fun p hp => memS p (inL _ _ p hp), by rw [ey]; exact fun p hp => memS p (inL _ _ p hp), by omega, by omega, ?_, ?_⟩
    · rw [ex, ey]
      intro y hy x hx
      have : x ∈ seg L (sa + na) 1 := by
        unfold seg at hx ⊢
        rw [List.take_take] at hx
        rwa [Nat.min_eq_left (by omega)] at hx
      rw [← hL] at this
      have e := one_of (arrOf st) hbs
      unfold seg at this
      rw [e] at this
      rw [List.mem_singleton.mp this]
      exact Int.le_of_lt (A2 y hy)
    · rw [ex, ey, sx]
      intro x hx y hy
      have hx' : x ∈ seg L (sa + k + (na - k) - 1) 1 := by
        unfold seg at hx ⊢
        rw [List.drop_take, List.drop_drop, show na - k - (na - k - 1) = 1 by omega] at hx
        rwa [show sa + k + (na - k) - 1 = sa + k + (na - k - 1) by omega]
      rw [← hL] at hx'
      have e := one_of (arrOf st) hla
      unfold seg at hx'
      rw [e] at hx'
      rw [List.mem_singleton.mp hx', hal]
      exact Int.le_of_lt (B1 y hy)
  have fin : ∀ (r : Array Keyed) (st2 : SortSt), Sm st1 st2 → Fin C ((arrOf st).extract (sa + k) (sa + na)).toList ((arrOf st).extract (sa + na) (sa + na + nb')).toList r.toList → W C (do
      modify fun s => setArr s (r.toList.zipIdx.foldl (fun a x => a.setIfInBounds (sa + k + x.2) x.1) (arrOf s))
      let __do_lift ← get
      pure (failedOf __do_lift).isNone : StateT SortSt Sem Bool) Q st2 := by
    intro r st2 hs ⟨f1, f2⟩
    rw [ex, ey] at f2
    refine wpS_bind (wpS_modify (wpS_bind (wpS_get ?_)))
    have hf : failedOf (setArr st2 (r.toList.zipIdx.foldl (fun a x => a.setIfInBounds (sa + k + x.2) x.1) (arrOf st2))) = none := (hs.2.2.2.trans h1f).trans g.fine
    rw [hf]
    have rl : r.toList.length = na - k + nb' := by rw [f2.length_eq, List.length_append, seg_len (by omega), seg_len (by omega)]
    have a2 : arrOf st2 = arrOf st := hs.2.1.trans h1a
    have mem2 : ∀ x ∈ r.toList, x ∈ seg L (sa + k) (na - k) ∨ x ∈ seg L (sa + na) nb' := fun x hx => List.mem_append.mp (f2.mem_iff.mp hx)
    refine wpS_pure (done _ (seg L sa k ++ r.toList ++ seg L (sa + na + nb') (nb - nb')) (hs.1.trans h1k) (hs.2.2.2.trans h1f) (hs.2.2.1.trans h1p) ?_ ?_ ?_)
    · show ((r.toList.zipIdx.foldl (fun a x => a.setIfInBounds (sa + k + x.2) x.1) (arrOf st2)).toList) = _
      rw [a2, fold_set (sa + k) r.toList 0 (arrOf st) (by rw [rl]; omega), hL, Nat.add_zero, rl]
      have t1 : L.take (sa + k) = L.take sa ++ seg L sa k := by unfold seg; rw [List.take_add]
      have t2 : L.drop (sa + k + (na - k + nb')) = seg L (sa + na + nb') (nb - nb') ++ L.drop (sa + (na + nb)) := by
        unfold seg
        rw [show sa + k + (na - k + nb') = sa + na + nb' by omega, show L.drop (sa + (na + nb)) = (L.drop (sa + na + nb')).drop (nb - nb') by rw [List.drop_drop]; congr 1; omega, List.take_append_drop]
      rw [t1, t2]
      simp [List.append_assoc]
    · refine (sA1.app f1 fun x hx y hy => ?_).app sY2 fun x hx y hy => ?_
      · rcases mem2 y hy with w | w
        · exact Int.le_trans (A1 x hx) (Int.le_of_lt (A2 y w))
        · exact Int.le_trans (A1 x hx) (b0 y (by rw [eB]; exact List.mem_append_left _ w))
      · have hy' := B2 y hy
        rcases List.mem_append.mp hx with w | w
        · exact Int.le_trans (A1 x w) (b0 y (by rw [eB]; exact List.mem_append_right _ hy))
        · rcases mem2 x w with v | v
          · exact Int.le_trans (kl x (by rw [eA]; exact List.mem_append_right _ v)) hy'
          · exact Int.le_of_lt (Int.lt_of_lt_of_le (B1 x v) hy')
    · rw [eA, eB]
      have : (seg L sa k ++ r.toList ++ seg L (sa + na + nb') (nb - nb')).Perm (seg L sa k ++ (seg L (sa + k) (na - k) ++ seg L (sa + na) nb') ++ seg L (sa + na + nb') (nb - nb')) := List.Perm.append_right _ (List.Perm.append_left _ f2)
      simpa [List.append_assoc] using this
  by_cases hle2 : na - k ≤ nb'
  · rw [if_pos hle2]
    exact wpS_bind (mLo_k T kd fun r st2 hs hf => fin r st2 hs hf)
  · rw [if_neg hle2]
    exact wpS_bind (mHi_k T kd fun r st2 hs hf => fin r st2 hs hf)
end TS

namespace TS
open PySem PyProof.Rows
variable {C : Cmp}
/-! ### a run, from lo on -/
structure Bs (C : Cmp) (st₀ st : SortSt) (lo : Nat) : Prop where
  kind : kindOf st = C.kd
  fine : failedOf st = none
  pend : pendingOf st = pendingOf st₀
  perm : (arrOf st).toList.Perm (arrOf st₀).toList
  low : ∀ i : Nat, i < lo → (arrOf st)[i]? = (arrOf st₀)[i]?
  mem : ∀ p ∈ (arrOf st₀).toList, C.S p
def SR (C : Cmp) (st : SortSt) (lo n : Nat) : Prop := ∀ i j, i ≤ j → j < n → kx C (arrOf st) (lo + i) ≤ kx C (arrOf st) (lo + j)
def NI (C : Cmp) (st : SortSt) (lo n : Nat) : Prop := ∀ i j, i ≤ j → j < n → kx C (arrOf st) (lo + j) ≤ kx C (arrOf st) (lo + i)
section
variable {st₀ st : SortSt} {lo n m : Nat}
theorem Bs.size (b : Bs C st₀ st lo) : (arrOf st).size = (arrOf st₀).size := by have := b.perm.length_eq; simpa using this
theorem Bs.ok (b : Bs C st₀ st lo) : Ok C st := ⟨b.kind, b.fine, fun p hp => b.mem p (b.perm.mem_iff.mp hp)⟩
theorem Bs.set (b : Bs C st₀ st lo) {xs : Array Keyed} (hp : xs.Perm (arrOf st)) (hl : ∀ i : Nat, i < lo → xs[i]? = (arrOf st)[i]?) : Bs C st₀ (setArr st xs) lo :=
  ⟨b.kind, b.fine, b.pend, (Array.perm_iff_toList_perm.mp hp).trans b.perm, fun i h => (hl i h).trans (b.low i h), b.mem⟩
theorem kx_of {xs ys : Array Keyed} {i j : Nat} (h : xs[i]? = ys[j]?) : kx C xs i = kx C ys j := by unfold kx; rw [h]
theorem kx_mirror {xs : Array Keyed} {i j : Nat} (hj : j ≤ xs.size) (k : Nat) : kx C (mirror xs i j ((j - i) / 2)) k = if i ≤ k ∧ k < j then kx C xs (i + j - 1 - k) else kx C xs k := by
  have e := getElem?_mirror_all (i := i) hj k
  split at e <;> rename_i q
  · rw [if_pos q]; exact kx_of e
  · rw [if_neg q]; exact kx_of e
theorem Bs.mirror (b : Bs C st₀ st lo) {i j : Nat} (hi : lo ≤ i) (hj : j ≤ (arrOf st).size) : Bs C st₀ (setArr st (mirror (arrOf st) i j ((j - i) / 2))) lo :=
  b.set (mirror_perm _ _ _ _) fun k hk => by rw [getElem?_mirror_all hj, if_neg (by omega)]
theorem kx_same {xs : Array Keyed} {i j : Nat} (hj : j ≤ xs.size) (he : ∀ k, i ≤ k → k < j → kx C xs k = kx C xs (j - 1)) (k : Nat) : kx C (mirror xs i j ((j - i) / 2)) k = kx C xs k := by
  rw [kx_mirror hj]
  split
  · rename_i q
    rw [he (i + j - 1 - k) (by omega) (by omega), he k q.1 q.2]
  · rfl
theorem rev_k {i j : Nat} {Q : Unit → SortSt → Prop} (h : Q () (setArr st (mirror (arrOf st) i j ((j - i) / 2)))) : W C (reverseSlice' i j) Q st := by
  rw [reverseSlice'_eq]; exact wpS_modify h
def tailL (lo n nrem : Nat) : StateT SortSt Sem (Option Nat) := do
  reverseSlice' lo (lo + n)
  let mut m := n
  for _ in [n:nrem] do
    let some less ← ltAt' (lo + m) (lo + m - 1) | return none
    if less then break
    m := m + 1
  return some m
theorem tailL_k {nrem : Nat} {Q : Option Nat → SortSt → Prop} (b : Bs C st₀ st lo) (h1 : 1 ≤ n) (hn : n ≤ nrem) (hs : lo + nrem ≤ (arrOf st₀).size) (ni : NI C st lo n) (h : ∀ m st', Bs C st₀ st' lo → 1 ≤ m → m ≤ nrem → SR C st' lo m → Q (some m) st') : W C (tailL lo n nrem) Q st := by
  unfold tailL
  have hz := b.size
  refine wpS_bind (rev_k ?_)
  have b1 := b.mirror (i := lo) (j := lo + n) (Nat.le_refl _) (by omega)
  have s1 : SR C (setArr st (PyProof.Rows.mirror (arrOf st) lo (lo + n) ((lo + n - lo) / 2))) lo n := fun i j hij hj => by
    show kx C (PyProof.Rows.mirror _ _ _ _) _ ≤ kx C (PyProof.Rows.mirror _ _ _ _) _
    rw [kx_mirror (by omega), kx_mirror (by omega), if_pos (by omega), if_pos (by omega)]
    have := ni (n - 1 - j) (n - 1 - i) (by omega) (by omega)
    rw [show lo + (lo + n) - 1 - (lo + i) = lo + (n - 1 - i) by omega, show lo + (lo + n) - 1 - (lo + j) = lo + (n - 1 - j) by omega]
    exact this
  generalize setArr st (PyProof.Rows.mirror (arrOf st) lo (lo + n) ((lo + n - lo) / 2)) = st1 at b1 s1 ⊢
  have hz1 := b1.size
  dsimp only
  refine wpS_bind (wpS_mono (wpS_forRange (I := fun x c st' => st' = st1 ∧ c = (none, x) ∧ SR C st1 lo x) (Q := fun c st' => st' = st1 ∧ ∃ m, c = (none, m) ∧ 1 ≤ m ∧ m ≤ nrem ∧ SR C st1 lo m) ?step ?fin ⟨rfl, rfl, s1⟩) ?post)
  case post =>
    rintro c st' ⟨rfl, m, rfl, q1, q2, q3⟩
    exact wpS_pure (h m _ b1 q1 q2 q3)
  case fin =>
    rintro c st' ⟨rfl, rfl, q⟩
    rw [show max n nrem = nrem by omega] at q ⊢
    exact ⟨rfl, nrem, rfl, by omega, Nat.le_refl _, q⟩
  case step =>
    rintro x c st' hx hxn ⟨rfl, rfl, q⟩
    dsimp only
    refine wpS_bind (ltAt_k b1.ok (by omega) (by omega) ?_)
    by_cases hl : kx C (arrOf st') (lo + x) < kx C (arrOf st') (lo + x - 1)
    · simp only [hl, decide_true, if_true]
      exact wpS_pure ⟨rfl, x, rfl, by omega, by omega, q⟩
    · simp only [hl, decide_false, Bool.false_eq_true, if_false]
      refine wpS_pure ⟨rfl, rfl, fun i j hij hj => ?_⟩
      rcases Nat.lt_or_ge j x with w | w
      · exact q i j hij w
      · have : j = x := by omega
        subst this
        rcases Nat.lt_or_ge i j with v | v
        · have := q i (j - 1) (by omega) (by omega)
          rw [show lo + (j - 1) = lo + j - 1 by omega] at this
          omega
        · have : i = j := by omega
          subst this; exact Int.le_refl _
def dpart (lo n0 nrem : Nat) : StateT SortSt Sem (Option Nat) := do
  rule "list.sort.descending-run"
  let mut n := n0 + 1
  let mut eqs := 0
  for _ in [n:nrem] do
    let some less ← ltAt' (lo + n) (lo + n - 1) | return none
    if less then
      if eqs > 0 then reverseSlice' (lo + n - (eqs + 1)) (lo + n)
      eqs := 0
    else
      let some more ← ltAt' (lo + n - 1) (lo + n) | return none
      if more then break
      eqs := eqs + 1
    n := n + 1
  if eqs > 0 then reverseSlice' (lo + n - (eqs + 1)) (lo + n)
  tailL lo n nrem
theorem dpart_k {nrem : Nat} {Q : Option Nat → SortSt → Prop} (b : Bs C st₀ st lo) (hn : n + 1 ≤ nrem) (hs : lo + nrem ≤ (arrOf st₀).size) (ni : NI C st lo (n + 1)) (h : ∀ m st', Bs C st₀ st' lo → 1 ≤ m → m ≤ nrem → SR C st' lo m → Q (some m) st') : W C (dpart lo n nrem) Q st := by
  unfold dpart
  refine wpS_bind (rule_k ?_)
  dsimp only
  refine wpS_bind (wpS_mono (wpS_forRange (I := fun x c st' => ∃ eqs, c = (none, x, eqs) ∧ Bs C st₀ st' lo ∧ NI C st' lo x ∧ eqs + 1 ≤ x ∧ ∀ i, x - (eqs + 1) ≤ i → i < x → kx C (arrOf st') (lo + i) = kx C (arrOf st') (lo + x - 1))
    (Q := fun c st' => ∃ x eqs, c = (none, x, eqs) ∧ Bs C st₀ st' lo ∧ NI C st' lo x ∧ eqs + 1 ≤ x ∧ 1 ≤ x ∧ x ≤ nrem ∧ ∀ i, x - (eqs + 1) ≤ i → i < x → kx C (arrOf st') (lo + i) = kx C (arrOf st') (lo + x - 1)) ?step ?fin ⟨0, rfl, b, ni, by omega, fun i h1 h2 => by congr 1; omega⟩) ?post)
  case fin =>
    rintro c st' ⟨eqs, rfl, q1, q2, q3, q4⟩
    rw [show max (n + 1) nrem = nrem by omega] at q2 q3 q4 ⊢
    exact ⟨nrem, eqs, rfl, q1, q2, q3, by omega, Nat.le_refl _, q4⟩
  case step =>
    rintro x c st' hx hxn ⟨eqs, rfl, q1, q2, q3, q4⟩
    dsimp only
    have hz := q1.size
    refine wpS_bind (ltAt_k q1.ok (by omega) (by omega) ?_)
    by_cases hl : kx C (arrOf st') (lo + x) < kx C (arrOf st') (lo + x - 1)
    · simp only [hl, decide_true, if_true]
      have more : ∀ ys : Array Keyed, (∀ k, kx C ys k = kx C (arrOf st') k) → ∀ i j, i ≤ j → j < x + 1 → kx C ys (lo + j) ≤ kx C ys (lo + i) := fun ys hy i j hij hj => by
        rw [hy, hy]
        rcases Nat.lt_or_ge j x with w | w
        · exact q2 i j hij w
        · have : j = x := by omega
          subst this
          rcases Nat.lt_or_ge i j with v | v
          · have := q2 i (j - 1) (by omega) (by omega)
            rw [show lo + (j - 1) = lo + j - 1 by omega] at this
            omega
          · have : i = j := by omega
            subst this; exact Int.le_refl _
      by_cases he : eqs > 0
      · rw [if_pos he]
        refine wpS_bind (rev_k (wpS_pure ⟨0, rfl, q1.mirror (by omega) (by omega), more _ (kx_same (by omega) fun k h1 h2 => ?_), by omega, fun i h1 h2 => by congr 1; omega⟩))
        have e := q4 (k - lo) (by omega) (by omega)
        rwa [show lo + (k - lo) = k by omega] at e
      · rw [if_neg he]
        exact wpS_pure ⟨0, rfl, q1, more _ fun _ => rfl, by omega, fun i h1 h2 => by congr 1; omega⟩
    · simp only [hl, decide_false, Bool.false_eq_true, if_false]
      refine wpS_bind (ltAt_k q1.ok (by omega) (by omega) ?_)
      by_cases hm : kx C (arrOf st') (lo + x - 1) < kx C (arrOf st') (lo + x)
      · simp only [hm, decide_true, if_true]
        exact wpS_pure ⟨x, eqs, rfl, q1, q2, q3, by omega, by omega, q4⟩
      · simp only [hm, decide_false, Bool.false_eq_true, if_false]
        have ee : kx C (arrOf st') (lo + x) = kx C (arrOf st') (lo + x - 1) := by omega
        refine wpS_pure ⟨eqs + 1, rfl, q1, fun i j hij hj => ?_, by omega, fun i h1 h2 => ?_⟩
        · rcases Nat.lt_or_ge j x with w | w
          · exact q2 i j hij w
          · have : j = x := by omega
            subst this
            rcases Nat.lt_or_ge i j with v | v
            · have := q2 i (j - 1) (by omega) (by omega)
              rw [show lo + (j - 1) = lo + j - 1 by omega] at this
              omega
            · have : i = j := by omega
              subst this; exact Int.le_refl _
        · rw [show lo + (x + 1) - 1 = lo + x by omega]
          rcases Nat.lt_or_ge i x with w | w
          · rw [q4 i (by omega) w, ee]
          · have : i = x := by omega
            subst this; rfl
  case post =>
    rintro c st' ⟨x, eqs, rfl, q1, q2, q3, q4, q5, q6⟩
    dsimp only
    have hz := q1.size
    by_cases he : eqs > 0
    · rw [if_pos he]
      refine wpS_bind (rev_k (tailL_k (q1.mirror (by omega) (by omega)) q4 q5 hs ?_ h))
      intro i j hij hj
      show kx C (PyProof.Rows.mirror _ _ _ _) _ ≤ kx C (PyProof.Rows.mirror _ _ _ _) _
      have same := kx_same (C := C) (xs := arrOf st') (i := lo + x - (eqs + 1)) (j := lo + x) (by omega) fun k h1 h2 => by
        have e := q6 (k - lo) (by omega) (by omega)
        rwa [show lo + (k - lo) = k by omega] at e
      rw [same, same]
      exact q2 i j hij hj
    · rw [if_neg he]
      exact tailL_k q1 q4 q5 hs q2 h
theorem countRun_k {nrem : Nat} {Q : Option Nat → SortSt → Prop} (b : Bs C st₀ st lo) (h1 : 1 ≤ nrem) (hs : lo + nrem ≤ (arrOf st₀).size) (h : ∀ m st', Bs C st₀ st' lo → 1 ≤ m → m ≤ nrem → SR C st' lo m → Q (some m) st') : W C (countRun' lo nrem) Q st := by
  have hz := b.size
  rw [countRun'_eq]
  dsimp only
  refine wpS_bind (wpS_mono (wpS_forRange (I := fun x c st' => st' = st ∧ c = (none, x) ∧ SR C st lo x) (Q := fun c st' => st' = st ∧ ∃ m, c = (none, m) ∧ 1 ≤ m ∧ m ≤ nrem ∧ SR C st lo m ∧ (m = nrem ∨ kx C (arrOf st) (lo + m) < kx C (arrOf st) (lo + m - 1))) ?step ?fin ⟨rfl, rfl, fun i j hij hj => (by obtain rfl : i = j := (by omega); exact Int.le_refl _)⟩) ?post)
  case fin =>
    rintro c st' ⟨rfl, rfl, q⟩
    rw [show max 1 nrem = nrem by omega] at q ⊢
    exact ⟨rfl, nrem, rfl, by omega, Nat.le_refl _, q, .inl rfl⟩
  case step =>
    rintro x c st' hx hxn ⟨rfl, rfl, q⟩
    dsimp only
    refine wpS_bind (ltAt_k b.ok (by omega) (by omega) ?_)
    by_cases hl : kx C (arrOf st') (lo + x) < kx C (arrOf st') (lo + x - 1)
    · simp only [hl, decide_true, if_true]
      exact wpS_pure ⟨rfl, x, rfl, by omega, by omega, q, .inr hl⟩
    · simp only [hl, decide_false, Bool.false_eq_true, if_false]
      refine wpS_pure ⟨rfl, rfl, fun i j hij hj => ?_⟩
      rcases Nat.lt_or_ge j x with w | w
      · exact q i j hij w
      · have : j = x := by omega
        subst this
        rcases Nat.lt_or_ge i j with v | v
        · have := q i (j - 1) (by omega) (by omega)
          rw [show lo + (j - 1) = lo + j - 1 by omega] at this
          omega
        · have : i = j := by omega
          subst this; exact Int.le_refl _
  case post =>
    rintro c st' ⟨rfl, m, rfl, q1, q2, q3, q4⟩
    dsimp only
    by_cases hm : m = nrem
    · rw [if_pos (by simpa using hm)]
      exact wpS_pure (h m _ b q1 q2 q3)
    · rw [if_neg (by simpa using hm)]
      have lt := q4.resolve_left hm
      by_cases hg : m > 1
      · rw [if_pos hg]
        refine wpS_bind (ltAt_k b.ok (by omega) (by omega) ?_)
        by_cases hr : kx C (arrOf st') lo < kx C (arrOf st') (lo + m - 1)
        · simp only [hr, decide_true, if_true]
          exact wpS_pure (h m _ b q1 q2 q3)
        · simp only [hr, decide_false, Bool.false_eq_true, if_false]
          have all : ∀ k, k < m → kx C (arrOf st') (lo + k) = kx C (arrOf st') (lo + m - 1) := fun k hk => by
            have e1 := q3 0 k (by omega) hk
            have e2 := q3 k (m - 1) (by omega) (by omega)
            rw [show lo + (m - 1) = lo + m - 1 by omega] at e2
            rw [Nat.add_zero] at e1
            omega
          have same := kx_same (C := C) (xs := arrOf st') (i := lo) (j := lo + m) (by omega) fun k h1 h2 => by
            have e := all (k - lo) (by omega)
            rwa [show lo + (k - lo) = k by omega] at e
          refine wpS_bind (rev_k (dpart_k (b.mirror (Nat.le_refl _) (by omega)) (by omega) hs (fun i j hij hj => ?_) h))
          show kx C (PyProof.Rows.mirror _ _ _ _) _ ≤ kx C (PyProof.Rows.mirror _ _ _ _) _
          rw [same, same]
          rcases Nat.lt_or_ge j m with w | w
          · rw [all i (by omega), all j w]; exact Int.le_refl _
          · have : j = m := by omega
            subst this
            rcases Nat.lt_or_ge i j with v | v
            · rw [all i v]; exact Int.le_of_lt lt
            · have : i = j := by omega
              subst this; exact Int.le_refl _
      · rw [if_neg hg]
        have : m = 1 := by omega
        subst this
        refine dpart_k b (by omega) hs (fun i j hij hj => ?_) h
        rcases Nat.lt_or_ge i j with v | v
        · have e1 : i = 0 := by omega
          have e2 : j = 1 := by omega
          subst e1 e2
          rw [Nat.add_zero]
          exact Int.le_of_lt lt
        · have : i = j := by omega
          subst this; exact Int.le_refl _
theorem kx_bubble {xs : Array Keyed} {src d : Nat} (hs : src < xs.size) (hd : d ≤ src) (k : Nat) : kx C (bubble xs src d) k = if k = src - d then kx C xs src else if src - d < k ∧ k ≤ src then kx C xs (k - 1) else kx C xs k := by
  have e := getElem?_bubble hs d hd k
  split at e <;> rename_i q
  · rw [if_pos q]; exact kx_of e
  · rw [if_neg q]
    split at e <;> rename_i q2
    · rw [if_pos q2]; exact kx_of e
    · rw [if_neg q2]; exact kx_of e
theorem binary_k {ok : Nat} {Q : Bool → SortSt → Prop} (b : Bs C st₀ st lo) (h1 : 1 ≤ ok) (hn : ok ≤ n) (hs : lo + n ≤ (arrOf st₀).size) (sr : SR C st lo ok) (h : ∀ st', Bs C st₀ st' lo → SR C st' lo n → Q true st') : W C (binarySort' lo n ok) Q st := by
  rw [binarySort'_eq]
  refine wpS_bind (wpS_mono (wpS_forRange (I := fun k c st' => c = (none, ()) ∧ Bs C st₀ st' lo ∧ SR C st' lo (min k n)) (Q := fun c st' => c = (none, ()) ∧ Bs C st₀ st' lo ∧ SR C st' lo n) ?step ?fin ?init) ?post)
  case post =>
    rintro c st' ⟨rfl, q1, q2⟩
    exact wpS_pure (h st' q1 q2)
  case init => exact ⟨rfl, b, fun i j hij hj => sr i j hij (by omega)⟩
  case fin =>
    rintro c st' ⟨e, q1, q2⟩
    refine ⟨e, q1, ?_⟩
    rwa [show min (max (max ok 1) n) n = n by omega] at q2
  case step =>
    rintro k c st' hk hkn ⟨rfl, q1, q2⟩
    rw [show min k n = k by omega] at q2
    have hz := q1.size
    refine wpS_bind (wpS_mono (wpS_forRange (I := fun x c st'' => st'' = st' ∧ ∃ l r, c = (none, l, r) ∧ l ≤ r ∧ r ≤ k ∧ r - l ≤ k - x ∧ (∀ i, i < l → kx C (arrOf st') (lo + i) ≤ kx C (arrOf st') (lo + k)) ∧ (∀ i, r ≤ i → i < k → kx C (arrOf st') (lo + k) < kx C (arrOf st') (lo + i)))
      (Q := fun c st'' => st'' = st' ∧ ∃ l r, c = (none, l, r) ∧ l ≤ k ∧ (∀ i, i < l → kx C (arrOf st') (lo + i) ≤ kx C (arrOf st') (lo + k)) ∧ (∀ i, l ≤ i → i < k → kx C (arrOf st') (lo + k) < kx C (arrOf st') (lo + i))) ?st2 ?fi2 ⟨rfl, 0, k, rfl, by omega, by omega, by omega, (fun i hi => by omega), fun i h1 h2 => by omega⟩) ?po2)
    case fi2 =>
      rintro c st'' ⟨rfl, l, r, rfl, g1, g2, g3, g4, g5⟩
      have : l = r := by omega
      subst this
      exact ⟨rfl, l, l, rfl, g2, g4, g5⟩
    case st2 =>
      rintro x c st'' _ hx ⟨rfl, l, r, rfl, g1, g2, g3, g4, g5⟩
      dsimp only
      by_cases hlr : l ≥ r
      · rw [if_pos hlr]
        have : l = r := by omega
        subst this
        exact wpS_pure ⟨rfl, l, l, rfl, g2, g4, g5⟩
      · rw [if_neg hlr]
        refine wpS_bind (ltAt_k q1.ok (by omega) (by omega) ?_)
        by_cases hl : kx C (arrOf st'') (lo + k) < kx C (arrOf st'') (lo + (l + r) / 2)
        · simp only [hl, decide_true, if_true]
          exact wpS_pure ⟨rfl, l, (l + r) / 2, rfl, by omega, by omega, by omega, g4, fun i u1 u2 => Int.lt_of_lt_of_le hl (q2 _ _ u1 u2)⟩
        · simp only [hl, decide_false, Bool.false_eq_true, if_false]
          exact wpS_pure ⟨rfl, (l + r) / 2 + 1, r, rfl, by omega, by omega, by omega, (fun i u1 => Int.le_trans (q2 i ((l + r) / 2) (by omega) (by omega)) (Int.not_lt.mp hl)), g5⟩
    case po2 =>
      rintro c st'' ⟨rfl, l, r, rfl, g1, g2, g3⟩
      show W C (do moveDown' (lo + k) (lo + l); pure (ForInStep.yield (none, ()))) _ _
      rw [moveDown'_eq]
      have hks : lo + k < (arrOf st'').size := by omega
      refine wpS_bind (wpS_modify (wpS_pure ⟨rfl, q1.set (bubble_perm _ _ _) (fun i hi => ?_), ?_⟩))
      · rw [getElem?_bubble hks _ (by omega), if_neg (by omega), if_neg (by omega)]
      rw [show min (k + 1) n = k + 1 by omega]
      intro i j hij hj
      show kx C (bubble (arrOf st'') (lo + k) (lo + k - (lo + l))) (lo + i) ≤ kx C (bubble (arrOf st'') (lo + k) (lo + k - (lo + l))) (lo + j)
      have val : ∀ i, i ≤ k → kx C (bubble (arrOf st'') (lo + k) (lo + k - (lo + l))) (lo + i) = if i = l then kx C (arrOf st'') (lo + k) else if l < i then kx C (arrOf st'') (lo + (i - 1)) else kx C (arrOf st'') (lo + i) := fun i hi => by
        rw [kx_bubble hks (by omega)]
        by_cases e1 : i = l
        · rw [if_pos (by omega), if_pos e1]
        · rw [if_neg (by omega), if_neg e1]
          by_cases e2 : l < i
          · rw [if_pos (by omega), if_pos e2, show lo + i - 1 = lo + (i - 1) by omega]
          · rw [if_neg (by omega), if_neg e2]
      rw [val i (by omega), val j (by omega)]
      by_cases i1 : i = l
      · rw [if_pos i1]
        by_cases j1 : j = l
        · rw [if_pos j1]; exact Int.le_refl _
        · rw [if_neg j1, if_pos (by omega)]
          exact Int.le_of_lt (g3 (j - 1) (by omega) (by omega))
      · rw [if_neg i1]
        by_cases i2 : l < i
        · rw [if_pos i2, if_neg (by omega), if_pos (by omega)]
          exact q2 _ _ (by omega) (by omega)
        · rw [if_neg i2]
          by_cases j1 : j = l
          · rw [if_pos j1]; exact g2 i (by omega)
          · rw [if_neg j1]
            by_cases j2 : l < j
            · rw [if_pos j2]; exact q2 _ _ (by omega) (by omega)
            · rw [if_neg j2]; exact q2 _ _ (by omega) (by omega)
end
end TS

open PySem PyProof PyProof.Rows
namespace TS
variable {C : Cmp}
theorem seg_eq_of {L L' : List Keyed} {lo a n : Nat} (h : ∀ i : Nat, i < lo → L'[i]? = L[i]?) (hl : a + n ≤ lo) : seg L' a n = seg L a n := by
  apply List.ext_getElem?
  intro i
  unfold seg
  by_cases hi : i < n
  · rw [List.getElem?_take_of_lt hi, List.getElem?_take_of_lt hi, List.getElem?_drop, List.getElem?_drop]; exact h _ (by omega)
  · rw [List.getElem?_eq_none (by simp; omega), List.getElem?_eq_none (by simp; omega)]
theorem Bs.g {L0 : List Keyed} {st₀ st : SortSt} {lo : Nat} (b : Bs C st₀ st lo) (g : G C L0 st₀ lo) : G C L0 st lo := by
  refine ⟨b.kind, b.fine, b.perm.trans g.perm, ?_, by have := b.size; have := g.le; omega⟩
  rw [b.pend]
  refine g.runs.congr fun a n _ hn => seg_eq_of (lo := lo) (fun i hi => ?_) hn
  have := b.low i hi
  simpa using this
theorem seg_tail {L L' : List Keyed} {lo n : Nat} (h : L'.drop lo = L.drop lo) : seg L' lo n = seg L lo n := by unfold seg; rw [h]
theorem Runs.pw {L : List Keyed} {pw : Nat} : ∀ {r : List (Nat × Nat × Nat)} {s e : Nat} (k : Nat), Runs C L r s e → Runs C L (r.modify k fun (a, b, _) => (a, b, pw)) s e
  | [], _, _, k, h => by simpa using h
  | (x, n, _) :: r, s, e, 0, ⟨h0, h1, h2, h3⟩ => ⟨h0, h1, h2, h3⟩
  | (x, n, _) :: r, s, e, k + 1, ⟨h0, h1, h2, h3⟩ => ⟨h0, h1, h2, h3.pw k⟩
theorem G.pw {L0 : List Keyed} {st : SortSt} {lo pw : Nat} (g : G C L0 st lo) : G C L0 (setPending st ((pendingOf st).modify ((pendingOf st).size - 1) fun (st, len, _) => (st, len, pw))) lo := by
  refine ⟨g.kind, g.fine, g.perm, ?_, g.le⟩
  show Runs C (arrOf st).toList ((pendingOf st).modify _ _).toList 0 lo
  rw [Array.toList_modify]
  exact g.runs.pw _
theorem G.push {L0 : List Keyed} {st : SortSt} {lo n : Nat} (g : G C L0 st lo) (h1 : 1 ≤ n) (hn : lo + n ≤ (arrOf st).size) (hs : Srt C (seg (arrOf st).toList lo n)) : G C L0 (setPending st ((pendingOf st).push (lo, n, 0))) (lo + n) := by
  refine ⟨g.kind, g.fine, g.perm, ?_, hn⟩
  show Runs C (arrOf st).toList ((pendingOf st).push (lo, n, 0)).toList 0 (lo + n)
  rw [Array.toList_push]
  exact Runs.app.mpr ⟨lo, g.runs, rfl, h1, hs, rfl⟩
theorem G.size {L0 : List Keyed} {st : SortSt} {lo : Nat} (g : G C L0 st lo) : (arrOf st).size = L0.length := by have := g.perm.length_eq; simpa using this
theorem runs_one {L : List Keyed} {r : List (Nat × Nat × Nat)} {e : Nat} (h : Runs C L r 0 e) (hr : r.length ≤ 1) : Srt C (L.take e) := by
  match r, hr, h with
  | [], _, h => cases h; simp [Srt]
  | [(x, n, _)], _, ⟨_, _, h2, h3⟩ => 
    have : 0 + n = e := h3
    subst this
    simpa [seg] using h2
theorem ite_le2 (b : Bool) (k : Nat) : (if b = true then k - 1 else k) ≤ k := by cases b <;> simp
theorem sortRuns_k {L0 : List Keyed} {st : SortSt} {Q : Unit → SortSt → Prop} (hS : ∀ p ∈ L0, C.S p) (g0 : G C L0 st 0) (h : ∀ st', failedOf st' = none → (arrOf st').toList.Perm L0 → Srt C (arrOf st').toList → Q () st') : W C sortRuns' Q st := by
  rw [sortRuns'_eq]
  refine wpS_bind (wpS_get ?_)
  dsimp only
  rw [g0.size]
  generalize hm : minRun' L0.length L0.length 0 = minrun
  generalize hsz : L0.length = size
  refine wpS_bind (wpS_mono (wpS_forRange
    (I := fun x c st' => ∃ lo, c = (none, lo) ∧ G C L0 st' lo ∧ min x size ≤ lo)
    (Q := fun c st' => c = (none, size) ∧ G C L0 st' size) ?step ?fin ⟨0, rfl, g0, by omega⟩) ?post)
  case fin =>
    rintro c st' ⟨lo, rfl, g, q⟩
    have a := g.le
    have b := g.size
    obtain rfl : lo = size := by omega
    exact ⟨rfl, g⟩
  case step =>
    rintro x c st' _ hx ⟨lo, rfl, g, q⟩
    dsimp only
    have hz := g.size
    have hle := g.le
    by_cases hlo : lo ≥ size
    · rw [if_pos hlo]
      obtain rfl : lo = size := by omega
      exact wpS_pure ⟨rfl, g⟩
    rw [if_neg hlo]
    have b0 : Bs C st' st' lo := ⟨g.kind, g.fine, rfl, List.Perm.refl _, fun _ _ => rfl, fun p hp => hS p (g.perm.mem_iff.mp hp)⟩
    refine wpS_bind (countRun_k b0 (by omega) (by omega) fun m st1 b1 hm1 hm2 sr1 => ?_)
    dsimp only
    by_cases hlt : m < minrun
    rw [if_pos hlt]
    refine wpS_bind (rule_k ?_)
    refine wpS_bind (binary_k b1 hm1 (n := min (size - lo) minrun) (by omega) (by omega) sr1 fun st2 b sr => ?_)
    simp only [Bool.not_true, Bool.false_eq_true, if_false]
    have hn1 : 1 ≤ min (size - lo) minrun := by omega
    have hn2 : lo + min (size - lo) minrun ≤ size := by omega
    generalize min (size - lo) minrun = n at hn1 hn2 sr ⊢
    rotate_left
    rw [if_neg hlt]
    have hn2 : lo + m ≤ size := by omega
    have hn1 := hm1
    have b := b1
    have sr := sr1
    clear sr1 b1 hm1 hm2 hlt
    generalize m = n at hn1 hn2 sr ⊢
    generalize st1 = st2 at b sr ⊢
    all_goals
      have g2 := b.g g
      have hz2 := g2.size
      have hseg : Srt C (seg (arrOf st2).toList lo n) := srt_seg (by omega) sr
      refine wpS_bind (wpS_get ?_)
      cases hb : (pendingOf st2).back? with
      | none =>
        dsimp only
        exact wpS_bind (wpS_modify (wpS_pure ⟨lo + n, rfl, g2.push hn1 (by omega) hseg, by omega⟩))
      | some v =>
        obtain ⟨s1, n1, pw0⟩ := v
        dsimp only
        generalize power' size (2 * s1 + n1) (2 * s1 + n1 + n1 + n) size = pw
        refine wpS_bind (wpS_mono (wpS_forRange (I := fun _ c st' => c = (none, ()) ∧ G C L0 st' lo ∧ (arrOf st').toList.drop lo = (arrOf st2).toList.drop lo) (Q := fun c st' => c = (none, ()) ∧ G C L0 st' lo ∧ (arrOf st').toList.drop lo = (arrOf st2).toList.drop lo) ?_ (fun _ _ hh => hh) ⟨rfl, g2, rfl⟩) ?_)
        · rintro y c st3 _ hy ⟨rfl, g3, t3⟩
          refine wpS_bind (wpS_get ?_)
          by_cases h1 : (pendingOf st3).size > 1
          · rw [if_pos h1, getElem?_pos (pendingOf st3) ((pendingOf st3).size - 2) (by omega)]
            obtain ⟨⟨q1, q2, older⟩, eo⟩ : ∃ x, (pendingOf st3)[(pendingOf st3).size - 2]'(by omega) = x := ⟨_, rfl⟩
            rw [eo]
            dsimp only
            by_cases ho : older ≤ pw
            · rw [if_pos ho]
              exact wpS_pure ⟨rfl, g3, t3⟩
            · rw [if_neg ho]
              refine wpS_bind (mAt_k hS g3 (by omega) fun st4 g4 _ t4 => ?_)
              simp only [Bool.not_true, Bool.false_eq_true, if_false]
              exact wpS_pure ⟨rfl, g4, t4.trans t3⟩
          · rw [if_neg h1]
            exact wpS_pure ⟨rfl, g3, t3⟩
        · rintro c st3 ⟨rfl, g3, t3⟩
          dsimp only
          have hz3 := g3.size
          refine wpS_bind (wpS_modify (wpS_bind (wpS_modify (wpS_pure ⟨lo + n, rfl, G.push g3.pw hn1 (by show lo + n ≤ (arrOf st3).size; omega) ?_, by omega⟩))))
          show Srt C (seg (arrOf st3).toList lo n)
          rw [seg_tail t3]; exact hseg
  case post =>
    rintro c st' ⟨rfl, g⟩
    dsimp only
    have hz := g.size
    have hrl := g.runs.le
    have hpl : (pendingOf st').toList.length = (pendingOf st').size := by simp
    refine wpS_bind (wpS_mono (wpS_forRange (I := fun x c st'' => c = (none, ()) ∧ G C L0 st'' size ∧ (pendingOf st'').size + x ≤ size) (Q := fun c st'' => c = (none, ()) ∧ G C L0 st'' size ∧ (pendingOf st'').size ≤ 1) ?_ ?_ ⟨rfl, g, by omega⟩) ?_)
    · rintro x c st2 _ hx ⟨rfl, g2, hp⟩
      refine wpS_bind (wpS_get ?_)
      by_cases h1 : (pendingOf st2).size ≤ 1
      · rw [if_pos h1]
        exact wpS_pure ⟨rfl, g2, h1⟩
      · rw [if_neg h1]
        generalize hi : (if Option.any (fun x => decide (x < Option.elim (pendingOf st2)[(pendingOf st2).size - 2 + 1]? 0 fun x => x.2.1)) (if (pendingOf st2).size - 2 > 0 then Option.map (fun x => x.2.1) (pendingOf st2)[(pendingOf st2).size - 2 - 1]? else none) = true then (pendingOf st2).size - 2 - 1 else (pendingOf st2).size - 2) = i
        have hi2 : i ≤ (pendingOf st2).size - 2 := by rw [← hi]; exact ite_le2 _ _
        refine wpS_bind (mAt_k hS g2 (by omega) fun st3 g3 hq _ => ?_)
        simp only [Bool.not_true, Bool.false_eq_true, if_false]
        exact wpS_pure ⟨rfl, g3, by omega⟩
    · rintro c st2 ⟨rfl, g2, hp⟩
      exact ⟨rfl, g2, by omega⟩
    · rintro c st2 ⟨rfl, g2, hp⟩
      have hz2 := g2.size
      have s2 := runs_one g2.runs (by simpa using hp)
      rw [List.take_of_length_le (by simp; omega)] at s2
      exact wpS_pure (h st2 g2.fine g2.perm s2)
end TS

namespace TS
open PySem PyProof PyProof.Rows
section
variable {prog : Program} {w : World} {A : Around} {E : Value → Shared → Prop} {s : Shared}
def CI (prog : Program) (w : World) (A : Around) (E : Value → Shared → Prop) (s : Shared) : Cmp where
  key p := numOf p.1
  kd := oneType'
  S p := ∃ n t, p.1 = .int n t
  prog := prog
  w := w
  A := A
  E := E
  s := s
  lt := by
    rintro st ⟨_, p⟩ ⟨_, q⟩ Q ⟨n, t, rfl⟩ ⟨k, u, rfl⟩ hk h
    rw [lt'_eq]
    refine wpS_bind (wpS_get ?_)
    rw [hk]
    exact wpS_bind (wpS_lift (wpAny_attempt (keyLt'_oneType _ _ ▸ oneLt_int ⟨rfl, wpS_pure h⟩)))
theorem kx_K (xs : Array Keyed) (i : Nat) : kx (CI prog w A E s) xs i = K xs i := by
  unfold kx K
  cases xs[i]? <;> rfl
theorem runs_ints {vs : List Value} {ns : List Int} (hI : IntsAre vs ns) : wpAny (model prog w) A (sortRuns'.run (SortSt.mk' oneType' (vs.toArray.zip vs.toArray) #[] 7 none)) (fun r s' => s' = s ∧ failedOf r.2 = none ∧ (arrOf r.2).Perm (pairsOf vs) ∧ SortedTo (arrOf r.2) (pairsOf vs).size) E s := by
  have q : W (CI prog w A E s) sortRuns' (fun _ st' => failedOf st' = none ∧ (arrOf st').Perm (pairsOf vs) ∧ SortedTo (arrOf st') (pairsOf vs).size) (SortSt.mk' oneType' (vs.toArray.zip vs.toArray) #[] 7 none) := by
    refine sortRuns_k (L0 := (pairsOf vs).toList) (fun p hp => hI.intKeys p hp) ⟨rfl, rfl, List.Perm.refl _, rfl, Nat.zero_le _⟩ fun st' a1 a2 a3 => ?_
    have pm : (arrOf st').Perm (pairsOf vs) := Array.perm_iff_toList_perm.mpr a2
    refine ⟨a1, pm, fun i j hij hj => ?_⟩
    have e := srt_kx a3 hij (by rw [pm.size_eq]; exact hj)
    rwa [kx_K, kx_K] at e
  exact q
/-- the list at a sorted in its place; all other things stay -/
def Keeps (h h' : Heap) (a : Addr) : Prop := ∀ b o, b ≠ a → h.get? b = some o → h'.get? b = some o
theorem Keeps.upd (h : Heap) (a : Addr) (f : Obj → Obj) : Keeps h (h.update a f) a := fun b o hb e => by
  rw [Heap.get?_update_ne _ _ _ _ hb]; exact e
theorem sort_tree {a : Addr} {vs : List Value} {ns : List Int} {n : Nat} {P : PySem.Fin → Shared → Prop} (ho : s.heap.get? a = some (seqObj "list" vs.toArray n)) (hI : IntsAre vs ns) (hz : vs.length ≤ sizeLine)
    (h : ∀ (h' : Heap) (out : List Value) (ns' : List Int) (c : Nat), Keeps s.heap h' a → h'.get? a = some (seqObj "list" out.toArray c) → IntsAre out ns' → ns'.Perm ns → ns'.Pairwise (· ≤ ·) → P (.done (.ret .none)) { s with heap := h' }) :
    wpAny (model prog w) A (Builtin.«list.sort» ⟨[.ref a], []⟩) P E s := by
  have k1 := Keeps.upd s.heap a (Obj.mapSeq fun _ => #[])
  obtain ⟨c1, g1⟩ : ∃ c1, (s.heap.update a (Obj.mapSeq fun _ => #[])).get? a = some (seqObj "list" #[] c1) := ⟨_, get?_update_seq ho (fun _ => #[])⟩
  generalize hh1 : s.heap.update a (Obj.mapSeq fun _ => #[]) = H1 at k1 g1
  have g3 := Heap.get?_push_of_some (seqObj "list" #[] 0) (Heap.get?_push_of_some (seqObj "tuple" vs.toArray 0) g1)
  have k3 : Keeps s.heap ((H1.push (seqObj "tuple" vs.toArray 0)).push (seqObj "list" #[] 0)) a := fun b o hb e => Heap.get?_push_of_some _ (Heap.get?_push_of_some _ (k1 b o hb e))
  have hsz : vs.toArray.size = vs.length := by simp
  -- what comes after the runs
  have fin : ∀ st' : SortSt, failedOf st' = none → (arrOf st').Perm (pairsOf vs) → SortedTo (arrOf st') (pairsOf vs).size → wpAny (model prog w) A (do
      let touched := (← seqEpoch a) != c1
      Builtin.List.listUpdate (.ref a) fun _ => (arrOf st').map (·.2)
      if let some e := failedOf st' then rule "list.sort.comparison-raised"; throw e
      if touched then rule "list.sort.modified"; raiseError "ValueError" "list modified during sort"
      ret .none) P E { s with heap := (H1.push (seqObj "tuple" vs.toArray 0)).push (seqObj "list" #[] 0) } := by
    intro st' f1 f2 f3
    obtain ⟨ns', o1, o2, o3⟩ := sorted_out hI f2 f3
    refine wpAny_bind (seqEpoch_at g3 rfl ?_)
    have oz : ((arrOf st').map (·.2)).size ≤ sizeLine + 1 := by rw [Array.size_map, f2.size_eq, pairsOf_size]; omega
    refine wpAny_bind (listUpdate_at g3 rfl ?_ (Nat.zero_le _) oz)
    rw [f1]
    simp only [bne_self_eq_false, Bool.false_eq_true, if_false]
    obtain ⟨c2, e⟩ : ∃ c2, (((H1.push (seqObj "tuple" vs.toArray 0)).push (seqObj "list" #[] 0)).update a (Obj.mapSeq fun _ => (arrOf st').map (·.2))).get? a = some (seqObj "list" ((arrOf st').map (·.2)) c2) := ⟨_, get?_update_seq g3 fun _ => (arrOf st').map (·.2)⟩
    refine wpAny_pure (h _ ((arrOf st').map (·.2)).toList ns' c2 (fun b o hb e => Keeps.upd _ a _ b o hb (k3 b o hb e)) ?_ o1 o2 o3)
    rw [Array.toArray_toList]; exact e
  rw [list_sort_plain]
  refine wpAny_bind (listItems_at ho rfl (wpAny_bind (listUpdate_at ho rfl ?_ (by rw [hsz]; exact hz) (Nat.zero_le _))))
  rw [hh1]
  refine wpAny_bind (seqEpoch_at g1 rfl (wpAny_bind (wpAny_newTuple ?_ (by simpa using hz))))
  refine wpAny_bind (wpAny_newList (wpAny_holding ?_) (Nat.zero_le _))
  show wpAny (model prog w) A _ P E { s with heap := (H1.push (seqObj "tuple" vs.toArray 0)).push (seqObj "list" #[] 0) }
  dsimp only
  by_cases h2 : vs.toArray.size < 2
  · rw [if_pos h2, if_pos h2]
    refine wpAny_bind (wpAny_pure ?_)
    rw [StateT.run_pure]
    refine wpAny_bind (wpAny_pure (fin (SortSt.mk' general' (vs.toArray.zip vs.toArray) #[] 7 none) rfl (Array.Perm.refl _) fun i j hij hj => ?_))
    obtain rfl : i = j := by rw [pairsOf_size] at hj; omega
    exact Int.le_refl _
  · rw [if_neg h2, if_neg h2]
    have kk : keyKind' vs.toArray = pure oneType' := by
      match vs, hI, h2 with
      | [], _, h2 => simp at h2
      | [_], _, h2 => simp at h2
      | _ :: _ :: _, hI, _ => exact keyKind_ints hI
    rw [kk]
    refine wpAny_bind (wpAny_pure (wpAny_bind (wpAny_mono (runs_ints hI) ?_ fun _ _ e => e)))
    rintro ⟨⟨⟩, st'⟩ s' ⟨rfl, f1, f2, f3⟩
    exact fin st' f1 f2 f3
/-- sorted(x), where x is gathered to ints -/
theorem sorted_of {x : Value} {ns : List Int} {Q : Value → Shared → Prop}
    (hc : ∀ (R : List Value → Shared → Prop), (∀ (h' : Heap) (tk : Nat) (vs : List Value), IntsAre vs ns → vs.length ≤ sizeLine → (∀ b o, s.heap.get? b = some o → h'.get? b = some o) → R vs { s with heap := h', toks := tk }) → wpAny (model prog w) A.in1 (collect x) R E s)
    (h : ∀ (h1 h' : Heap) (tk : Nat) (out : List Value) (ns' : List Int) (c : Nat), (∀ b o, s.heap.get? b = some o → h1.get? b = some o) → (∀ b o, h1.get? b = some o → h'.get? b = some o) → h'.get? h1.objs.size = some (seqObj "list" out.toArray c) → IntsAre out ns' → ns'.Perm ns → ns'.Pairwise (· ≤ ·) → Q (.ref h1.objs.size) { s with heap := h', toks := tk }) :
    wpAny (model prog w) A (call (.builtin "sorted") [x]) Q E s := by
  refine Calls.call_function_entry kind_sorted plain_sorted entry_sorted (args_sorted1 _) ?_
  unfold Builtin.«sorted»
  refine wpAny_bind (m := checkCount "sorted" 1 1 _) (wpAny_pure (wpAny_bind (hc _ fun h1 tk vs hI hz k1 => ?_)))
  refine wpAny_bind (wpAny_newList ?_ hz)
  have g : (h1.push (seqObj "list" vs.toArray 0)).get? h1.objs.size = some (seqObj "list" vs.toArray 0) := Heap.get?_push_size _ rfl
  refine wpAny_bind (wpAny_holding (wpAny_call_entry slot_list_sort ⟨_, g, rfl⟩ entry_list_sort (sort_tree g hI hz fun h2 out ns' c k2 g2 o1 o2 o3 => ⟨_, rfl, ?_⟩) (args_list_sort _)))
  refine wpAny_pure ⟨_, rfl, h h1 h2 tk out ns' c k1 (fun b o e => k2 b o (Nat.ne_of_lt (Heap.lt_size e)) (Heap.get?_push_of_some _ e)) g2 o1 o2 o3⟩
end
end TS

/-! ## sorted -/
namespace D
open PySem PySem.Spec PyProof.Rows L2
variable {X : Cx}
def srt (ns : List Int) : List Int := ns.mergeSort (fun a b => decide (a ≤ b))
theorem srt_perm (ns : List Int) : (srt ns).Perm ns := List.mergeSort_perm _ _
theorem srt_sorted (ns : List Int) : (srt ns).Pairwise (· ≤ ·) := by
  have := List.pairwise_mergeSort (le := fun a b : Int => decide (a ≤ b)) (fun a b c h1 h2 => by simp at *; omega) (fun a b => by simp; omega) ns
  exact this.imp fun h => by simpa using h
theorem srt_unique {ns ms : List Int} (p : ms.Perm ns) (h : ms.Pairwise (· ≤ ·)) : ms = srt ns :=
  (p.trans (srt_perm ns).symm).eq_of_pairwise (fun a b _ _ h1 h2 => Int.le_antisymm h1 h2) h (srt_sorted ns)
theorem ints_vals : ∀ {ns : List Int} {us : List Value}, Vals (ns.map V.int) us → IntsAre us ns
  | [], _, .nil => .nil
  | n :: ns, _, .cons ⟨t, e⟩ r => by subst e; exact .cons n t (ints_vals r)
theorem vals_ints : ∀ {us : List Value} {ns : List Int}, IntsAre us ns → Vals (ns.map V.int) us
  | _, _, .nil => .nil
  | _, _, .cons n t r => .cons ⟨t, rfl⟩ (vals_ints r)
theorem ints_at : ∀ {us : List Value} {ns : List Int}, us.length = ns.length → (∀ (j : Nat) (u : Value) (n : Int), us[j]? = some u → ns[j]? = some n → ∃ t, u = .int n t) → IntsAre us ns
  | [], [], _, _ => .nil
  | u :: us, n :: ns, hl, h => by
    obtain ⟨t, rfl⟩ := h 0 u n rfl rfl
    exact .cons n t (ints_at (by simpa using hl) fun j u n a b => h (j + 1) u n a b)
theorem kv_keys : ∀ {kvs : List (Key × V)} {vs : List (Key × Value)}, KV kvs vs → vs.map (·.1) = kvs.map (·.1)
  | _, _, .nil => rfl
  | _, _, .cons a b => by rw [List.map_cons, List.map_cons, kv_keys b, a.1]
/-- what sorted gathers ints from -/
def IntsOf (K : PySem.W.Frag) (H : Hp) (p : Addr) (ns : List Int) : Prop := SqL K H p (ns.map .int) ∨ ∃ kvs : List (Key × V), H p = some (.dK kvs) ∧ kvs.map (·.1) = ns.map .inl
theorem call_sorted (hc : X.calm = true) : CallR X (.builtin "sorted") (fun xs H Q => ∃ p ns, xs = [.ref p] ∧ IntsOf X.K H p ns ∧ ∀ l, H l = none → Q (.ref l) (upd H l (.lst ((srt ns).map .int)))) := by
  intro pins s σ H xs us Q I r h
  obtain ⟨p, ns, rfl, hq, q⟩ := h
  have hh : X.A.handled = none := I.ok.hd hc
  obtain ⟨u, rfl, rx⟩ := vals1 r
  cases rx
  have hz : ns.length ≤ sizeLine := by
    rcases hq with hq | ⟨kvs, hq, e⟩
    · have := (I.list hq).choose_spec.2.2; simpa using this
    · have a := (dk_of I.hok hq).1
      have b := congrArg List.length e
      simp at b; omega
  refine TS.sorted_of (ns := ns) (fun R hR => ?_) fun h1 h' tk out ns' c k1 k2 g o1 o2 o3 => ?_
  · rcases hq with hq | ⟨kvs, hq, e⟩
    · obtain ⟨its, r', pl, z⟩ := I.list hq
      have hI := ints_vals r'
      have hl : its.length = ns.length := by have := r'.length; simpa using this.symm
      have R1 := hR ((s.heap.push (seqObj "list" #[] 0)).update s.heap.objs.size (Obj.mapSeq (· ++ its.toArray))) s.toks its hI (by omega) fun b o e => by
        have hlt : b < s.heap.objs.size := Heap.lt_size e
        rw [Heap.get?_update_ne _ _ _ _ (Nat.ne_of_lt hlt)]; exact Heap.get?_push_of_some _ e
      exact collect_list pl.isList R1 (by omega)
    · obtain ⟨_, lo, vs, kv, hd⟩ := dk_of I.hok hq
      obtain ⟨ep, hat⟩ := hd.dictAt
      have kl : vs.map (·.1) = ns.map Sum.inl := (kv_keys kv).trans e
      have hvl : vs.length = ns.length := by have := congrArg List.length kl; simpa using this
      refine PySem.W.kdu_collect (PySem.W.kdl_dict (knd := mixKind X.prog X.w) (kvs := vs) (ep := ep) lo) hh hat (by omega) fun h1 tk acc k1 it => hR h1 tk acc.toList (ints_at ?_ fun j u n a b => ?_) ?_ k1
      · rw [Array.length_toList, it.1, hvl]
      · obtain ⟨k, x, e1, e2⟩ := it.2 j u (by simpa using a)
        have : k = Sum.inl n := by
          have e3 := congrArg (fun l => l[j]?) kl
          simp [e1, b] at e3
          exact e3
        subst this
        rcases keyIs_shape (show keyIs (Sum.inl n) u = true from e2) with ⟨i, t, h1, h2⟩ | ⟨_, _, h1, _⟩
        · cases h1; exact ⟨t, h2⟩
        · cases h1
      · rw [Array.length_toList, it.1]; omega
  · obtain rfl := srt_unique o2 o3
    have I1 : Inv X pins σ H { s with heap := h1, toks := tk } := I.kept k1
    have hlen : (srt ns).length ≤ sizeLine := by rw [(srt_perm ns).length_eq]; exact hz
    exact ⟨.ref h1.objs.size, _, I1.laid (t' := tk) k2 (Nat.le_refl _) (show ObjOk X.prog X.w _ h' _ (.lst ((srt ns).map .int)) from ⟨by simpa using hlen, out, c, vals_ints o1, g⟩), rfl, q _ (I1.hok.fresh (Nat.le_refl _))⟩
def dInts : List DV → Option (List Int)
  | [] => some []
  | .int n :: r => (dInts r).map (n :: ·)
  | _ => none
def kInts : List (Key × DV) → Option (List Int)
  | [] => some []
  | (.inl n, _) :: r => (kInts r).map (n :: ·)
  | _ => none
def optA {α : Type} : Option α → M α
  | some d => pure d
  | none => failure
theorem optA_some {α : Type} {o : Option α} {d : α} {hp hp' : Hs} (h : optA o hp = some (d, hp')) : o = some d ∧ hp = hp' := by
  cases o with
  | none => cases h
  | some x => obtain ⟨rfl, rfl⟩ := pure_some h; exact ⟨rfl, rfl⟩
def intsG : DV → M (List Int)
  | .lst ds => optA (dInts ds)
  | .ref n => do
    match ← getW n with
    | .lst ds => optA (dInts ds)
    | .dic kvs => optA (kInts kvs)
    | _ => failure
  | _ => failure
def sortG : List DV → M DV := one1 fun d => do let ns ← intsG d; pure (.lst ((srt ns).map .int))
variable {K : PySem.W.Frag} {ρ : List Addr} {B : Addr → Prop} {H : Hp}
theorem dInts_rep : ∀ {ds : List DV} {ns : List Int} {xs : List V}, dInts ds = some ns → RepL K ρ B H ds xs → xs = ns.map .int
  | [], _, xs, h, r => by cases h; exact r
  | .int n :: ds, ns, xs, h, ⟨x, q, e, r1, r2⟩ => by
    obtain ⟨ms, h1, rfl⟩ := Option.map_eq_some_iff.mp (show (dInts ds).map (n :: ·) = some ns from h)
    rw [e, r1.intI, dInts_rep h1 r2]; rfl
theorem ints_repL : ∀ ns : List Int, RepL K ρ B H (ns.map .int) (ns.map .int)
  | [] => rfl
  | n :: ns => ⟨_, _, rfl, rep_int, ints_repL ns⟩
theorem kInts_keys : ∀ {kvs : List (Key × DV)} {ns : List Int}, kInts kvs = some ns → kvs.map (·.1) = ns.map .inl
  | [], _, h => by cases h; rfl
  | (.inl n, d) :: kvs, ns, h => by
    obtain ⟨ms, h1, rfl⟩ := Option.map_eq_some_iff.mp (show (kInts kvs).map (n :: ·) = some ns from h)
    rw [List.map_cons, List.map_cons, kInts_keys h1]
theorem c_sortedG (hc : X.calm = true) : CallR X (.builtin "sorted") (tPn X.K sortG) := by
  intro pins s σ H xs us Q I r h
  obtain ⟨ρ, B, hp, ds, d, hp', W, rl, e, k⟩ := h
  obtain ⟨x, rfl, e⟩ := one1_some e
  obtain ⟨ns, hp1, e1, e2⟩ := bind_some e
  obtain ⟨rfl, rfl⟩ := pure_some e2
  obtain ⟨v, rfl, rv⟩ := rl.oneI
  have key : hp = hp1 ∧ ∃ p, v = .ref p ∧ IntsOf X.K H p ns := by
    cases x with
    | lst zs =>
      obtain ⟨h1, rfl⟩ := optA_some e1
      obtain ⟨a, ys, rfl, _, sq, l⟩ := rv.lstI
      exact ⟨rfl, a, rfl, .inl (dInts_rep h1 l ▸ sq)⟩
    | ref n =>
      obtain ⟨o, hp2, e3, e4⟩ := bind_some (show (getW n >>= fun o => (match o with | .lst ds => optA (dInts ds) | .dic kvs => optA (kInts kvs) | _ => failure : M (List Int))) hp = some (ns, hp1) from e1)
      obtain ⟨e5, rfl⟩ := getW_some e3
      cases o with
      | lst zs =>
        obtain ⟨h1, rfl⟩ := optA_some e4
        obtain ⟨a, rfl, _, ys, h2, l1⟩ := RepV.refW W rv e5
        exact ⟨rfl, a, rfl, .inl (dInts_rep h1 l1 ▸ SqL.of h2)⟩
      | dic kvs =>
        obtain ⟨h1, rfl⟩ := optA_some e4
        obtain ⟨a, rfl, _, ro⟩ := RepV.refW W rv e5
        obtain ⟨ys, h2, rk⟩ := ro.dic
        exact ⟨rfl, a, rfl, .inr ⟨ys, h2, rk.to.1.trans (kInts_keys h1)⟩⟩
      | ins _ _ => cases e4
    | tup _ => cases e1
    | non => cases e1
    | bl _ => cases e1
    | int _ => cases e1
    | str _ => cases e1
  obtain ⟨rfl, p, rfl, io⟩ := key
  exact call_sorted hc pins s σ H _ us Q I r ⟨p, ns, rfl, io, fol_lst W (ints_repL _) k⟩
end D

namespace K02
open PySem PySem.Spec PyProof.Rows L2 D
def top (i : Nat) : Stmt := PySem.Challenge.pw_sidelink_k02_put_and_cut.main.body.getD i (.Pass ⟨0, 0, 0, 0⟩)
abbrev s_refilled : Stmt := top 9
def b_refilled : DSx := sRet (eTup (aCons (eBin ixD (eVar 0) (eC (.int 0))) (aCons (eVar 1) (aCons (eVar 2) (aCons (eBin ixD (eVar 0) (eC (.int 3))) (aCons (eBin ixD (eVar 0) (eC (.int 4))) (aNil)))))))
def F_refilled : List DV → M DV := runF 3 b_refilled
abbrev s_count_not_above : Stmt := top 11
def b_count_not_above : DSx := sRet (eBlt lenF (aCons (eComp (iTp (eVar 0)) [1] (eB (eBin leD (eVar 0) (eVar 1))) (eVar 0)) (aNil)))
def F_count_not_above : List DV → M DV := runF 2 b_count_not_above
abbrev s_count_below : Stmt := top 10
def b_count_below : DSx := sRet (eBlt lenF (aCons (eComp (iTp (eVar 0)) [1] (eB (eBin ltD (eVar 0) (eVar 1))) (eVar 0)) (aNil)))
def F_count_below : List DV → M DV := runF 2 b_count_below
abbrev s_with_run : Stmt := top 8
def b_with_run : DSx := sSeq (sSet 4 (eBin ixD (eVar 0) (eC (.int 1)))) (sSeq (sSet 5 (eBin ixD (eVar 0) (eC (.int 2)))) (sSeq (sSet 6 (eCall 2 F_count_below (aCons (eVar 4) (aCons (eVar 1) (aNil))))) (sSeq (sSet 7 (eCall 2 F_count_not_above (aCons (eVar 4) (aCons (eVar 1) (aNil))))) (sRet (eCall 3 F_refilled (aCons (eVar 0) (aCons (eBin addD (eBin addD (eSl (eVar 4) (oNone) (oSome (eVar 6))) (eVar 2)) (eSl (eVar 4) (oSome (eVar 7)) (oNone))) (aCons (eBin addD (eBin addD (eSl (eVar 5) (oNone) (oSome (eVar 6))) (eVar 3)) (eSl (eVar 5) (oSome (eVar 7)) (oNone))) (aNil)))))))))
def F_with_run : List DV → M DV := runF 8 b_with_run
abbrev s_with_pair : Stmt := top 6
def b_with_pair : DSx := sRet (eCall 4 F_with_run (aCons (eVar 0) (aCons (eVar 1) (aCons (eTup (aCons (eVar 1) (aNil))) (aCons (eTup (aCons (eVar 2) (aNil))) (aNil))))))
def F_with_pair : List DV → M DV := runF 3 b_with_pair
abbrev s_without : Stmt := top 7
def b_without : DSx := sRet (eCall 4 F_with_run (aCons (eVar 0) (aCons (eVar 1) (aCons (eTup (aNil)) (aCons (eTup (aNil)) (aNil))))))
def F_without : List DV → M DV := runF 2 b_without
abbrev s_law_cell_at : Stmt := top 13
def b_law_cell_at : DSx := sSeq (sIf (eB (eBin ltD (eVar 1) (eBlt lenF (aCons (eVar 0) (aNil))))) (sRet (eBin ixD (eVar 0) (eVar 1))) (sNil)) (sRet (eC (.int 0)))
def F_law_cell_at : List DV → M DV := runF 2 b_law_cell_at
abbrev s_law_churn : Stmt := top 14
def b_law_churn : DSx := sSeq (sSet 2 (eBin addD (eBin addD (eBin addD (eBin modD (eVar 0) (eC (.int 715827883))) (eBin mulD (eVar 1) (eVar 1))) (eBin mulD (eC (.int 3)) (eVar 1))) (eC (.int 11)))) (sRet (eBin divD (eBin modD (eBin mulD (eBin modD (eBin mulD (eVar 2) (eVar 2)) (eC (.int 715827883))) (eBin addD (eVar 2) (eBin mulD (eC (.int 7)) (eVar 1)))) (eC (.int 715827883))) (eC (.int 9))))
def F_law_churn : List DV → M DV := runF 3 b_law_churn
abbrev s_law_keys : Stmt := top 15
def l_law_keys_1 : DSx := sSeq (sApp 4 (eVar 3)) (sSeq (sSet 3 (eBin addD (eBin addD (eVar 3) (eC (.int 1))) (eBin modD (eCall 2 F_law_churn (aCons (eVar 0) (aCons (eBin addD (eC (.int 3)) (eVar 5)) (aNil)))) (eC (.int 3))))) (sIf (eB (eBin gtD (eVar 2) (eC (.int 1)))) (sSet 3 (eBin addD (eVar 3) (eBin mulD (eCall 2 F_law_churn (aCons (eVar 0) (aCons (eBin addD (eC (.int 20)) (eVar 5)) (aNil)))) (eBin powD (eC (.int 10)) (eC (.int 21)))))) (sNil)))
def b_law_keys : DSx := sSeq (sSet 2 (eBin modD (eCall 2 F_law_churn (aCons (eVar 0) (aCons (eC (.int 1)) (aNil)))) (eC (.int 4)))) (sSeq (sSet 3 (eBin subD (eBin modD (eCall 2 F_law_churn (aCons (eVar 0) (aCons (eC (.int 2)) (aNil)))) (eC (.int 12))) (eC (.int 7)))) (sSeq (sIf (eB (eBin gtD (eVar 2) (eC (.int 1)))) (sSet 3 (eBin subD (eCall 2 F_law_churn (aCons (eVar 0) (aCons (eC (.int 2)) (aNil)))) (eBin powD (eC (.int 10)) (eC (.int 30))))) (sNil)) (sSeq (sAcc 4) (sSeq (sFor (iRg1 (aCons (eVar 1) (aNil))) (gN 5) (l_law_keys_1)) (sSeq (sDis 4 (sIf (eB (eBin eqD (eVar 2) (eC (.int 3)))) (sDis 4 (sSet 4 (eComp (iLst (eRev (eVar 4))) [] (tAll) (eNeg (eVar 0))))) (sNil))) (sDis 4 (sRet (eVar 4))))))))
def F_law_keys : List DV → M DV := runF 6 b_law_keys
abbrev s_law_high : Stmt := top 16
def b_law_high : DSx := sSeq (sSet 2 (eNeg (eC (.int 4)))) (sSeq (sIf (eB (eBin neD (eVar 1) (eLst (aNil)))) (sSet 2 (eBin ixD (eVar 1) (eNeg (eC (.int 1))))) (sNil)) (sSeq (sIf (eOr (eB (eBin eqD (eBin modD (eCall 2 F_law_churn (aCons (eVar 0) (aCons (eC (.int 40)) (aNil)))) (eC (.int 3))) (eC (.int 0)))) (eB (eBin geD (eVar 2) (eBin powD (eC (.int 10)) (eC (.int 30)))))) (sRet (eC .non)) (sNil)) (sRet (eBlt minF (aCons (eBin powD (eC (.int 10)) (eC (.int 30))) (aCons (eBin addD (eBin addD (eVar 2) (eC (.int 1))) (eBin modD (eCall 2 F_law_churn (aCons (eVar 0) (aCons (eC (.int 41)) (aNil)))) (eBin ixD (eLst (aCons (eC (.int 1)) (aCons (eC (.int 5)) (aCons (eBin powD (eC (.int 10)) (eC (.int 9))) (aNil))))) (eBin modD (eCall 2 F_law_churn (aCons (eVar 0) (aCons (eC (.int 42)) (aNil)))) (eC (.int 3)))))) (aNil)))))))
def F_law_high : List DV → M DV := runF 3 b_law_high
abbrev s_law_page : Stmt := top 17
def l_law_page_1 : DSx := sSeq (sSet 8 (eCall 2 F_law_churn (aCons (eVar 0) (aCons (eBin addD (eC (.int 50)) (eVar 5)) (aNil))))) (sSeq (sSet 9 (eBin subD (eBin modD (eBin addD (eBin mulD (eVar 0) (eBin addD (eVar 5) (eC (.int 3)))) (eVar 8)) (eBin addD (eBin mulD (eC (.int 2)) (eBin powD (eC (.int 10)) (eC (.int 30)))) (eC (.int 1)))) (eBin powD (eC (.int 10)) (eC (.int 30))))) (sSeq (sSet 10 (eBin ixD (eLst (aCons (eC (.int 0)) (aCons (eBin subD (eBin modD (eVar 8) (eC (.int 7))) (eC (.int 3))) (aCons (eVar 8) (aCons (eVar 9) (aNil)))))) (eBin modD (eBin divD (eVar 8) (eC (.int 7))) (eC (.int 4))))) (sSeq (sIf (eB (eBin gtD (eVar 1) (eC (.int 0)))) (sSet 10 (eBin ixD (eLst (aCons (eC (.int 0)) (aCons (eBin modD (eVar 8) (eC (.int 3))) (aCons (eBin modD (eVar 8) (eC (.int 1000))) (aCons (eVar 8) (aNil)))))) (eBin modD (eBin divD (eVar 8) (eC (.int 1000))) (eC (.int 4))))) (sNil)) (sApp 4 (eVar 10)))))
def b_law_page : DSx := sSeq (sSet 3 (eCall 2 F_law_keys (aCons (eVar 0) (aCons (eVar 2) (aNil))))) (sSeq (sAcc 4) (sSeq (sFor (iRg1 (aCons (eBin addD (eVar 2) (eBlt intF (aCons (eBin gtD (eVar 1) (eC (.int 0))) (aNil)))) (aNil))) (gN 5) (l_law_page_1)) (sSeq (sSet 6 (eCall 2 F_law_high (aCons (eVar 0) (aCons (eVar 3) (aNil))))) (sSeq (sSet 7 (eC .non)) (sSeq (sIf (eB (eBin isnD (eVar 6) (eC .non))) (sSet 7 (eBin ixD (eLst (aCons (eBin modD (eCall 2 F_law_churn (aCons (eVar 0) (aCons (eC (.int 43)) (aNil)))) (eC (.int 400))) (aCons (eBin addD (eC (.int 2000)) (eCall 2 F_law_churn (aCons (eVar 0) (aCons (eC (.int 43)) (aNil))))) (aNil)))) (eBin modD (eCall 2 F_law_churn (aCons (eVar 0) (aCons (eC (.int 44)) (aNil)))) (eC (.int 2))))) (sNil)) (sDis 4 (sRet (eTup (aCons (eVar 1) (aCons (eBlt tupF (aCons (eVar 3) (aNil))) (aCons (eBlt tupF (aCons (eVar 4) (aNil))) (aCons (eVar 6) (aCons (eVar 7) (aNil))))))))))))))
def F_law_page : List DV → M DV := runF 11 b_law_page
abbrev s_law_same : Stmt := top 18
def l_law_same_1 (self : List DV → M DV) : DSx := sIf (eNot (eB (eCall 2 self (aCons (eVar 2) (aCons (eVar 3) (aNil)))))) (sRet (eC (.bl false))) (sNil)
def b_law_same (self : List DV → M DV) : DSx := sSeq (sIf (eB (eIsi "tuple" (eVar 1))) (sSeq (sIf (eOr (eNot (eB (eIsi "tuple" (eVar 0)))) (eB (eBin neD (eBlt lenF (aCons (eVar 0) (aNil))) (eBlt lenF (aCons (eVar 1) (aNil)))))) (sRet (eC (.bl false))) (sNil)) (sSeq (sFor (iZip (eVar 0) (eVar 1)) (gT [2, 3]) (l_law_same_1 self)) (sRet (eC (.bl true))))) (sNil)) (sSeq (sIf (eB (eBin isD (eVar 1) (eC .non))) (sRet (eBin isD (eVar 0) (eC .non))) (sNil)) (sRet (eAndV (eIsi "int" (eVar 0)) (eAndV (eNotV (eIsi "bool" (eVar 0))) (eBin eqD (eVar 0) (eVar 1))))))
def F_law_same : Nat → List DV → M DV
  | 0 => fun _ => failure
  | n + 1 => runF 4 (b_law_same (F_law_same n))
abbrev s_law_leaf : Stmt := top 19
def b_law_leaf : DSx := sSeq (sSet 2 (eBlt sortG (aCons (eVar 0) (aNil)))) (sRet (eTup (aCons (eC (.int 0)) (aCons (eBlt tupW (aCons (eVar 2) (aNil))) (aCons (eBlt tupW (aCons (eCompX false (xLs (eVar 2)) [0] (tAll) (eBin ixG (eVar 1) (eVar 0))) (aNil))) (aCons (eBin ixG (eVar 1) (eC (.int 3))) (aCons (eBin ixG (eVar 1) (eC (.int 4))) (aNil))))))))
def F_law_leaf : List DV → M DV := runF 3 b_law_leaf
abbrev s_law_key : Stmt := top 20
def b_law_key : DSx := sSeq (sSet 3 (eBlt sortG (aCons (eVar 1) (aNil)))) (sSeq (sSet 4 (eBin subD (eBin modD (eBin addD (eBin mulD (eVar 0) (eC (.int 7))) (eBin powD (eC (.int 10)) (eC (.int 30)))) (eBin addD (eBin mulD (eC (.int 2)) (eBin powD (eC (.int 10)) (eC (.int 30)))) (eC (.int 1)))) (eBin powD (eC (.int 10)) (eC (.int 30))))) (sSeq (sIf (eAnd (eB (eBin neG (eVar 3) (eLst (aNil)))) (eB (eBin gtD (eBin modD (eCall 2 F_law_churn (aCons (eVar 0) (aCons (eC (.int 70)) (aNil)))) (eC (.int 4))) (eC (.int 0))))) (sSet 4 (eBin addD (eBin ixG (eVar 3) (eBin modD (eCall 2 F_law_churn (aCons (eVar 0) (aCons (eC (.int 71)) (aNil)))) (eBlt lenG (aCons (eVar 3) (aNil))))) (eBin ixG (eLst (aCons (eC (.int 0)) (aCons (eC (.int 0)) (aCons (eC (.int 1)) (aCons (eNeg (eC (.int 1))) (aNil)))))) (eBin modD (eCall 2 F_law_churn (aCons (eVar 0) (aCons (eC (.int 72)) (aNil)))) (eC (.int 4)))))) (sIf (eB (eBin eqG (eBin modD (eCall 2 F_law_churn (aCons (eVar 0) (aCons (eC (.int 70)) (aNil)))) (eC (.int 2))) (eC (.int 0)))) (sSet 4 (eBin subD (eBin modD (eCall 2 F_law_churn (aCons (eVar 0) (aCons (eC (.int 73)) (aNil)))) (eC (.int 30))) (eC (.int 12)))) (sNil))) (sSeq (sSet 4 (eBlt maxF (aCons (eNeg (eBin powD (eC (.int 10)) (eC (.int 30)))) (aCons (eBlt minF (aCons (eBin powD (eC (.int 10)) (eC (.int 30))) (aCons (eVar 4) (aNil)))) (aNil))))) (sSeq (sIf (eAnd (eB (eBin isnD (eBin ixG (eVar 2) (eC (.int 3))) (eC .non))) (eB (eBin geD (eVar 4) (eBin ixG (eVar 2) (eC (.int 3)))))) (sSet 4 (eBlt maxF (aCons (eNeg (eBin powD (eC (.int 10)) (eC (.int 30)))) (aCons (eBin subD (eBin subD (eBin ixG (eVar 2) (eC (.int 3))) (eC (.int 1))) (eBin modD (eCall 2 F_law_churn (aCons (eVar 0) (aCons (eC (.int 74)) (aNil)))) (eC (.int 9)))) (aNil))))) (sNil)) (sRet (eVar 4))))))
def F_law_key : List DV → M DV := runF 5 b_law_key
abbrev s_law_worth : Stmt := top 21
def b_law_worth : DSx := sSeq (sIf (eB (eBin eqD (eBin modD (eCall 2 F_law_churn (aCons (eVar 0) (aCons (eC (.int 75)) (aNil)))) (eC (.int 2))) (eC (.int 0)))) (sRet (eBin subD (eBin modD (eCall 2 F_law_churn (aCons (eVar 0) (aCons (eC (.int 76)) (aNil)))) (eC (.int 5))) (eC (.int 2)))) (sNil)) (sRet (eBin subD (eBin modD (eBin addD (eBin mulD (eVar 0) (eC (.int 11))) (eBin powD (eC (.int 10)) (eC (.int 30)))) (eBin addD (eBin mulD (eC (.int 2)) (eBin powD (eC (.int 10)) (eC (.int 30)))) (eC (.int 1)))) (eBin powD (eC (.int 10)) (eC (.int 30)))))
def F_law_worth : List DV → M DV := runF 1 b_law_worth
abbrev s_law : Stmt := top 22
def l_law_1 : DSx := sSeq (sSet 3 (eCall 2 F_without (aCons (eVar 3) (aCons (eVar 7) (aNil))))) (sSeq (sDrop (eMth "dict" mDPop (eVar 2) (aCons (eVar 7) (aNil)))) (sIf (eNot (eB (eCall 2 (F_law_same 6) (aCons (eVar 3) (aCons (eCall 2 F_law_leaf (aCons (eVar 2) (aCons (eVar 1) (aNil)))) (aNil)))))) (sRet (eC (.bl false))) (sNil)))
def l_law_2 : DSx := sSeq (sSet 7 (eCall 3 F_law_key (aCons (eVar 4) (aCons (eVar 2) (aCons (eVar 1) (aNil)))))) (sSeq (sIf (eB (eBin ltD (eBin modD (eCall 2 F_law_churn (aCons (eVar 4) (aCons (eC (.int 77)) (aNil)))) (eC (.int 5))) (eC (.int 3)))) (sSeq (sAsg (eCall 1 F_law_worth (aCons (eVar 4) (aNil))) (gSb (eVar 2) (eVar 7))) (sSet 3 (eCall 3 F_with_pair (aCons (eVar 3) (aCons (eVar 7) (aCons (eBin ixG (eVar 2) (eVar 7)) (aNil))))))) (sSeq (sDrop (eMth "dict" mDPop (eVar 2) (aCons (eVar 7) (aCons (eC (.int 0)) (aNil))))) (sSet 3 (eCall 2 F_without (aCons (eVar 3) (aCons (eVar 7) (aNil))))))) (sIf (eNot (eB (eCall 2 (F_law_same 6) (aCons (eVar 3) (aCons (eCall 2 F_law_leaf (aCons (eVar 2) (aCons (eVar 1) (aNil)))) (aNil)))))) (sRet (eC (.bl false))) (sNil)))
def l_law_3 : DSx := sAsg (eVar 8) (gSb (eVar 2) (eVar 7))
def b_law : DSx := sSeq (sSet 1 (eCall 3 F_law_page (aCons (eCall 2 F_law_cell_at (aCons (eVar 0) (aCons (eC (.int 0)) (aNil)))) (aCons (eC (.int 0)) (aCons (eBin modD (eCall 2 F_law_churn (aCons (eCall 2 F_law_cell_at (aCons (eVar 0) (aCons (eC (.int 0)) (aNil)))) (aCons (eC (.int 62)) (aNil)))) (eC (.int 9))) (aNil)))))) (sSeq (sSet 2 (eNewD0)) (sSeq (sFor (iZip (eBin ixG (eVar 1) (eC (.int 1))) (eBin ixG (eVar 1) (eC (.int 2)))) (gT [7, 8]) (l_law_3)) (sSeq (sSet 3 (eVar 1)) (sSeq (sForX (xLs (eSl (eVar 0) (oSome (eC (.int 1))) (oSome (eC (.int 61))))) (gN 4) (l_law_2)) (sSeq (sSet 5 (eBlt sortG (aCons (eVar 2) (aNil)))) (sSeq (sSet 6 (eBin modD (eCall 2 F_law_churn (aCons (eCall 2 F_law_cell_at (aCons (eVar 0) (aCons (eC (.int 0)) (aNil)))) (aCons (eC (.int 78)) (aNil)))) (eBin addD (eBlt lenG (aCons (eVar 5) (aNil))) (eC (.int 1))))) (sSeq (sForX (xLs (eBin addD (eSl (eVar 5) (oSome (eVar 6)) (oNone)) (eSl (eVar 5) (oNone) (oSome (eVar 6))))) (gN 7) (l_law_1)) (sRet (eAndV (eBin eqG (eBin ixG (eVar 3) (eC (.int 1))) (eTup (aNil))) (eBin eqG (eBin ixG (eVar 3) (eC (.int 2))) (eTup (aNil))))))))))))
def F_law : List DV → M DV := runF 9 b_law
section
variable {P : Program} {w : World} {K : PySem.W.Frag} {mg : Str → Option Value} {base : Heap} {g : Addr} {fd : FuncData}
theorem sc_refilled : FnScope ["page", "keys", "parts"] ["page", "keys", "parts"] (defScope s_refilled) := ⟨rfl, rfl, rfl, by decide +kernel, rfl, by decide +kernel, by decide +kernel⟩
theorem has_refilled (F : Fun K "refilled" "refilled" s_refilled g fd) (hm : mg "refilled" = some (.ref g)) {t_SIDE : Tok} (g_SIDE : mg "SIDE" = some (.int 4 t_SIDE)) {t_HIGH : Tok} (g_HIGH : mg "HIGH" = some (.int 3 t_HIGH)) {t_LEVEL : Tok} (g_LEVEL : mg "LEVEL" = some (.int 0 t_LEVEL)) : Has P w K mg base "refilled" 1 3 F_refilled :=
  fn_has F sc_refilled hm (fun _ _ _ _ _ _ us hl => match us, hl with | [_, _, _], _ => rfl) fun cdv A outer s H E hr => by
    have Sc := sc_refilled
    exact (dss_one (ds_ret (de_tup (da_cons (de_ix (de_var 0) (de_gint rfl g_LEVEL)) (da_cons (de_var 1) (da_cons (de_var 2) (da_cons (de_ix (de_var 0) (de_gint rfl g_HIGH)) (da_cons (de_ix (de_var 0) (de_gint rfl g_SIDE)) da_nil))))))))
theorem sc_count_not_above : FnScope ["keys", "key"] ["keys", "key"] (defScope s_count_not_above) := ⟨rfl, rfl, rfl, by decide +kernel, rfl, by decide +kernel, by decide +kernel⟩
theorem has_count_not_above (F : Fun K "count_not_above" "count_not_above" s_count_not_above g fd) (hm : mg "count_not_above" = some (.ref g)) (z_len : mg "len" = none) : Has P w K mg base "count_not_above" 1 2 F_count_not_above :=
  fn_has F sc_count_not_above hm (fun _ _ _ _ _ _ us hl => match us, hl with | [_, _], _ => rfl) fun cdv A outer s H E hr => by
    have Sc := sc_count_not_above
    exact (dss_one (ds_ret (de_blt c_len z_len PySem.boot_len (da_cons (de_comp (caps := ["key"]) (idx := [1]) ⟨by with_unfolding_all rfl, by decide +kernel, rfl, by decide +kernel, rfl, (by exact ⟨rfl, trivial⟩), by with_unfolding_all rfl, (by exact ⟨rfl, .inl rfl, ⟨_, rfl⟩, (fun h => NameKind.noConfusion (Option.some.inj (show some NameKind.cell = some NameKind.local from h))), trivial⟩), by decide⟩ rfl (di_tup (de_var 0)) (fun _ _ _ _ => (dts_one (dt_cmp p_le (de_var 0) (de_var 1) (nomark _)))) (fun _ _ _ _ => (de_var 0))) da_nil))))
theorem sc_count_below : FnScope ["keys", "key"] ["keys", "key"] (defScope s_count_below) := ⟨rfl, rfl, rfl, by decide +kernel, rfl, by decide +kernel, by decide +kernel⟩
theorem has_count_below (F : Fun K "count_below" "count_below" s_count_below g fd) (hm : mg "count_below" = some (.ref g)) (z_len : mg "len" = none) : Has P w K mg base "count_below" 1 2 F_count_below :=
  fn_has F sc_count_below hm (fun _ _ _ _ _ _ us hl => match us, hl with | [_, _], _ => rfl) fun cdv A outer s H E hr => by
    have Sc := sc_count_below
    exact (dss_one (ds_ret (de_blt c_len z_len PySem.boot_len (da_cons (de_comp (caps := ["key"]) (idx := [1]) ⟨by with_unfolding_all rfl, by decide +kernel, rfl, by decide +kernel, rfl, (by exact ⟨rfl, trivial⟩), by with_unfolding_all rfl, (by exact ⟨rfl, .inl rfl, ⟨_, rfl⟩, (fun h => NameKind.noConfusion (Option.some.inj (show some NameKind.cell = some NameKind.local from h))), trivial⟩), by decide⟩ rfl (di_tup (de_var 0)) (fun _ _ _ _ => (dts_one (dt_cmp p_lt (de_var 0) (de_var 1) (nomark _)))) (fun _ _ _ _ => (de_var 0))) da_nil))))
theorem sc_with_run : FnScope ["page", "key", "new_keys", "new_worths", "keys", "worths", "start", "stop"] ["page", "key", "new_keys", "new_worths"] (defScope s_with_run) := ⟨rfl, rfl, rfl, by decide +kernel, rfl, by decide +kernel, by decide +kernel⟩
theorem has_with_run (F : Fun K "with_run" "with_run" s_with_run g fd) (hm : mg "with_run" = some (.ref g)) (h_refilled : Has P w K mg base "refilled" 1 3 F_refilled) (h_count_not_above : Has P w K mg base "count_not_above" 1 2 F_count_not_above) (h_count_below : Has P w K mg base "count_below" 1 2 F_count_below) {t_PARTS : Tok} (g_PARTS : mg "PARTS" = some (.int 2 t_PARTS)) {t_KEYS : Tok} (g_KEYS : mg "KEYS" = some (.int 1 t_KEYS)) : Has P w K mg base "with_run" 2 4 F_with_run :=
  fn_has F sc_with_run hm (fun _ _ _ _ _ _ us hl => match us, hl with | [_, _, _, _], _ => rfl) fun cdv A outer s H E hr => by
    have Sc := sc_with_run
    exact (dss_cons (ds_set 4 Sc.nd (de_ix (de_var 0) (de_gint rfl g_KEYS))) (dss_cons (ds_set 5 Sc.nd (de_ix (de_var 0) (de_gint rfl g_PARTS))) (dss_cons (ds_set 6 Sc.nd (de_call h_count_below hr (by decide) pass0 (da_cons (de_var 4) (da_cons (de_var 1) da_nil)))) (dss_cons (ds_set 7 Sc.nd (de_call h_count_not_above hr (by decide) pass0 (da_cons (de_var 4) (da_cons (de_var 1) da_nil)))) (dss_one (ds_ret (de_call h_refilled hr (by decide) pass0 (da_cons (de_var 0) (da_cons (de_bin p_add (de_bin p_add (de_sl (de_var 4) do_none (do_some (de_var 6))) (de_var 2)) (de_sl (de_var 4) (do_some (de_var 7)) do_none)) (da_cons (de_bin p_add (de_bin p_add (de_sl (de_var 5) do_none (do_some (de_var 6))) (de_var 3)) (de_sl (de_var 5) (do_some (de_var 7)) do_none)) da_nil))))))))))
theorem sc_with_pair : FnScope ["page", "key", "worth"] ["page", "key", "worth"] (defScope s_with_pair) := ⟨rfl, rfl, rfl, by decide +kernel, rfl, by decide +kernel, by decide +kernel⟩
theorem has_with_pair (F : Fun K "with_pair" "with_pair" s_with_pair g fd) (hm : mg "with_pair" = some (.ref g)) (h_with_run : Has P w K mg base "with_run" 2 4 F_with_run) : Has P w K mg base "with_pair" 3 3 F_with_pair :=
  fn_has F sc_with_pair hm (fun _ _ _ _ _ _ us hl => match us, hl with | [_, _, _], _ => rfl) fun cdv A outer s H E hr => by
    have Sc := sc_with_pair
    exact (dss_one (ds_ret (de_call h_with_run hr (by decide) pass0 (da_cons (de_var 0) (da_cons (de_var 1) (da_cons (de_tup (da_cons (de_var 1) da_nil)) (da_cons (de_tup (da_cons (de_var 2) da_nil)) da_nil)))))))
theorem sc_without : FnScope ["page", "key"] ["page", "key"] (defScope s_without) := ⟨rfl, rfl, rfl, by decide +kernel, rfl, by decide +kernel, by decide +kernel⟩
theorem has_without (F : Fun K "without" "without" s_without g fd) (hm : mg "without" = some (.ref g)) (h_with_run : Has P w K mg base "with_run" 2 4 F_with_run) : Has P w K mg base "without" 3 2 F_without :=
  fn_has F sc_without hm (fun _ _ _ _ _ _ us hl => match us, hl with | [_, _], _ => rfl) fun cdv A outer s H E hr => by
    have Sc := sc_without
    exact (dss_one (ds_ret (de_call h_with_run hr (by decide) pass0 (da_cons (de_var 0) (da_cons (de_var 1) (da_cons (de_tup da_nil) (da_cons (de_tup da_nil) da_nil)))))))
theorem sc_law_cell_at : FnScope ["script", "k"] ["script", "k"] (defScope s_law_cell_at) := ⟨rfl, rfl, rfl, by decide +kernel, rfl, by decide +kernel, by decide +kernel⟩
theorem has_law_cell_at (F : Fun K "_law_cell_at" "_law_cell_at" s_law_cell_at g fd) (hm : mg "_law_cell_at" = some (.ref g)) (z_len : mg "len" = none) : Has P w K mg base "_law_cell_at" 1 2 F_law_cell_at :=
  fn_has F sc_law_cell_at hm (fun _ _ _ _ _ _ us hl => match us, hl with | [_, _], _ => rfl) fun cdv A outer s H E hr => by
    have Sc := sc_law_cell_at
    exact (dss_cons (ds_if (dt_cmp p_lt (de_var 1) (de_blt c_len z_len PySem.boot_len (da_cons (de_var 0) da_nil)) (nomark _)) (dss_one (ds_ret (de_ix (de_var 0) (de_var 1)))) dss_nil) (dss_one (ds_ret de_int)))
theorem sc_law_churn : FnScope ["cell", "turn", "number"] ["cell", "turn"] (defScope s_law_churn) := ⟨rfl, rfl, rfl, by decide +kernel, rfl, by decide +kernel, by decide +kernel⟩
theorem has_law_churn (F : Fun K "_law_churn" "_law_churn" s_law_churn g fd) (hm : mg "_law_churn" = some (.ref g)) : Has P w K mg base "_law_churn" 1 2 F_law_churn :=
  fn_has F sc_law_churn hm (fun _ _ _ _ _ _ us hl => match us, hl with | [_, _], _ => rfl) fun cdv A outer s H E hr => by
    have Sc := sc_law_churn
    exact (dss_cons (ds_set 2 Sc.nd (de_bin p_add (de_bin p_add (de_bin p_add (de_bin p_mod (de_var 0) de_int) (de_bin p_mul (de_var 1) (de_var 1))) (de_bin p_mul de_int (de_var 1))) de_int)) (dss_one (ds_ret (de_bin p_div (de_bin p_mod (de_bin p_mul (de_bin p_mod (de_bin p_mul (de_var 2) (de_var 2)) de_int) (de_bin p_add (de_var 2) (de_bin p_mul de_int (de_var 1)))) de_int) de_int))))
theorem sc_law_keys : FnScope ["cell", "many", "style", "key", "keys", "k"] ["cell", "many"] (defScope s_law_keys) := ⟨rfl, rfl, rfl, by decide +kernel, rfl, by decide +kernel, by decide +kernel⟩
theorem has_law_keys (F : Fun K "_law_keys" "_law_keys" s_law_keys g fd) (hm : mg "_law_keys" = some (.ref g)) (h_law_churn : Has P w K mg base "_law_churn" 1 2 F_law_churn) (z_range : mg "range" = none) : Has P w K mg base "_law_keys" 2 2 F_law_keys :=
  fn_has F sc_law_keys hm (fun _ _ _ _ _ _ us hl => match us, hl with | [_, _], _ => rfl) fun cdv A outer s H E hr => by
    have Sc := sc_law_keys
    exact (dss_cons (ds_set 2 Sc.nd (de_bin p_mod (de_call h_law_churn hr (by decide) pass0 (da_cons (de_var 0) (da_cons de_int da_nil))) de_int)) (dss_cons (ds_set 3 Sc.nd (de_bin p_sub (de_bin p_mod (de_call h_law_churn hr (by decide) pass0 (da_cons (de_var 0) (da_cons de_int da_nil))) de_int) de_int)) (dss_cons (ds_if (dt_cmp p_gt (de_var 2) de_int (nomark _)) (dss_one (ds_set 3 Sc.nd (de_bin p_sub (de_call h_law_churn hr (by decide) pass0 (da_cons (de_var 0) (da_cons de_int da_nil))) (de_bin p_pow de_int de_int)))) dss_nil) (dss_cons (ds_acc 4 Sc.nd) (dss_cons (ds_for PassesOwn.never rfl (di_range1 rfl z_range (da_cons (de_var 1) da_nil)) (dg_name 5 Sc.nd) (dss_cons (ds_app 4 (de_var 3)) (dss_cons (ds_set 3 Sc.nd (de_bin p_add (de_bin p_add (de_var 3) de_int) (de_bin p_mod (de_call h_law_churn hr (by decide) pass0 (da_cons (de_var 0) (da_cons (de_bin p_add de_int (de_var 5)) da_nil))) de_int))) (dss_one (ds_if (dt_cmp p_gt (de_var 2) de_int (nomark _)) (dss_one (ds_set 3 Sc.nd (de_bin p_add (de_var 3) (de_bin p_mul (de_call h_law_churn hr (by decide) pass0 (da_cons (de_var 0) (da_cons (de_bin p_add de_int (de_var 5)) da_nil))) (de_bin p_pow de_int de_int))))) dss_nil))))) (dss_cons (ds_dis 4 (ds_if (dt_cmp (p_eq hr.units) (de_var 2) de_int (nomark _)) (dss_one (ds_dis 4 (ds_comp 4 Sc.nd (caps := []) (idx := []) ⟨by with_unfolding_all rfl, by decide +kernel, rfl, by decide +kernel, rfl, (by exact trivial), by with_unfolding_all rfl, (by exact trivial), by decide⟩ rfl (di_list (de_rev (de_var 4))) (fun _ _ _ _ => dts_nil) (fun _ _ _ _ => (de_neg (de_var 0)))))) dss_nil)) (dss_one (ds_dis 4 (ds_ret (de_var 4))))))))))
theorem sc_law_high : FnScope ["cell", "keys", "last"] ["cell", "keys"] (defScope s_law_high) := ⟨rfl, rfl, rfl, by decide +kernel, rfl, by decide +kernel, by decide +kernel⟩
theorem has_law_high (F : Fun K "_law_high" "_law_high" s_law_high g fd) (hm : mg "_law_high" = some (.ref g)) (h_law_churn : Has P w K mg base "_law_churn" 1 2 F_law_churn) (z_min : mg "min" = none) : Has P w K mg base "_law_high" 2 2 F_law_high :=
  fn_has F sc_law_high hm (fun _ _ _ _ _ _ us hl => match us, hl with | [_, _], _ => rfl) fun cdv A outer s H E hr => by
    have Sc := sc_law_high
    exact (dss_cons (ds_set 2 Sc.nd (de_neg de_int)) (dss_cons (ds_if (dt_cmp (p_ne hr.units) (de_var 1) (de_lst da_nil) (nomark _)) (dss_one (ds_set 2 Sc.nd (de_ix (de_var 1) (de_neg de_int)))) dss_nil) (dss_cons (ds_if (DW.pt (dw_or (dt_cmp (p_eq hr.units) (de_bin p_mod (de_call h_law_churn hr (by decide) pass0 (da_cons (de_var 0) (da_cons de_int da_nil))) de_int) de_int (nomark _)) (dw_or1 (dt_cmp p_ge (de_var 2) (de_bin p_pow de_int de_int) (nomark _))))) (dss_one (ds_ret de_non)) dss_nil) (dss_one (ds_ret (de_blt (c_min rfl) z_min boot_min (da_cons (de_bin p_pow de_int de_int) (da_cons (de_bin p_add (de_bin p_add (de_var 2) de_int) (de_bin p_mod (de_call h_law_churn hr (by decide) pass0 (da_cons (de_var 0) (da_cons de_int da_nil))) (de_ix (de_lst (da_cons de_int (da_cons de_int (da_cons (de_bin p_pow de_int de_int) da_nil)))) (de_bin p_mod (de_call h_law_churn hr (by decide) pass0 (da_cons (de_var 0) (da_cons de_int da_nil))) de_int)))) da_nil))))))))
theorem sc_law_page : FnScope ["cell", "level", "many", "keys", "parts", "k", "high", "side", "part", "far", "worth"] ["cell", "level", "many"] (defScope s_law_page) := ⟨rfl, rfl, rfl, by decide +kernel, rfl, by decide +kernel, by decide +kernel⟩
theorem has_law_page (F : Fun K "_law_page" "_law_page" s_law_page g fd) (hm : mg "_law_page" = some (.ref g)) (h_law_churn : Has P w K mg base "_law_churn" 1 2 F_law_churn) (h_law_high : Has P w K mg base "_law_high" 2 2 F_law_high) (h_law_keys : Has P w K mg base "_law_keys" 2 2 F_law_keys) (z_tuple : mg "tuple" = none) (z_int : mg "int" = none) (z_range : mg "range" = none) : Has P w K mg base "_law_page" 3 3 F_law_page :=
  fn_has F sc_law_page hm (fun _ _ _ _ _ _ us hl => match us, hl with | [_, _, _], _ => rfl) fun cdv A outer s H E hr => by
    have Sc := sc_law_page
    exact (dss_cons (ds_set 3 Sc.nd (de_call h_law_keys hr (by decide) pass0 (da_cons (de_var 0) (da_cons (de_var 2) da_nil)))) (dss_cons (ds_acc 4 Sc.nd) (dss_cons (ds_for PassesOwn.never rfl (di_range1 rfl z_range (da_cons (de_bin p_add (de_var 2) (de_ty c_int z_int boot_int (da_cons (de_cmp p_gt (de_var 1) de_int (nomark _)) da_nil))) da_nil)) (dg_name 5 Sc.nd) (dss_cons (ds_set 8 Sc.nd (de_call h_law_churn hr (by decide) pass0 (da_cons (de_var 0) (da_cons (de_bin p_add de_int (de_var 5)) da_nil)))) (dss_cons (ds_set 9 Sc.nd (de_bin p_sub (de_bin p_mod (de_bin p_add (de_bin p_mul (de_var 0) (de_bin p_add (de_var 5) de_int)) (de_var 8)) (de_bin p_add (de_bin p_mul de_int (de_bin p_pow de_int de_int)) de_int)) (de_bin p_pow de_int de_int))) (dss_cons (ds_set 10 Sc.nd (de_ix (de_lst (da_cons de_int (da_cons (de_bin p_sub (de_bin p_mod (de_var 8) de_int) de_int) (da_cons (de_var 8) (da_cons (de_var 9) da_nil))))) (de_bin p_mod (de_bin p_div (de_var 8) de_int) de_int))) (dss_cons (ds_if (dt_cmp p_gt (de_var 1) de_int (nomark _)) (dss_one (ds_set 10 Sc.nd (de_ix (de_lst (da_cons de_int (da_cons (de_bin p_mod (de_var 8) de_int) (da_cons (de_bin p_mod (de_var 8) de_int) (da_cons (de_var 8) da_nil))))) (de_bin p_mod (de_bin p_div (de_var 8) de_int) de_int)))) dss_nil) (dss_one (ds_app 4 (de_var 10)))))))) (dss_cons (ds_set 6 Sc.nd (de_call h_law_high hr (by decide) pass0 (da_cons (de_var 0) (da_cons (de_var 3) da_nil)))) (dss_cons (ds_set 7 Sc.nd de_non) (dss_cons (ds_if (dt_cmp p_isn (de_var 6) de_non (nomark _)) (dss_one (ds_set 7 Sc.nd (de_ix (de_lst (da_cons (de_bin p_mod (de_call h_law_churn hr (by decide) pass0 (da_cons (de_var 0) (da_cons de_int da_nil))) de_int) (da_cons (de_bin p_add de_int (de_call h_law_churn hr (by decide) pass0 (da_cons (de_var 0) (da_cons de_int da_nil)))) da_nil))) (de_bin p_mod (de_call h_law_churn hr (by decide) pass0 (da_cons (de_var 0) (da_cons de_int da_nil))) de_int)))) dss_nil) (dss_one (ds_dis 4 (ds_ret (de_tup (da_cons (de_var 1) (da_cons (de_ty c_tuple z_tuple boot_tuple (da_cons (de_var 3) da_nil)) (da_cons (de_ty c_tuple z_tuple boot_tuple (da_cons (de_var 4) da_nil)) (da_cons (de_var 6) (da_cons (de_var 7) da_nil)))))))))))))))
theorem sc_law_same : FnScope ["found", "due", "one", "other"] ["found", "due"] (defScope s_law_same) := ⟨rfl, rfl, rfl, by decide +kernel, rfl, by decide +kernel, by decide +kernel⟩
theorem has_law_same (F : Fun K "_law_same" "_law_same" s_law_same g fd) (hm : mg "_law_same" = some (.ref g)) (z_isinstance : mg "isinstance" = none) (z_int : mg "int" = none) (z_bool : mg "bool" = none) (z_tuple : mg "tuple" = none) (z_zip : mg "zip" = none) (z_len : mg "len" = none) : ∀ j : Nat, Has P w K mg base "_law_same" (0 + j) 2 (F_law_same j)
  | 0 => has_none F hm (ps := ["found", "due"]) (fun _ _ _ _ _ _ us hl => match us, hl with | [_, _], _ => rfl)
  | j + 1 => by
    have h_law_same := has_law_same F hm z_isinstance z_int z_bool z_tuple z_zip z_len j
    exact fn_has F sc_law_same hm (fun _ _ _ _ _ _ us hl => match us, hl with | [_, _], _ => rfl) fun cdv A outer s H E hr => by
      have Sc := sc_law_same
      exact (dss_cons (ds_if (dt_of (de_isi z_isinstance z_tuple boot_tuple (by decide) (de_var 1))) (dss_cons (ds_if (DW.pt (dw_or (dt_not (dt_of (de_isi z_isinstance z_tuple boot_tuple (by decide) (de_var 0)))) (dw_or1 (dt_cmp (p_ne hr.units) (de_blt c_len z_len PySem.boot_len (da_cons (de_var 0) da_nil)) (de_blt c_len z_len PySem.boot_len (da_cons (de_var 1) da_nil)) (nomark _))))) (dss_one (ds_ret de_bl)) dss_nil) (dss_cons (ds_for PassesOwn.never rfl (di_zip rfl z_zip (de_var 0) (de_var 1)) (dg_tup [2, 3] Sc.nd (by repeat' (first | exact trivial | refine ⟨rfl, (by first | exact .inl rfl | exact .inr rfl), .inl rfl, ?_⟩)) rfl (fun _ _ _ => rfl)) (dss_one (ds_if (dt_not (dt_of (de_call h_law_same hr (Nat.le_refl _) pass0 (da_cons (de_var 2) (da_cons (de_var 3) da_nil))))) (dss_one (ds_ret de_bl)) dss_nil))) (dss_one (ds_ret de_bl)))) dss_nil) (dss_cons (ds_if (dt_cmp p_is (de_var 1) de_non (nomark _)) (dss_one (ds_ret (de_cmp p_is (de_var 0) de_non (nomark _)))) dss_nil) (dss_one (ds_ret (de_and (de_isi z_isinstance z_int boot_int (by decide) (de_var 0)) (de_and (de_not (de_isi z_isinstance z_bool boot_bool (by decide) (de_var 0))) (de_one (de_cmp (p_eq hr.units) (de_var 0) (de_var 1) (nomark _)))))))))
theorem sc_law_leaf : FnScope ["worths", "first", "keys"] ["worths", "first"] (defScope s_law_leaf) := ⟨rfl, rfl, rfl, by decide +kernel, rfl, by decide +kernel, by decide +kernel⟩
theorem has_law_leaf (F : Fun K "_law_leaf" "_law_leaf" s_law_leaf g fd) (hm : mg "_law_leaf" = some (.ref g)) (z_tuple : mg "tuple" = none) (z_sorted : mg "sorted" = none) : Has P w K mg base "_law_leaf" 1 2 F_law_leaf :=
  fn_has F sc_law_leaf hm (fun _ _ _ _ _ _ us hl => match us, hl with | [_, _], _ => rfl) fun cdv A outer s H E hr => by
    have Sc := sc_law_leaf
    exact (dss_cons (ds_set 2 Sc.nd (de_blt (c_sortedG rfl) z_sorted boot_sorted (da_cons (de_var 0) da_nil))) (dss_one (ds_ret (de_tup (da_cons de_int (da_cons (de_ty c_tupleW z_tuple boot_tuple (da_cons (de_var 2) da_nil)) (da_cons (de_ty c_tupleW z_tuple boot_tuple (da_cons (de_compX (caps := ["worths"]) (idx := [0]) ⟨by with_unfolding_all rfl, by decide +kernel, rfl, by decide +kernel, rfl, (by exact ⟨rfl, trivial⟩), by with_unfolding_all rfl, (by exact ⟨rfl, .inl rfl, ⟨_, rfl⟩, (fun h => NameKind.noConfusion (Option.some.inj (show some NameKind.cell = some NameKind.local from h))), trivial⟩), by decide⟩ rfl (dx_list (de_var 2)) (fun _ _ _ _ => dts_nil) (fun _ _ _ _ => (de_ixG (hu_of hr) (de_var 1) (de_var 0)))) da_nil)) (da_cons (de_ixG (hu_of hr) (de_var 1) de_int) (da_cons (de_ixG (hu_of hr) (de_var 1) de_int) da_nil)))))))))
theorem sc_law_key : FnScope ["cell", "worths", "first", "keys", "key"] ["cell", "worths", "first"] (defScope s_law_key) := ⟨rfl, rfl, rfl, by decide +kernel, rfl, by decide +kernel, by decide +kernel⟩
theorem has_law_key (F : Fun K "_law_key" "_law_key" s_law_key g fd) (hm : mg "_law_key" = some (.ref g)) (h_law_churn : Has P w K mg base "_law_churn" 1 2 F_law_churn) (z_max : mg "max" = none) (z_min : mg "min" = none) (z_len : mg "len" = none) (z_sorted : mg "sorted" = none) : Has P w K mg base "_law_key" 2 3 F_law_key :=
  fn_has F sc_law_key hm (fun _ _ _ _ _ _ us hl => match us, hl with | [_, _, _], _ => rfl) fun cdv A outer s H E hr => by
    have Sc := sc_law_key
    exact (dss_cons (ds_set 3 Sc.nd (de_blt (c_sortedG rfl) z_sorted boot_sorted (da_cons (de_var 1) da_nil))) (dss_cons (ds_set 4 Sc.nd (de_bin p_sub (de_bin p_mod (de_bin p_add (de_bin p_mul (de_var 0) de_int) (de_bin p_pow de_int de_int)) (de_bin p_add (de_bin p_mul de_int (de_bin p_pow de_int de_int)) de_int)) (de_bin p_pow de_int de_int))) (dss_cons (ds_if (DW.pt (dw_and (dt_cmp (p_neG hr.units) (de_var 3) (de_lst da_nil) (nomark _)) (dw_and1 (dt_cmp p_gt (de_bin p_mod (de_call h_law_churn hr (by decide) pass0 (da_cons (de_var 0) (da_cons de_int da_nil))) de_int) de_int (nomark _))))) (dss_one (ds_set 4 Sc.nd (de_bin p_add (de_ixG (hu_of hr) (de_var 3) (de_bin p_mod (de_call h_law_churn hr (by decide) pass0 (da_cons (de_var 0) (da_cons de_int da_nil))) (de_blt c_lenG z_len PySem.boot_len (da_cons (de_var 3) da_nil)))) (de_ixG (hu_of hr) (de_lst (da_cons de_int (da_cons de_int (da_cons de_int (da_cons (de_neg de_int) da_nil))))) (de_bin p_mod (de_call h_law_churn hr (by decide) pass0 (da_cons (de_var 0) (da_cons de_int da_nil))) de_int))))) (dss_one (ds_if (dt_cmp (p_eqG hr.units) (de_bin p_mod (de_call h_law_churn hr (by decide) pass0 (da_cons (de_var 0) (da_cons de_int da_nil))) de_int) de_int (nomark _)) (dss_one (ds_set 4 Sc.nd (de_bin p_sub (de_bin p_mod (de_call h_law_churn hr (by decide) pass0 (da_cons (de_var 0) (da_cons de_int da_nil))) de_int) de_int))) dss_nil))) (dss_cons (ds_set 4 Sc.nd (de_blt (c_max rfl) z_max boot_max (da_cons (de_neg (de_bin p_pow de_int de_int)) (da_cons (de_blt (c_min rfl) z_min boot_min (da_cons (de_bin p_pow de_int de_int) (da_cons (de_var 4) da_nil))) da_nil)))) (dss_cons (ds_if (DW.pt (dw_and (dt_cmp p_isn (de_ixG (hu_of hr) (de_var 2) de_int) de_non (nomark _)) (dw_and1 (dt_cmp p_ge (de_var 4) (de_ixG (hu_of hr) (de_var 2) de_int) (nomark _))))) (dss_one (ds_set 4 Sc.nd (de_blt (c_max rfl) z_max boot_max (da_cons (de_neg (de_bin p_pow de_int de_int)) (da_cons (de_bin p_sub (de_bin p_sub (de_ixG (hu_of hr) (de_var 2) de_int) de_int) (de_bin p_mod (de_call h_law_churn hr (by decide) pass0 (da_cons (de_var 0) (da_cons de_int da_nil))) de_int)) da_nil))))) dss_nil) (dss_one (ds_ret (de_var 4))))))))
theorem sc_law_worth : FnScope ["cell"] ["cell"] (defScope s_law_worth) := ⟨rfl, rfl, rfl, by decide +kernel, rfl, by decide +kernel, by decide +kernel⟩
theorem has_law_worth (F : Fun K "_law_worth" "_law_worth" s_law_worth g fd) (hm : mg "_law_worth" = some (.ref g)) (h_law_churn : Has P w K mg base "_law_churn" 1 2 F_law_churn) : Has P w K mg base "_law_worth" 2 1 F_law_worth :=
  fn_has F sc_law_worth hm (fun _ _ _ _ _ _ us hl => match us, hl with | [_], _ => rfl) fun cdv A outer s H E hr => by
    have Sc := sc_law_worth
    exact (dss_cons (ds_if (dt_cmp (p_eq hr.units) (de_bin p_mod (de_call h_law_churn hr (by decide) pass0 (da_cons (de_var 0) (da_cons de_int da_nil))) de_int) de_int (nomark _)) (dss_one (ds_ret (de_bin p_sub (de_bin p_mod (de_call h_law_churn hr (by decide) pass0 (da_cons (de_var 0) (da_cons de_int da_nil))) de_int) de_int))) dss_nil) (dss_one (ds_ret (de_bin p_sub (de_bin p_mod (de_bin p_add (de_bin p_mul (de_var 0) de_int) (de_bin p_pow de_int de_int)) (de_bin p_add (de_bin p_mul de_int (de_bin p_pow de_int de_int)) de_int)) (de_bin p_pow de_int de_int)))))
theorem sc_law : FnScope ["script", "first", "worths", "page", "cell", "keys", "at", "key", "worth"] ["script"] (defScope s_law) := ⟨rfl, rfl, rfl, by decide +kernel, rfl, by decide +kernel, by decide +kernel⟩
end
def churn (c t : Int) : Int := (c % 715827883 + t * t + 3 * t + 11) * (c % 715827883 + t * t + 3 * t + 11) % 715827883 * ((c % 715827883 + t * t + 3 * t + 11) + 7 * t) % 715827883 / 9
theorem churn_ev (c t : Int) (h0 : 0 ≤ t) (h1 : t ≤ 100) : F_law_churn [.int c, .int t] = pure (.int (churn c t)) := by
  have hc0 : 0 ≤ c % 715827883 := Int.emod_nonneg _ (by decide)
  have hc1 : c % 715827883 < 715827883 := Int.emod_lt_of_pos _ (by decide)
  have ht : t * t ≤ 10000 := by
    have := Int.mul_le_mul h1 h1 h0 (by omega)
    omega
  have ht0 : 0 ≤ t * t := Int.mul_nonneg h0 h0
  have m1 : cMul t t = true := decide_eq_true (.inl ⟨by omega, by omega⟩)
  have m2 : cMul 3 t = true := decide_eq_true (.inl ⟨by omega, by omega⟩)
  have m3 : cMul 7 t = true := decide_eq_true (.inl ⟨by omega, by omega⟩)
  have m4 : cMul (c % 715827883 + t * t + 3 * t + 11) (c % 715827883 + t * t + 3 * t + 11) = true := decide_eq_true (.inl ⟨by omega, by omega⟩)
  have m5 : ∀ x, cMul x (c % 715827883 + t * t + 3 * t + 11 + 7 * t) = true := fun x => decide_eq_true (.inr ⟨by omega, by omega⟩)
  have d1 : ∀ x, cMod x 715827883 = true := fun _ => rfl
  have d2 : ∀ x, cDiv x 9 = true := fun _ => rfl
  simp [F_law_churn, b_law_churn, runF, sSeq, sSet, sRet, eBin, eVar, eC, addD, modD, mulD, divD, int2, m1, m2, m3, m4, m5, d1, d2, churn]
theorem churn_ge (c t : Int) : 0 ≤ churn c t := by
  unfold churn
  have : 0 ≤ (c % 715827883 + t * t + 3 * t + 11) * (c % 715827883 + t * t + 3 * t + 11) % 715827883 * ((c % 715827883 + t * t + 3 * t + 11) + 7 * t) % 715827883 := Int.emod_nonneg _ (by decide)
  omega
theorem churn_lt (c t : Int) : churn c t < 715827883 := by
  unfold churn
  have : (c % 715827883 + t * t + 3 * t + 11) * (c % 715827883 + t * t + 3 * t + 11) % 715827883 * ((c % 715827883 + t * t + 3 * t + 11) + 7 * t) % 715827883 < 715827883 := Int.emod_lt_of_pos _ (by decide)
  omega
theorem keys_loop (c m st key0 : Int) (h0 : 0 ≤ m) (h1 : m ≤ 12) : ∃ (ks : List Int) (key : Int) (z : Sl),
    sFor (iRg1 (aCons (eVar 1) aNil)) (gN 5) l_law_keys_1 [.val (.int c), .val (.int m), .val (.int st), .val (.int key0), .acc [], .un] = pure (.nx, [.val (.int c), .val (.int m), .val (.int st), .val (.int key), .acc (ks.map .int), z]) ∧ (ks.length : Int) = m ∧ ks.Pairwise (· < ·) := by
  have L := forL_range0 (b := fun d env => (gN 5 d env >>= fun env' => l_law_keys_1 env'))
    (fun i env => ∃ (ks : List Int) (key : Int) (z : Sl), env = [.val (.int c), .val (.int m), .val (.int st), .val (.int key), .acc (ks.map .int), z] ∧ ks.length = i ∧ ks.Pairwise (· < ·) ∧ ∀ x ∈ ks, x < key)
    m.toNat [.val (.int c), .val (.int m), .val (.int st), .val (.int key0), .acc [], .un] ⟨[], key0, .un, rfl, rfl, List.Pairwise.nil, fun x h => nomatch h⟩ (fun i hi env ⟨ks, key, z, e, hl, hp, hb⟩ => by
      subst e
      have hlim : ks.length < lim := by rw [hl]; unfold lim; omega
      have c1 := churn_ev c (3 + (i : Int)) (by omega) (by omega)
      have c2 := churn_ev c (20 + (i : Int)) (by omega) (by omega)
      have m1 := modD_pos (churn c (3 + (i : Int))) 3 (by decide)
      have m2 := mulD_l (churn c (20 + (i : Int))) 1000000000000000000000 (by have := churn_ge c (20 + (i : Int)); omega) (by have := churn_lt c (20 + (i : Int)); omega)
      have hm3 : 0 ≤ churn c (3 + (i : Int)) % 3 := Int.emod_nonneg _ (by decide)
      have hm4 := churn_ge c (20 + (i : Int))
      by_cases hs : 1 < st
      · refine ⟨[.val (.int c), .val (.int m), .val (.int st), .val (.int (key + 1 + churn c (3 + (i : Int)) % 3 + churn c (20 + (i : Int)) * 1000000000000000000000)), .acc ((ks ++ [key]).map .int), .val (.int (i : Int))], ?_, ks ++ [key], _, _, rfl, by simp [hl], ?_, ?_⟩
        · simp [l_law_keys_1, runF, sSeq, sSet, sRet, sRetN, sIf, sNil, sDis, disE, sAcc, sApp, eBin, eVar, eC, eB, asB, eAnd, eOr, eNot, eAndV, eOrV, eNotV, eIf, eNeg, aNil, aCons, eTup, eLst, eCall, eBlt, guardM, gN, addD_int, subD_int, gtD_int, ltD_int, leD_int, geD_int, negD_int, pow30, pow21, pow9, eqD_int, neD_int, c1, c2, m1, m2, hs, hlim]
        · exact List.pairwise_append.mpr ⟨hp, List.pairwise_singleton _ _, fun a ha b hb' => by rw [List.mem_singleton.mp hb']; exact hb a ha⟩
        · intro x hx
          rcases List.mem_append.mp hx with q | q
          · have := hb x q; omega
          · rw [List.mem_singleton.mp q]; omega
      · refine ⟨[.val (.int c), .val (.int m), .val (.int st), .val (.int (key + 1 + churn c (3 + (i : Int)) % 3)), .acc ((ks ++ [key]).map .int), .val (.int (i : Int))], ?_, ks ++ [key], _, _, rfl, by simp [hl], ?_, ?_⟩
        · simp [l_law_keys_1, runF, sSeq, sSet, sRet, sRetN, sIf, sNil, sDis, disE, sAcc, sApp, eBin, eVar, eC, eB, asB, eAnd, eOr, eNot, eAndV, eOrV, eNotV, eIf, eNeg, aNil, aCons, eTup, eLst, eCall, eBlt, guardM, gN, addD_int, subD_int, gtD_int, ltD_int, leD_int, geD_int, negD_int, pow30, pow21, pow9, eqD_int, neD_int, c1, c2, m1, m2, hs, hlim]
        · exact List.pairwise_append.mpr ⟨hp, List.pairwise_singleton _ _, fun a ha b hb' => by rw [List.mem_singleton.mp hb']; exact hb a ha⟩
        · intro x hx
          rcases List.mem_append.mp hx with q | q
          · have := hb x q; omega
          · rw [List.mem_singleton.mp q]; omega)
  obtain ⟨env', e, ks, key, z, e', hl, hp, _⟩ := L
  subst e'
  exact ⟨ks, key, z, (sFor_range (m := m) rfl h0 (by omega)).trans e, by rw [hl]; omega, hp⟩
theorem pair_rev {ks : List Int} (h : ks.Pairwise (· < ·)) : (ks.reverse.map fun x => -x).Pairwise (· < ·) := by
  rw [List.pairwise_map, List.pairwise_reverse]
  exact h.imp fun h => by omega
theorem keys_ev (c m : Int) (h0 : 0 ≤ m) (h1 : m ≤ 12) : ∃ ks : List Int, F_law_keys [.int c, .int m] = pure (.lst (ks.map .int)) ∧ (ks.length : Int) = m ∧ ks.Pairwise (· < ·) := by
  have c1 := churn_ev c 1 (by decide) (by decide)
  have c2 := churn_ev c 2 (by decide) (by decide)
  have m1 := modD_pos (churn c 1) 4 (by decide)
  have m2 := modD_pos (churn c 2) 12 (by decide)
  have neg : ∀ (ks : List Int) (st key : Int) (z : Sl), ks.length ≤ 12 → eComp (iLst (eRev (eVar 4))) [] tAll (eNeg (eVar 0)) [.val (.int c), .val (.int m), .val (.int st), .val (.int key), .val (.lst (ks.map .int)), z] = pure (.lst ((ks.reverse.map fun x => -x).map .int)) := fun ks st key z hl => by
    have := eComp_ints (src := iLst (eRev (eVar 4))) (idx := []) (t := tAll) (f := eNeg (eVar 0)) (env := [.val (.int c), .val (.int m), .val (.int st), .val (.int key), .val (.lst (ks.map .int)), z]) (ns := ks.reverse) (p := fun _ => true) (g := fun x => -x)
      (by rw [List.map_reverse]; rfl) (by rw [List.length_reverse]; omega) (fun _ => rfl) (fun _ => rfl)
    rw [D.filter_all] at this
    exact this
  by_cases hs : 1 < churn c 1 % 4
  · by_cases hs3 : churn c 1 % 4 = 3
    · obtain ⟨ks, key, z, e, hl, hp⟩ := keys_loop c m 3 (churn c 2 - 1000000000000000000000000000000) h0 h1
      refine ⟨ks.reverse.map fun x => -x, ?_, by simpa using hl, pair_rev hp⟩
      simp [F_law_keys, b_law_keys, runF, sSeq, sSet, sRet, sRetN, sIf, sNil, sDis, disE, sAcc, sApp, eBin, eVar, eC, eB, asB, eAnd, eOr, eNot, eAndV, eOrV, eNotV, eIf, eNeg, aNil, aCons, eTup, eLst, eCall, eBlt, guardM, gN, addD_int, subD_int, gtD_int, ltD_int, leD_int, geD_int, negD_int, pow30, pow21, pow9, eqD_int, neD_int, c1, c2, m1, m2, hs, e, hs3, neg ks _ _ _ (by omega)]
    · obtain ⟨ks, key, z, e, hl, hp⟩ := keys_loop c m (churn c 1 % 4) (churn c 2 - 1000000000000000000000000000000) h0 h1
      exact ⟨ks, by simp [F_law_keys, b_law_keys, runF, sSeq, sSet, sRet, sRetN, sIf, sNil, sDis, disE, sAcc, sApp, eBin, eVar, eC, eB, asB, eAnd, eOr, eNot, eAndV, eOrV, eNotV, eIf, eNeg, aNil, aCons, eTup, eLst, eCall, eBlt, guardM, gN, addD_int, subD_int, gtD_int, ltD_int, leD_int, geD_int, negD_int, pow30, pow21, pow9, eqD_int, neD_int, c1, c2, m1, m2, hs, e, hs3], hl, hp⟩
  · obtain ⟨ks, key, z, e, hl, hp⟩ := keys_loop c m (churn c 1 % 4) (churn c 2 % 12 - 7) h0 h1
    have hs3 : ¬ churn c 1 % 4 = 3 := by omega
    exact ⟨ks, by simp [F_law_keys, b_law_keys, runF, sSeq, sSet, sRet, sRetN, sIf, sNil, sDis, disE, sAcc, sApp, eBin, eVar, eC, eB, asB, eAnd, eOr, eNot, eAndV, eOrV, eNotV, eIf, eNeg, aNil, aCons, eTup, eLst, eCall, eBlt, guardM, gN, addD_int, subD_int, gtD_int, ltD_int, leD_int, geD_int, negD_int, pow30, pow21, pow9, eqD_int, neD_int, c1, c2, m1, m2, hs, e, hs3], hl, hp⟩
theorem high_ev (c : Int) (ks : List Int) : ∃ o, F_law_high [.int c, .lst (ks.map .int)] = pure (opt o) ∧ ∀ h, o = some h → ∀ x, ks.getLast? = some x → x < h := by
  have c0 := churn_ev c 40 (by decide) (by decide)
  have c1 := churn_ev c 41 (by decide) (by decide)
  have c2 := churn_ev c 42 (by decide) (by decide)
  have m0 := modD_pos (churn c 40) 3 (by decide)
  have m2 := modD_pos (churn c 42) 3 (by decide)
  obtain ⟨d, e, hd⟩ := ix3 (.int 1) (.int 5) (.int 1000000000) (churn c 42 % 3) (mod_rng _ _ (by decide))
  have hdi : ∃ y : Int, d = .int y ∧ 0 < y := by
    rcases hd with rfl | rfl | rfl
    · exact ⟨1, rfl, by decide⟩
    · exact ⟨5, rfl, by decide⟩
    · exact ⟨1000000000, rfl, by decide⟩
  obtain ⟨y, rfl, hy⟩ := hdi
  have m1 := modD_pos (churn c 41) y hy
  have sh : short [DV.int 1, DV.int 5, DV.int 1000000000] = true := rfl
  have sh0 : short [] = true := rfl
  -- the last key
  have step : ∀ last : Int, ∃ o, (sSeq (sIf (eOr (eB (eBin eqD (eBin modD (eCall 2 F_law_churn (aCons (eVar 0) (aCons (eC (.int 40)) aNil))) (eC (.int 3))) (eC (.int 0)))) (eB (eBin geD (eVar 2) (eBin powD (eC (.int 10)) (eC (.int 30)))))) (sRet (eC .non)) sNil) (sRet (eBlt minF (aCons (eBin powD (eC (.int 10)) (eC (.int 30))) (aCons (eBin addD (eBin addD (eVar 2) (eC (.int 1))) (eBin modD (eCall 2 F_law_churn (aCons (eVar 0) (aCons (eC (.int 41)) aNil))) (eBin ixD (eLst (aCons (eC (.int 1)) (aCons (eC (.int 5)) (aCons (eBin powD (eC (.int 10)) (eC (.int 9))) aNil)))) (eBin modD (eCall 2 F_law_churn (aCons (eVar 0) (aCons (eC (.int 42)) aNil))) (eC (.int 3)))))) aNil)))))
      [.val (.int c), .val (.lst (ks.map .int)), .val (.int last)] = pure (.rt (opt o), [.val (.int c), .val (.lst (ks.map .int)), .val (.int last)]) ∧ ∀ h, o = some h → last < h := by
    intro last
    by_cases h3 : churn c 40 % 3 = 0
    · exact ⟨none, by simp [runF, sSeq, sSet, sRet, sRetN, sIf, sNil, sDis, disE, sAcc, sApp, eBin, eVar, eC, eB, asB, eAnd, eOr, eNot, eAndV, eOrV, eNotV, eIf, eNeg, aNil, aCons, eTup, eLst, eCall, eBlt, guardM, gN, addD_int, subD_int, gtD_int, ltD_int, leD_int, geD_int, negD_int, pow30, pow21, pow9, eqD_int, neD_int, c0, m0, h3, opt], fun h q => by cases q⟩
    · by_cases h4 : 1000000000000000000000000000000 ≤ last
      · exact ⟨none, by simp [runF, sSeq, sSet, sRet, sRetN, sIf, sNil, sDis, disE, sAcc, sApp, eBin, eVar, eC, eB, asB, eAnd, eOr, eNot, eAndV, eOrV, eNotV, eIf, eNeg, aNil, aCons, eTup, eLst, eCall, eBlt, guardM, gN, addD_int, subD_int, gtD_int, ltD_int, leD_int, geD_int, negD_int, pow30, pow21, pow9, eqD_int, neD_int, c0, m0, h3, h4, opt], fun h q => by cases q⟩
      · exact ⟨some (if last + 1 + churn c 41 % y < 1000000000000000000000000000000 then last + 1 + churn c 41 % y else 1000000000000000000000000000000), by simp [runF, sSeq, sSet, sRet, sRetN, sIf, sNil, sDis, disE, sAcc, sApp, eBin, eVar, eC, eB, asB, eAnd, eOr, eNot, eAndV, eOrV, eNotV, eIf, eNeg, aNil, aCons, eTup, eLst, eCall, eBlt, guardM, gN, addD_int, subD_int, gtD_int, ltD_int, leD_int, geD_int, negD_int, pow30, pow21, pow9, eqD_int, neD_int, c0, c1, c2, m0, m1, m2, h3, h4, e, sh, minF, opt], fun h q => by
          cases q
          have := Int.emod_nonneg (churn c 41) (show y ≠ 0 by omega)
          split <;> omega⟩
  by_cases hk : ks = []
  · subst hk
    obtain ⟨o, q, hq⟩ := step (-4)
    refine ⟨o, runF_rt ((sSeq_nx (sSet_eq (d := .int (-4)) rfl)).trans ((sSeq_nx ((sIf_f (eB_eq (eBin_eq (x := .lst []) (y := .lst []) rfl rfl (neD_nil [])))).trans rfl)).trans q)), fun h _ x hx => by simp at hx⟩
  · obtain ⟨x, hx0, hx⟩ := atI_neg1 ks hk
    obtain ⟨o, q, hq⟩ := step x
    refine ⟨o, runF_rt ((sSeq_nx (sSet_eq (d := .int (-4)) rfl)).trans ((sSeq_nx ((sIf_t (eB_eq (eBin_eq (x := .lst (ks.map .int)) (y := .lst []) rfl rfl ((neD_nil ks).trans (by simp [hk]))))).trans (sSet_eq (d := .int x) (eBin_eq (x := .lst (ks.map .int)) (y := .int (-1)) rfl rfl (by simp [ixD, hx]))))).trans q)), fun h e y hy => by rw [hx0] at hy; cases hy; exact hq h e⟩
theorem page_step (c l m : Int) (K : DV) (ps : List Int) (i : Nat) (hi : i ≤ 13) (hl : ps.length ≤ 13) (z5 z8 z9 z10 : Sl) : ∃ (w : Int) (y8 y9 y10 : Sl),
    l_law_page_1 [.val (.int c), .val (.int l), .val (.int m), .val K, .acc (ps.map .int), .val (.int (i : Int)), .un, .un, z8, z9, z10] = pure (.nx, [.val (.int c), .val (.int l), .val (.int m), .val K, .acc ((ps ++ [w]).map .int), .val (.int (i : Int)), .un, .un, y8, y9, y10]) := by
  have c1 := churn_ev c (50 + (i : Int)) (by omega) (by omega)
  generalize hp : churn c (50 + (i : Int)) = part at c1
  have mm := mulD_r c ((i : Int) + 3) (by omega) (by omega)
  have m2 := mulD_l 2 1000000000000000000000000000000 (by decide) (by decide)
  have m3 := modD_pos (c * ((i : Int) + 3) + part) 2000000000000000000000000000001 (by decide)
  generalize hf : (c * ((i : Int) + 3) + part) % 2000000000000000000000000000001 - 1000000000000000000000000000000 = far
  have hlim : ps.length < lim := by unfold lim; omega
  obtain ⟨d, e, hd⟩ := ix4 (.int 0) (.int (part % 7 - 3)) (.int part) (.int far) (part / 7 % 4) (mod_rng _ _ (by decide))
  have hw : ∃ w : Int, d = .int w := by rcases hd with rfl | rfl | rfl | rfl <;> exact ⟨_, rfl⟩
  obtain ⟨w, rfl⟩ := hw
  obtain ⟨d', e', hd'⟩ := ix4 (.int 0) (.int (part % 3)) (.int (part % 1000)) (.int part) (part / 1000 % 4) (mod_rng _ _ (by decide))
  have hw' : ∃ w : Int, d' = .int w := by rcases hd' with rfl | rfl | rfl | rfl <;> exact ⟨_, rfl⟩
  obtain ⟨w', rfl⟩ := hw'
  have s1 : short [DV.int 0, DV.int (part % 7 - 3), DV.int part, DV.int far] = true := rfl
  have s2 : short [DV.int 0, DV.int (part % 3), DV.int (part % 1000), DV.int part] = true := rfl
  have q1 := modD_pos part 7 (by decide)
  have q2 := divD_pos part 7 (by decide) (by decide)
  have q3 := modD_pos (part / 7) 4 (by decide)
  have q4 := modD_pos part 3 (by decide)
  have q5 := modD_pos part 1000 (by decide)
  have q6 := divD_pos part 1000 (by decide) (by decide)
  have q7 := modD_pos (part / 1000) 4 (by decide)
  by_cases hl0 : 0 < l
  · refine ⟨w', .val (.int part), .val (.int far), .val (.int w'), ?_⟩
    refine (sSeq_nx (sSet_eq (d := .int part) (eCall2 (x := .int c) (y := .int (50 + (i : Int))) rfl rfl c1))).trans ?_
    refine (sSeq_nx (sSet_eq (d := .int far) ?_)).trans ?_
    · simp [runF, sSeq, sSet, sRet, sRetN, sIf, sNil, sDis, disE, sAcc, sApp, eBin, eVar, eC, eB, asB, eAnd, eOr, eNot, eAndV, eOrV, eNotV, eIf, eNeg, aNil, aCons, eTup, eLst, eCall, eBlt, guardM, gN, addD_int, subD_int, gtD_int, ltD_int, leD_int, geD_int, negD_int, pow30, pow21, pow9, eqD_int, neD_int, mm, m2, m3, hf]
    refine (sSeq_nx (sSet_eq (d := .int w) ?_)).trans ?_
    · simp [runF, sSeq, sSet, sRet, sRetN, sIf, sNil, sDis, disE, sAcc, sApp, eBin, eVar, eC, eB, asB, eAnd, eOr, eNot, eAndV, eOrV, eNotV, eIf, eNeg, aNil, aCons, eTup, eLst, eCall, eBlt, guardM, gN, addD_int, subD_int, gtD_int, ltD_int, leD_int, geD_int, negD_int, pow30, pow21, pow9, eqD_int, neD_int, s1, q1, q2, q3, e]
    refine (sSeq_nx ((sIf_t (eB_eq (b := true) ?_)).trans (sSet_eq (d := .int w') ?_))).trans ?_
    · simp [runF, sSeq, sSet, sRet, sRetN, sIf, sNil, sDis, disE, sAcc, sApp, eBin, eVar, eC, eB, asB, eAnd, eOr, eNot, eAndV, eOrV, eNotV, eIf, eNeg, aNil, aCons, eTup, eLst, eCall, eBlt, guardM, gN, addD_int, subD_int, gtD_int, ltD_int, leD_int, geD_int, negD_int, pow30, pow21, pow9, eqD_int, neD_int, hl0]
    · simp [runF, sSeq, sSet, sRet, sRetN, sIf, sNil, sDis, disE, sAcc, sApp, eBin, eVar, eC, eB, asB, eAnd, eOr, eNot, eAndV, eOrV, eNotV, eIf, eNeg, aNil, aCons, eTup, eLst, eCall, eBlt, guardM, gN, addD_int, subD_int, gtD_int, ltD_int, leD_int, geD_int, negD_int, pow30, pow21, pow9, eqD_int, neD_int, s2, q4, q5, q6, q7, e']
    · simp [runF, sSeq, sSet, sRet, sRetN, sIf, sNil, sDis, disE, sAcc, sApp, eBin, eVar, eC, eB, asB, eAnd, eOr, eNot, eAndV, eOrV, eNotV, eIf, eNeg, aNil, aCons, eTup, eLst, eCall, eBlt, guardM, gN, addD_int, subD_int, gtD_int, ltD_int, leD_int, geD_int, negD_int, pow30, pow21, pow9, eqD_int, neD_int, hlim]
  · refine ⟨w, .val (.int part), .val (.int far), .val (.int w), ?_⟩
    refine (sSeq_nx (sSet_eq (d := .int part) (eCall2 (x := .int c) (y := .int (50 + (i : Int))) rfl rfl c1))).trans ?_
    refine (sSeq_nx (sSet_eq (d := .int far) ?_)).trans ?_
    · simp [runF, sSeq, sSet, sRet, sRetN, sIf, sNil, sDis, disE, sAcc, sApp, eBin, eVar, eC, eB, asB, eAnd, eOr, eNot, eAndV, eOrV, eNotV, eIf, eNeg, aNil, aCons, eTup, eLst, eCall, eBlt, guardM, gN, addD_int, subD_int, gtD_int, ltD_int, leD_int, geD_int, negD_int, pow30, pow21, pow9, eqD_int, neD_int, mm, m2, m3, hf]
    refine (sSeq_nx (sSet_eq (d := .int w) ?_)).trans ?_
    · simp [runF, sSeq, sSet, sRet, sRetN, sIf, sNil, sDis, disE, sAcc, sApp, eBin, eVar, eC, eB, asB, eAnd, eOr, eNot, eAndV, eOrV, eNotV, eIf, eNeg, aNil, aCons, eTup, eLst, eCall, eBlt, guardM, gN, addD_int, subD_int, gtD_int, ltD_int, leD_int, geD_int, negD_int, pow30, pow21, pow9, eqD_int, neD_int, s1, q1, q2, q3, e]
    refine (sSeq_nx ((sIf_f (eB_eq (b := false) ?_)).trans rfl)).trans ?_
    · simp [runF, sSeq, sSet, sRet, sRetN, sIf, sNil, sDis, disE, sAcc, sApp, eBin, eVar, eC, eB, asB, eAnd, eOr, eNot, eAndV, eOrV, eNotV, eIf, eNeg, aNil, aCons, eTup, eLst, eCall, eBlt, guardM, gN, addD_int, subD_int, gtD_int, ltD_int, leD_int, geD_int, negD_int, pow30, pow21, pow9, eqD_int, neD_int, hl0]
    · simp [runF, sSeq, sSet, sRet, sRetN, sIf, sNil, sDis, disE, sAcc, sApp, eBin, eVar, eC, eB, asB, eAnd, eOr, eNot, eAndV, eOrV, eNotV, eIf, eNeg, aNil, aCons, eTup, eLst, eCall, eBlt, guardM, gN, addD_int, subD_int, gtD_int, ltD_int, leD_int, geD_int, negD_int, pow30, pow21, pow9, eqD_int, neD_int, hlim]
def pageD (l : Int) (ks ps : List Int) (hi sd : Option Int) : DV := .tup [.int l, .tup (ks.map .int), .tup (ps.map .int), opt hi, opt sd]
theorem page_ev (c l m : Int) (h0 : 0 ≤ m) (h1 : m ≤ 12) : ∃ (ks ps : List Int) (hi sd : Option Int), F_law_page [.int c, .int l, .int m] = pure (pageD l ks ps hi sd) ∧ (ks.length : Int) = m ∧ ks.Pairwise (· < ·) ∧ (ps.length : Int) = m + (if 0 < l then 1 else 0) ∧ (hi = none ↔ sd = none) ∧ (∀ h, hi = some h → ∀ x ∈ ks, x < h) ∧ (∀ s, sd = some s → s < 1000 ∨ 2000 ≤ s) := by
  obtain ⟨ks, ek, hk, hs⟩ := keys_ev c m h0 h1
  obtain ⟨hi, eh, hhi⟩ := high_ev c ks
  have hlast : ∀ h, hi = some h → ∀ x ∈ ks, x < h := fun h e x hx => by
    obtain ⟨r, y, rfl⟩ : ∃ r y, ks = r ++ [y] := ⟨ks.dropLast, ks.getLast (fun q => by rw [q] at hx; cases hx), (List.dropLast_concat_getLast _).symm⟩
    have h1 := hhi h e y (by simp)
    rcases List.mem_append.mp hx with q | q
    · have := (List.pairwise_append.mp hs).2.2 x q y (by simp); omega
    · rw [List.mem_singleton.mp q]; exact h1
  have c3 := churn_ev c 43 (by decide) (by decide)
  have c4 := churn_ev c 44 (by decide) (by decide)
  have m3 := modD_pos (churn c 43) 400 (by decide)
  have m4 := modD_pos (churn c 44) 2 (by decide)
  have hn0 : 0 ≤ m + (if 0 < l then 1 else 0) := by split <;> omega
  have hn1 : m + (if 0 < l then 1 else 0) ≤ 13 := by split <;> omega
  generalize hn : m + (if 0 < l then 1 else 0) = n at hn0 hn1
  have L := forL_range0 (b := fun d env => (gN 5 d env >>= fun env' => l_law_page_1 env'))
    (fun i env => ∃ (ps : List Int) (z5 z8 z9 z10 : Sl), env = [.val (.int c), .val (.int l), .val (.int m), .val (.lst (ks.map .int)), .acc (ps.map .int), z5, .un, .un, z8, z9, z10] ∧ ps.length = i)
    n.toNat [.val (.int c), .val (.int l), .val (.int m), .val (.lst (ks.map .int)), .acc [], .un, .un, .un, .un, .un, .un] ⟨[], .un, .un, .un, .un, rfl, rfl⟩ (fun i hi env ⟨ps, z5, z8, z9, z10, e, hl⟩ => by
      subst e
      obtain ⟨w, y8, y9, y10, e⟩ := page_step c l m (.lst (ks.map .int)) ps i (by omega) (by omega) z5 z8 z9 z10
      exact ⟨_, gN_bind.trans e, ps ++ [w], _, y8, y9, y10, rfl, by simp [hl]⟩)
  obtain ⟨env', e, ps, z5, z8, z9, z10, e', hl⟩ := L
  subst e'
  have ef : sFor (iRg1 (aCons (eBin addD (eVar 2) (eBlt intF (aCons (eBin gtD (eVar 1) (eC (.int 0))) aNil))) aNil)) (gN 5) l_law_page_1 [.val (.int c), .val (.int l), .val (.int m), .val (.lst (ks.map .int)), .acc [], .un, .un, .un, .un, .un, .un] = _ := (sFor_range (m := n) (by rw [← hn]; by_cases q : 0 < l <;> simp [runF, sSeq, sSet, sRet, sRetN, sIf, sNil, sDis, disE, sAcc, sApp, eBin, eVar, eC, eB, asB, eAnd, eOr, eNot, eAndV, eOrV, eNotV, eIf, eNeg, aNil, aCons, eTup, eLst, eCall, eBlt, guardM, gN, addD_int, subD_int, gtD_int, ltD_int, leD_int, geD_int, negD_int, pow30, pow21, pow9, eqD_int, neD_int, intF, q]) hn0 (by omega)).trans e
  obtain ⟨sd, es, hsd, hsr⟩ : ∃ sd, (sIf (eB (eBin isnD (eVar 6) (eC .non))) (sSet 7 (eBin ixD (eLst (aCons (eBin modD (eCall 2 F_law_churn (aCons (eVar 0) (aCons (eC (.int 43)) aNil))) (eC (.int 400))) (aCons (eBin addD (eC (.int 2000)) (eCall 2 F_law_churn (aCons (eVar 0) (aCons (eC (.int 43)) aNil)))) aNil))) (eBin modD (eCall 2 F_law_churn (aCons (eVar 0) (aCons (eC (.int 44)) aNil))) (eC (.int 2))))) sNil) [.val (.int c), .val (.int l), .val (.int m), .val (.lst (ks.map .int)), .acc (ps.map .int), z5, .val (opt hi), .val .non, z8, z9, z10] = pure (.nx, [.val (.int c), .val (.int l), .val (.int m), .val (.lst (ks.map .int)), .acc (ps.map .int), z5, .val (opt hi), .val (opt sd), z8, z9, z10]) ∧ (hi = none ↔ sd = none) ∧ (∀ s, sd = some s → s < 1000 ∨ 2000 ≤ s) := by
    cases hi with
    | none => exact ⟨none, rfl, by simp, fun s e => by cases e⟩
    | some h =>
      have hm := mod_rng (churn c 44) 2 (by decide)
      obtain ⟨d, e, hd⟩ := ix2 (.int (churn c 43 % 400)) (.int (2000 + churn c 43)) (churn c 44 % 2) (by omega)
      have s2 : short [DV.int (churn c 43 % 400), DV.int (2000 + churn c 43)] = true := rfl
      rcases hd with rfl | rfl
      · exact ⟨some _, (sIf_t (eB_eq (b := true) rfl)).trans (sSet_eq (d := opt (some (churn c 43 % 400))) (by simp [runF, sSeq, sSet, sRet, sRetN, sIf, sNil, sDis, disE, sAcc, sApp, eBin, eVar, eC, eB, asB, eAnd, eOr, eNot, eAndV, eOrV, eNotV, eIf, eNeg, aNil, aCons, eTup, eLst, eCall, eBlt, guardM, gN, addD_int, subD_int, gtD_int, ltD_int, leD_int, geD_int, negD_int, pow30, pow21, pow9, eqD_int, neD_int, c3, c4, m3, m4, s2, e, opt])), by simp, fun s e => by cases e; have := mod_rng (churn c 43) 400 (by decide); omega⟩
      · exact ⟨some _, (sIf_t (eB_eq (b := true) rfl)).trans (sSet_eq (d := opt (some (2000 + churn c 43))) (by simp [runF, sSeq, sSet, sRet, sRetN, sIf, sNil, sDis, disE, sAcc, sApp, eBin, eVar, eC, eB, asB, eAnd, eOr, eNot, eAndV, eOrV, eNotV, eIf, eNeg, aNil, aCons, eTup, eLst, eCall, eBlt, guardM, gN, addD_int, subD_int, gtD_int, ltD_int, leD_int, geD_int, negD_int, pow30, pow21, pow9, eqD_int, neD_int, c3, c4, m3, m4, s2, e, opt])), by simp, fun s e => by cases e; have := churn_ge c 43; omega⟩
  refine ⟨ks, ps, hi, sd, runF_rt (env := [.val (.int c), .val (.int l), .val (.int m), .val (.lst (ks.map .int)), .val (.lst (ps.map .int)), z5, .val (opt hi), .val (opt sd), z8, z9, z10]) ?_, hk, hs, by rw [hl]; omega, hsd, hlast, hsr⟩
  refine (sSeq_nx (sSet_eq (d := .lst (ks.map .int)) (eCall2 (x := .int c) (y := .int m) rfl rfl ek))).trans ?_
  refine (sSeq_nx (env1 := [.val (.int c), .val (.int l), .val (.int m), .val (.lst (ks.map .int)), .acc [], .un, .un, .un, .un, .un, .un]) rfl).trans ?_
  refine (sSeq_nx ef).trans ?_
  refine (sSeq_nx (sSet_eq (d := opt hi) (eCall2 (x := .int c) (y := .lst (ks.map .int)) rfl rfl eh))).trans ?_
  refine (sSeq_nx (sSet_eq (d := .non) rfl)).trans ?_
  refine (sSeq_nx es).trans ?_
  exact sRet_eq rfl

def cLe (ks : List Int) (k : Int) : Nat := (ks.filter fun x => decide (x ≤ k)).length
def cLt (ks : List Int) (k : Int) : Nat := (ks.filter fun x => decide (x < k)).length
theorem cna_ev (ks : List Int) (k : Int) (hl : ks.length ≤ 100) : F_count_not_above [.tup (ks.map .int), .int k] = pure (.int (cLe ks k)) := by
  refine runF_rt (sRet_eq ?_) <;> try exact []
  have := eComp_ints (src := iTp (eVar 0)) (idx := [1]) (t := eB (eBin leD (eVar 0) (eVar 1))) (f := eVar 0) (env := [.val (.tup (ks.map .int)), .val (.int k)]) (ns := ks) (p := fun x => decide (x ≤ k)) (g := fun x => x) rfl (by omega) (fun _ => rfl) (fun _ => rfl)
  show eBlt lenF (aCons (eComp (iTp (eVar 0)) [1] (eB (eBin leD (eVar 0) (eVar 1))) (eVar 0)) aNil) [.val (.tup (ks.map .int)), .val (.int k)] = _
  simp only [eBlt, aCons, aNil, this, pure_bind, lenF_lst, List.length_map]
  rfl

theorem cb_ev (ks : List Int) (k : Int) (hl : ks.length ≤ 100) : F_count_below [.tup (ks.map .int), .int k] = pure (.int (cLt ks k)) := by
  refine runF_rt (sRet_eq ?_) <;> try exact []
  have := eComp_ints (src := iTp (eVar 0)) (idx := [1]) (t := eB (eBin ltD (eVar 0) (eVar 1))) (f := eVar 0) (env := [.val (.tup (ks.map .int)), .val (.int k)]) (ns := ks) (p := fun x => decide (x < k)) (g := fun x => x) rfl (by omega) (fun _ => rfl) (fun _ => rfl)
  show eBlt lenF (aCons (eComp (iTp (eVar 0)) [1] (eB (eBin ltD (eVar 0) (eVar 1))) (eVar 0)) aNil) [.val (.tup (ks.map .int)), .val (.int k)] = _
  simp only [eBlt, aCons, aNil, this, pure_bind, lenF_lst, List.length_map]
  rfl

/-- data that _law_same takes: tuples, whole numbers, None, n deep -/
def SameOk : Nat → DV → Prop
  | _, .int _ => True
  | _, .non => True
  | n + 1, .tup ds => ∀ d ∈ ds, SameOk n d
  | _, _ => False
theorem same_loop (n : Nat) (ih : ∀ d, SameOk n d → F_law_same (n + 1) [d, d] = pure (.bl true)) (D : DV) : ∀ (ds : List DV) (z2 z3 : Sl), (∀ d ∈ ds, SameOk n d) → ∃ y2 y3, forL (fun d env => do let env' ← gT [2, 3] d env; l_law_same_1 (F_law_same (n + 1)) env') (zipL ds ds) [.val D, .val D, z2, z3] = pure (.nx, [.val D, .val D, y2, y3])
  | [], z2, z3, _ => ⟨z2, z3, by simp [zipL, forL]⟩
  | d :: ds, z2, z3, h => by
    obtain ⟨y2, y3, e⟩ := same_loop n ih D ds (.val d) (.val d) fun x hx => h x (List.mem_cons_of_mem _ hx)
    refine ⟨y2, y3, ?_⟩
    have g : gT [2, 3] (.tup [d, d]) [.val D, .val D, z2, z3] = pure [.val D, .val D, .val d, .val d] := rfl
    have b : l_law_same_1 (F_law_same (n + 1)) [.val D, .val D, .val d, .val d] = pure (.nx, [.val D, .val D, .val d, .val d]) :=
      (sIf_f (eNot_eq (b := true) (eB_eq (eCall2 (x := d) (y := d) rfl rfl (ih d (h d (by simp))))))).trans rfl
    simp only [zipL, forL, g, pure_bind, b, e]
theorem same_refl : ∀ (n : Nat) (d : DV), SameOk n d → F_law_same (n + 1) [d, d] = pure (.bl true)
  | n, .int w, _ => by
    refine runF_rt (env := [.val (.int w), .val (.int w), .un, .un]) ?_
    refine (sSeq_nx ((sIf_f rfl).trans rfl)).trans ((sSeq_nx ((sIf_f rfl).trans rfl)).trans (sRet_eq ?_))
    simp [eAndV, eIsi, eNotV, eVar, tyName, isiB, asB, eBin, eqD_int]
  | n, .non, _ => rfl
  | 0, .tup ds, h => h.elim
  | n + 1, .tup ds, h => by
    obtain ⟨y2, y3, e⟩ := same_loop n (same_refl n) (.tup ds) ds .un .un h
    refine runF_rt (env := [.val (.tup ds), .val (.tup ds), y2, y3]) ?_
    refine sSeq_rt ((sIf_t rfl).trans ?_)
    refine (sSeq_nx ((sIf_f ?_).trans rfl)).trans ((sSeq_nx ((sFor_zip (ds := ds) (es := ds) rfl rfl).trans e)).trans (sRet_eq rfl))
    have t2 : eB (eBin neD (eBlt lenF (aCons (eVar 0) aNil)) (eBlt lenF (aCons (eVar 1) aNil))) [.val (.tup ds), .val (.tup ds), .un, .un] = pure false :=
      eB_eq (eBin_eq (x := .int ds.length) (y := .int ds.length) rfl rfl ((neD_int _ _).trans (by simp)))
    have t1 : eNot (eB (eIsi "tuple" (eVar 0))) [.val (.tup ds), .val (.tup ds), .un, .un] = pure false := rfl
    show eOr _ _ [.val (.tup ds), .val (.tup ds), .un, .un] = _
    simp only [eOr, t1, pure_bind, Bool.false_eq_true, if_false, t2]
  | 0, .bl _, h => h.elim
  | _ + 1, .bl _, h => h.elim
  | 0, .str _, h => h.elim
  | _ + 1, .str _, h => h.elim
  | 0, .lst _, h => h.elim
  | _ + 1, .lst _, h => h.elim
  | 0, .ref _, h => h.elim
  | _ + 1, .ref _, h => h.elim
theorem sameOk_ints (n : Nat) (ks : List Int) : SameOk (n + 1) (.tup (ks.map .int)) := fun d hd => by
  obtain ⟨x, _, rfl⟩ := List.mem_map.mp hd
  cases n <;> trivial
theorem sameOk_opt (n : Nat) (o : Option Int) : SameOk n (opt o) := by cases o <;> cases n <;> trivial
theorem sameOk_int (n : Nat) (i : Int) : SameOk n (.int i) := by cases n <;> trivial
theorem sameOk_page (n : Nat) (l : Int) (ks ps : List Int) (hi sd : Option Int) : SameOk (n + 2) (pageD l ks ps hi sd) := by
  intro d hd
  simp only [List.mem_cons, List.not_mem_nil, or_false] at hd
  rcases hd with rfl | rfl | rfl | rfl | rfl
  · exact sameOk_int _ _
  · exact sameOk_ints _ _
  · exact sameOk_ints _ _
  · exact sameOk_opt _ _
  · exact sameOk_opt _ _

/-- a leaf's pairs, and the dict that holds them -/
abbrev Zs := List (Int × Int)
def zK (z : Zs) : List Int := z.map (·.1)
def zV (z : Zs) : List Int := z.map (·.2)
def zE (z : Zs) : List (Key × DV) := z.map fun p => (.inl p.1, .int p.2)
def Rise (z : Zs) : Prop := z.Pairwise fun p q => p.1 < q.1
def lowZ (z : Zs) (k : Int) : Zs := z.filter fun p => decide (p.1 < k)
def topZ (z : Zs) (k : Int) : Zs := z.filter fun p => decide (k < p.1)
def runZ (z : Zs) (k : Int) (n : Zs) : Zs := lowZ z k ++ n ++ topZ z k
theorem Rise.keys {z : Zs} (h : Rise z) : (zK z).Pairwise (· < ·) := List.pairwise_map.mpr h
theorem take_low {z : Zs} (h : Rise z) (k : Int) : z.take (cLt (zK z) k) = lowZ z k := by
  induction z with
  | nil => rfl
  | cons p r ih =>
    obtain ⟨h1, h2⟩ := List.pairwise_cons.mp h
    by_cases q : p.1 < k
    · have e : cLt (zK (p :: r)) k = cLt (zK r) k + 1 := by simp [cLt, zK, q]
      rw [e, List.take_succ_cons, ih h2]
      simp [lowZ, q]
    · have e1 : lowZ (p :: r) k = [] := by
        unfold lowZ
        rw [List.filter_eq_nil_iff]
        intro x hx
        rcases List.mem_cons.mp hx with rfl | hx
        · simpa using q
        · have := h1 x hx; simp; omega
      have e2 : cLt (zK (p :: r)) k = 0 := by
        unfold cLt
        rw [List.length_eq_zero_iff, List.filter_eq_nil_iff]
        intro x hx
        obtain ⟨y, hy, rfl⟩ := List.mem_map.mp hx
        rcases List.mem_cons.mp hy with rfl | hy
        · simpa using q
        · have := h1 y hy; simp; omega
      rw [e1, e2]; rfl
theorem drop_top {z : Zs} (h : Rise z) (k : Int) : z.drop (cLe (zK z) k) = topZ z k := by
  induction z with
  | nil => rfl
  | cons p r ih =>
    obtain ⟨h1, h2⟩ := List.pairwise_cons.mp h
    by_cases q : p.1 ≤ k
    · have e : cLe (zK (p :: r)) k = cLe (zK r) k + 1 := by simp [cLe, zK, q]
      rw [e, List.drop_succ_cons, ih h2]
      have : ¬ k < p.1 := by omega
      simp [topZ, this]
    · have e1 : topZ (p :: r) k = p :: r := by
        unfold topZ
        rw [List.filter_eq_self]
        intro x hx
        rcases List.mem_cons.mp hx with rfl | hx
        · simp; omega
        · have := h1 x hx; simp; omega
      have e2 : cLe (zK (p :: r)) k = 0 := by
        unfold cLe
        rw [List.length_eq_zero_iff, List.filter_eq_nil_iff]
        intro x hx
        obtain ⟨y, hy, rfl⟩ := List.mem_map.mp hx
        rcases List.mem_cons.mp hy with rfl | hy
        · simpa using q
        · have := h1 y hy; simp; omega
      rw [e1, e2]; rfl
theorem mem_low {z : Zs} {k : Int} {p : Int × Int} (h : p ∈ lowZ z k) : p ∈ z ∧ p.1 < k := by
  have := List.mem_filter.mp h; exact ⟨this.1, by simpa using this.2⟩
theorem mem_top {z : Zs} {k : Int} {p : Int × Int} (h : p ∈ topZ z k) : p ∈ z ∧ k < p.1 := by
  have := List.mem_filter.mp h; exact ⟨this.1, by simpa using this.2⟩
theorem run_rise {z : Zs} (h : Rise z) (k : Int) {n : Zs} (hn : Rise n) (hk : ∀ p ∈ n, p.1 = k) : Rise (runZ z k n) := by
  refine List.pairwise_append.mpr ⟨List.pairwise_append.mpr ⟨List.Pairwise.filter _ h, hn, fun a ha b hb => ?_⟩, List.Pairwise.filter _ h, fun a ha b hb => ?_⟩
  · have := (mem_low ha).2; have := hk b hb; omega
  · have q := (mem_top hb).2
    rcases List.mem_append.mp ha with w | w
    · have := (mem_low w).2; omega
    · have := hk a w; omega
theorem parts_perm (z : Zs) (k : Int) : (z.filter fun p => decide (p.1 ≠ k)).Perm (lowZ z k ++ topZ z k) := by
  have e := List.filter_append_perm (fun p : Int × Int => decide (p.1 < k)) (z.filter fun p => decide (p.1 ≠ k))
  rw [List.filter_filter, List.filter_filter] at e
  have a : (z.filter fun p => decide (p.1 < k) && decide (p.1 ≠ k)) = lowZ z k := List.filter_congr fun p _ => by
    rw [← Bool.decide_and, decide_eq_decide]; omega
  have b : (z.filter fun p => (!decide (p.1 < k)) && decide (p.1 ≠ k)) = topZ z k := List.filter_congr fun p _ => by
    rw [← decide_not, ← Bool.decide_and, decide_eq_decide]; omega
  rw [a, b] at e
  exact e.symm
theorem run_len (z : Zs) (k : Int) (n : Zs) : (runZ z k n).length ≤ z.length + n.length := by
  have e := (parts_perm z k).length_eq
  have f := List.length_filter_le (fun p : Int × Int => decide (p.1 ≠ k)) z
  unfold runZ
  simp only [List.length_append] at e ⊢
  omega
def Dz (kvs : List (Key × DV)) (z : Zs) : Prop := kvs.Perm (zE z)
theorem Dz.len {kvs : List (Key × DV)} {z : Zs} (d : Dz kvs z) : kvs.length = z.length := by have := d.length_eq; simpa [zE] using this
theorem Dz.nodup {kvs : List (Key × DV)} {z : Zs} (d : Dz kvs z) (h : Rise z) : (kvs.map (·.1)).Nodup := by
  refine (d.map (·.1)).nodup_iff.mpr ?_
  unfold zE
  rw [List.map_map]
  refine List.pairwise_map.mpr (h.imp fun q e => ?_)
  have := Sum.inl.inj e
  omega
theorem Dz.drop {kvs : List (Key × DV)} {z : Zs} (d : Dz kvs z) (k : Int) : Dz (dropD kvs (.inl k)) (runZ z k []) := by
  have e : (zE z).filter (fun kv => decide (kv.1 ≠ (Sum.inl k : Key))) = zE (z.filter fun p => decide (p.1 ≠ k)) := by
    unfold zE
    rw [List.filter_map]
    congr 1
    apply List.filter_congr
    intro p _
    show decide ((Sum.inl p.1 : Key) ≠ Sum.inl k) = decide (p.1 ≠ k)
    rw [decide_eq_decide]
    exact ⟨fun h q => h (by rw [q]), fun h q => h (Sum.inl.inj q)⟩
  have p := (List.Perm.filter (fun kv : Key × DV => decide (kv.1 ≠ (Sum.inl k : Key))) d)
  rw [e] at p
  unfold Dz dropD runZ
  rw [List.append_nil]
  exact p.trans ((parts_perm z k).map _)
theorem putD_perm {k : Key} {d : DV} : ∀ {kvs : List (Key × DV)}, (kvs.map (·.1)).Nodup → (putD kvs k d).Perm ((k, d) :: dropD kvs k) := by
  intro kvs h
  unfold putD
  by_cases q : (kvs.any fun kv => decide (kv.1 = k)) = true
  · rw [if_pos q]
    induction kvs with
    | nil => simp at q
    | cons p r ih =>
      obtain ⟨h1, h2⟩ := List.nodup_cons.mp h
      by_cases e : p.1 = k
      · have hr : ∀ x ∈ r, x.1 ≠ k := fun x hx y => h1 (by show p.1 ∈ _; rw [e, ← y]; exact List.mem_map_of_mem hx)
        have a : r.map (fun kv => if kv.1 = k then (kv.1, d) else kv) = r := by
          conv => rhs; rw [← List.map_id r]
          exact List.map_congr_left fun x hx => by rw [if_neg (hr x hx)]; rfl
        have b : dropD (p :: r) k = r := by
          unfold dropD
          rw [List.filter_cons_of_neg (by simp [e]), List.filter_eq_self]
          intro x hx; simpa using hr x hx
        rw [List.map_cons, if_pos e, a, b, e]
      · have q' : (r.any fun kv => decide (kv.1 = k)) = true := by simpa [e] using q
        have b : dropD (p :: r) k = p :: dropD r k := by
          unfold dropD
          rw [List.filter_cons_of_pos (by simpa using e)]
        rw [List.map_cons, if_neg e, b]
        exact ((ih h2 q').cons p).trans (List.Perm.swap _ _ _)
  · rw [if_neg q]
    have b : dropD kvs k = kvs := by
      unfold dropD
      rw [List.filter_eq_self]
      intro x hx
      have : ¬ x.1 = k := fun e => q (List.any_eq_true.mpr ⟨x, hx, by simpa using e⟩)
      simpa using this
    rw [b]
    exact List.perm_append_singleton _ _
theorem Dz.put {kvs : List (Key × DV)} {z : Zs} (d : Dz kvs z) (h : Rise z) (k w : Int) : Dz (putD kvs (.inl k) (.int w)) (runZ z k [(k, w)]) := by
  refine (putD_perm (d.nodup h)).trans ?_
  have e := (d.drop k).cons ((Sum.inl k : Key), DV.int w)
  refine e.trans ?_
  unfold runZ zE
  rw [List.append_nil]
  rw [List.append_assoc]
  exact (List.perm_middle (a := (k, w)) (l₁ := lowZ z k) (l₂ := topZ z k)).symm.map (fun p => ((Sum.inl p.1 : Key), DV.int p.2))
theorem valD_mem {k : Key} {d : DV} : ∀ {kvs : List (Key × DV)}, (kvs.map (·.1)).Nodup → (k, d) ∈ kvs → valD kvs k = some d
  | [], _, h => by cases h
  | p :: r, hn, h => by
    obtain ⟨h1, h2⟩ := List.nodup_cons.mp hn
    rw [valD_cons]
    rcases List.mem_cons.mp h with e | e
    · rw [← e, if_pos rfl]
    · rw [if_neg, valD_mem h2 e]
      intro q
      exact h1 (by show p.1 ∈ _; rw [q]; exact List.mem_map_of_mem (f := (·.1)) e)
theorem Dz.val {kvs : List (Key × DV)} {z : Zs} (d : Dz kvs z) (h : Rise z) {k w : Int} (hm : (k, w) ∈ z) : valD kvs (.inl k) = some (.int w) :=
  valD_mem (d.nodup h) (d.mem_iff.mpr (List.mem_map_of_mem (f := fun p : Int × Int => ((Sum.inl p.1 : Key), DV.int p.2)) hm))
def kI : Key → Int
  | .inl i => i
  | .inr _ => 0
theorem kInts_all : ∀ {kvs : List (Key × DV)}, (∀ p ∈ kvs, ∃ i, p.1 = .inl i) → kInts kvs = some (kvs.map fun p => kI p.1)
  | [], _ => rfl
  | (k, d) :: r, h => by
    obtain ⟨i, e⟩ := h (k, d) (List.mem_cons_self ..)
    cases e
    show (kInts r).map (i :: ·) = _
    rw [kInts_all fun p hp => h p (List.mem_cons_of_mem _ hp)]; rfl
theorem Dz.keys {kvs : List (Key × DV)} {z : Zs} (d : Dz kvs z) (h : Rise z) : ∃ ns, kInts kvs = some ns ∧ srt ns = zK z := by
  refine ⟨_, kInts_all fun p hp => ?_, (srt_unique ?_ (h.keys.imp fun q => Int.le_of_lt q)).symm⟩
  · obtain ⟨q, _, rfl⟩ := List.mem_map.mp (d.mem_iff.mp hp)
    exact ⟨q.1, rfl⟩
  · have e := (d.map fun p => kI p.1).symm
    have a : (zE z).map (fun p => kI p.1) = zK z := by
      unfold zE zK
      rw [List.map_map]; rfl
    rwa [a] at e

theorem aCons_at {f : DEx} {g : DAx} {env : En} {x : DV} {xs : List DV} {hp hp1 hp2 : Hs} (h : f env hp = some (x, hp1)) (h' : g env hp1 = some (xs, hp2)) : aCons f g env hp = some (x :: xs, hp2) := by
  unfold aCons; rw [bind_at h, bind_at h']; rfl
theorem eCall4 {F : List DV → M DV} {f f' f'' f3 : DEx} {env : En} {x y z u d : DV} (h : f env = pure x) (h' : f' env = pure y) (h'' : f'' env = pure z) (h3 : f3 env = pure u) (hF : F [x, y, z, u] = pure d) : eCall 4 F (aCons f (aCons f' (aCons f'' (aCons f3 aNil)))) env = pure d := by simp [eCall, aCons, aNil, h, h', h'', h3, guardM, hF]
theorem refilled_ev (l : Int) (ks ps : List Int) (hi sd : Option Int) (a b : DV) : F_refilled [pageD l ks ps hi sd, a, b] = pure (.tup [.int l, a, b, opt hi, opt sd]) := rfl
theorem cell_ev (ns : List Int) (k : Nat) : F_law_cell_at [.lst (ns.map .int), .int (k : Int)] = pure (.int (ns.getD k 0)) := by
  refine runF_rt (env := [.val (.lst (ns.map .int)), .val (.int (k : Int))]) ?_
  have t : eB (eBin ltD (eVar 1) (eBlt lenF (aCons (eVar 0) aNil))) [.val (.lst (ns.map .int)), .val (.int (k : Int))] = pure (decide ((k : Int) < ns.length)) := by
    refine eB_eq (eBin_eq (x := .int k) (y := .int ns.length) rfl ?_ rfl)
    show (pure (DV.int ((ns.map DV.int).length : Int)) : M DV) = _
    rw [List.length_map]
  by_cases h : k < ns.length
  · have a := atI_int ns (i := (k : Int)) (by omega) (by omega)
    rw [Int.toNat_natCast] at a
    exact sSeq_rt ((sIf_t (t.trans (by rw [decide_eq_true (by omega)]))).trans (sRet_eq (eBin_eq (x := .lst (ns.map .int)) (y := .int k) rfl rfl (ixD_lst a))))
  · rw [show ns.getD k 0 = 0 by simp [List.getD_eq_getElem?_getD, show ns[k]? = none by simp; omega]]
    exact (sSeq_nx ((sIf_f (t.trans (by rw [decide_eq_false (by omega)]))).trans rfl)).trans (sRet_eq rfl)
/-- a run of pairs put in the place of a key -/
theorem runs (ks ns : List Int) (a b : Nat) (h : ks.length ≤ 1000) (hn : ns.length ≤ 10) : (do let x ← slD (.tup (ks.map .int)) none (some (a : Int)); let y ← addD x (.tup (ns.map .int)); let d ← slD (.tup (ks.map .int)) (some (b : Int)) none; addD y d : M DV) = pure (.tup ((ks.take a ++ ns ++ ks.drop b).map .int)) := by
  rw [slD_take, slD_drop]
  simp only [pure_bind, addD]
  rw [short_ok' (by simp; omega)]
  simp only [guardM, if_true, pure_bind]
  rw [short_ok' (by simp; omega)]
  simp [List.map_take, List.map_drop]
theorem eRuns {f g h q : DEx} {env : En} {ks ns : List Int} {a b : Nat} (hf : f env = pure (.tup (ks.map .int))) (hg : g env = pure (.int (a : Int))) (hh : h env = pure (.int (b : Int))) (hq : q env = pure (.tup (ns.map .int))) (hl : ks.length ≤ 1000) (hn : ns.length ≤ 10) : eBin addD (eBin addD (eSl f oNone (oSome g)) q) (eSl f (oSome h) oNone) env = pure (.tup ((ks.take a ++ ns ++ ks.drop b).map .int)) := by
  have e1 : eSl f oNone (oSome g) env = slD (.tup (ks.map .int)) none (some (a : Int)) := by simp only [eSl, hf, hg, oNone, oSome, asI, pure_bind]
  have e2 : eSl f (oSome h) oNone env = slD (.tup (ks.map .int)) (some (b : Int)) none := by simp only [eSl, hf, hh, oNone, oSome, asI, pure_bind]
  rw [← runs ks ns a b hl hn]
  simp only [eBin, e1, e2, hq, pure_bind, bind_assoc]
theorem with_run_ev (l : Int) (ks ps nk nw : List Int) (hi sd : Option Int) (k : Int) (hl : ks.length ≤ 100) (hp : ps.length ≤ 100) (h1 : nk.length ≤ 10) (h2 : nw.length ≤ 10) : F_with_run [pageD l ks ps hi sd, .int k, .tup (nk.map .int), .tup (nw.map .int)] = pure (pageD l (ks.take (cLt ks k) ++ nk ++ ks.drop (cLe ks k)) (ps.take (cLt ks k) ++ nw ++ ps.drop (cLe ks k)) hi sd) := by
  refine runF_rt (env := [.val (pageD l ks ps hi sd), .val (.int k), .val (.tup (nk.map .int)), .val (.tup (nw.map .int)), .val (.tup (ks.map .int)), .val (.tup (ps.map .int)), .val (.int (cLt ks k : Int)), .val (.int (cLe ks k : Int))]) ?_
  refine (sSeq_nx (sSet_eq (d := .tup (ks.map .int)) rfl)).trans ?_
  refine (sSeq_nx (sSet_eq (d := .tup (ps.map .int)) rfl)).trans ?_
  refine (sSeq_nx (sSet_eq (d := .int (cLt ks k : Int)) (eCall2 (x := .tup (ks.map .int)) (y := .int k) rfl rfl (cb_ev ks k hl)))).trans ?_
  refine (sSeq_nx (sSet_eq (d := .int (cLe ks k : Int)) (eCall2 (x := .tup (ks.map .int)) (y := .int k) rfl rfl (cna_ev ks k hl)))).trans ?_
  exact sRet_eq (eCall3 (x := pageD l ks ps hi sd) rfl (eRuns rfl rfl rfl rfl (by omega) h1) (eRuns rfl rfl rfl rfl (by omega) h2) (refilled_ev l ks ps hi sd _ _))
def pageZ (z : Zs) (hi sd : Option Int) : DV := pageD 0 (zK z) (zV z) hi sd
theorem zK_len (z : Zs) : (zK z).length = z.length := List.length_map _
theorem zV_len (z : Zs) : (zV z).length = z.length := List.length_map _
theorem run_ev {z : Zs} (h : Rise z) (hl : z.length ≤ 100) (hi sd : Option Int) (k : Int) (n : Zs) (hn : n.length ≤ 10) : F_with_run [pageZ z hi sd, .int k, .tup ((zK n).map .int), .tup ((zV n).map .int)] = pure (pageZ (runZ z k n) hi sd) := by
  have e := with_run_ev 0 (zK z) (zV z) (zK n) (zV n) hi sd k (by rw [zK_len]; exact hl) (by rw [zV_len]; exact hl) (by rw [zK_len]; exact hn) (by rw [zV_len]; exact hn)
  have a : (zK z).take (cLt (zK z) k) ++ zK n ++ (zK z).drop (cLe (zK z) k) = zK (runZ z k n) := by
    unfold runZ
    rw [← take_low h, ← drop_top h]
    simp only [zK, List.map_append, List.map_take, List.map_drop]
  have b : (zV z).take (cLt (zK z) k) ++ zV n ++ (zV z).drop (cLe (zK z) k) = zV (runZ z k n) := by
    unfold runZ
    rw [← take_low h, ← drop_top h]
    simp only [zV, List.map_append, List.map_take, List.map_drop]
  rw [a, b] at e
  exact e
theorem pair_ev {z : Zs} (h : Rise z) (hl : z.length ≤ 100) (hi sd : Option Int) (k w : Int) : F_with_pair [pageZ z hi sd, .int k, .int w] = pure (pageZ (runZ z k [(k, w)]) hi sd) :=
  runF_rt (env := [.val (pageZ z hi sd), .val (.int k), .val (.int w)]) (sRet_eq (eCall4 (x := pageZ z hi sd) (y := .int k) (z := .tup [.int k]) (u := .tup [.int w]) rfl rfl rfl rfl (run_ev h hl hi sd k [(k, w)] (by simp))))
theorem cut_ev {z : Zs} (h : Rise z) (hl : z.length ≤ 100) (hi sd : Option Int) (k : Int) : F_without [pageZ z hi sd, .int k] = pure (pageZ (runZ z k []) hi sd) :=
  runF_rt (env := [.val (pageZ z hi sd), .val (.int k)]) (sRet_eq (eCall4 (x := pageZ z hi sd) (y := .int k) (z := .tup []) (u := .tup []) rfl rfl rfl rfl (run_ev h hl hi sd k [] (by simp))))
/-- the law's own leaf -/
theorem compX_two {nxt : NX} {t : DV → M Bool} {f : DV → M DV} {hp : Hs} (ds es : List DV) (he : es.length = ds.length) (hn : ∀ i, i ≤ ds.length → nxt i hp = some (ds[i]?, hp)) (ht : ∀ x, t x hp = some (true, hp)) (hf : ∀ (i : Nat) x y, ds[i]? = some x → es[i]? = some y → f x hp = some (y, hp)) (hl : ds.length < 100000) :
    compX nxt t f 100000 0 hp = some (es, hp) := by
  suffices h : ∀ (m i n : Nat), m + i = ds.length → m < n → compX nxt t f n i hp = some (es.drop i, hp) by simpa using h ds.length 0 100000 rfl hl
  intro m
  induction m with
  | zero =>
    intro i n e hn'
    obtain ⟨n, rfl⟩ : ∃ k, n = k + 1 := ⟨n - 1, by omega⟩
    obtain rfl : i = ds.length := by omega
    have e1 := hn ds.length (Nat.le_refl _)
    rw [List.getElem?_eq_none (Nat.le_refl _)] at e1
    rw [compX, bind_at e1, List.drop_of_length_le (by omega)]
    rfl
  | succ m ih =>
    intro i n e hn'
    obtain ⟨n, rfl⟩ : ∃ k, n = k + 1 := ⟨n - 1, by omega⟩
    have hlt : i < ds.length := by omega
    have e1 := hn i (by omega)
    rw [List.getElem?_eq_getElem hlt] at e1
    have q := ih (i + 1) n (by omega) (by omega)
    have f1 := hf i ds[i] (es[i]'(by omega)) (List.getElem?_eq_getElem hlt) (List.getElem?_eq_getElem (by omega))
    rw [compX, bind_at e1]
    simp only []
    rw [bind_at (ht ds[i]), List.drop_eq_getElem_cons (show i < es.length by omega)]
    simp only [if_true]
    rw [bind_at f1, bind_at q]
    rfl
theorem sort_at {kvs : List (Key × DV)} {z : Zs} (d : Dz kvs z) (h : Rise z) {f : DEx} {env : En} {n : Nat} {hp : Hs} (hf : f env hp = some (.ref n, hp)) (hn : hp[n]? = some (.dic kvs)) : eBlt sortG (aCons f aNil) env hp = some (.lst ((zK z).map .int), hp) := by
  obtain ⟨ns, e1, e2⟩ := d.keys h
  have a : aCons f aNil env hp = some ([.ref n], hp) := aCons_at hf rfl
  unfold eBlt
  rw [bind_at a]
  show (intsG (.ref n) >>= fun ns => pure (DV.lst ((srt ns).map .int))) hp = _
  have b : intsG (.ref n) hp = some (ns, hp) := by
    show (getW n >>= _) hp = _
    rw [bind_at (getW_of hn)]
    show optA (kInts kvs) hp = _
    rw [e1]; rfl
  rw [bind_at b, e2]; rfl
theorem ixG_dic {n : Nat} {hp : Hs} {kvs : List (Key × DV)} {k : Int} {d : DV} (h : hp[n]? = some (.dic kvs)) (hd : valD kvs (.inl k) = some d) : ixG (.ref n) (.int k) hp = some (d, hp) := by
  show (getW n >>= _) hp = _
  rw [bind_at (getW_of h)]
  show (keyM (.int k) >>= fun k => optM (valD kvs k)) hp = _
  rw [show keyM (.int k) = pure (.inl k) from rfl, pure_bind, hd]; rfl
theorem leaf_ev {kvs : List (Key × DV)} {z : Zs} (d : Dz kvs z) (h : Rise z) (hl : z.length ≤ 100) {hp : Hs} (hn : hp[0]? = some (.dic kvs)) (l : Int) (ks0 ps0 : List Int) (hi sd : Option Int) : F_law_leaf [.ref 0, pageD l ks0 ps0 hi sd] hp = some (pageZ z hi sd, hp) := by
  refine runF_at (env := [.val (.ref 0), .val (pageD l ks0 ps0 hi sd), .val (.lst ((zK z).map .int))]) ?_
  refine (sSeq_at (sSet_at (sort_at d h (n := 0) rfl hn))).trans ?_
  refine sRet_at ?_
  have c : eCompX false (xLs (eVar 2)) [0] tAll (eBin ixG (eVar 1) (eVar 0)) [.val (.ref 0), .val (pageD l ks0 ps0 hi sd), .val (.lst ((zK z).map .int))] hp = some (.lst ((zV z).map .int), hp) := by
    unfold eCompX
    have x : xLs (eVar 2) [.val (.ref 0), .val (pageD l ks0 ps0 hi sd), .val (.lst ((zK z).map .int))] hp = some (nxD ((zK z).map .int), hp) := rfl
    rw [bind_at x]
    have q := compX_two (nxt := nxD ((zK z).map .int)) (t := fun d => tAll (cE [0] [.val (.ref 0), .val (pageD l ks0 ps0 hi sd), .val (.lst ((zK z).map .int))] d)) (f := fun d => eBin ixG (eVar 1) (eVar 0) (cE [0] [.val (.ref 0), .val (pageD l ks0 ps0 hi sd), .val (.lst ((zK z).map .int))] d)) (hp := hp) ((zK z).map .int) ((zV z).map .int) (by simp [zK, zV]) (fun i hi => nxD_at _ i hi hp) (fun _ => rfl) (fun i x y hx hy => ?_) (by simp [zK]; omega)
    · exact (bind_at q).trans rfl
    · unfold zK at hx
      unfold zV at hy
      rw [List.map_map, List.getElem?_map] at hx hy
      obtain ⟨p, hp1, rfl⟩ := Option.map_eq_some_iff.mp hx
      obtain ⟨p', hp2, rfl⟩ := Option.map_eq_some_iff.mp hy
      rw [hp1] at hp2
      cases hp2
      exact eBin_atW (x := .ref 0) (y := .int p.1) (hp1 := hp) (hp2 := hp) rfl rfl (ixG_dic hn (d.val h (List.mem_of_getElem? hp1)))
  have tp : ∀ {f : DEx} {ds : List DV}, f [.val (.ref 0), .val (pageD l ks0 ps0 hi sd), .val (.lst ((zK z).map .int))] hp = some (.lst ds, hp) → eBlt tupW (aCons f aNil) [.val (.ref 0), .val (pageD l ks0 ps0 hi sd), .val (.lst ((zK z).map .int))] hp = some (.tup ds, hp) := fun hf => by
    unfold eBlt
    rw [bind_at (aCons_at hf rfl)]; rfl
  have a : aCons (eC (.int 0)) (aCons (eBlt tupW (aCons (eVar 2) aNil)) (aCons (eBlt tupW (aCons (eCompX false (xLs (eVar 2)) [0] tAll (eBin ixG (eVar 1) (eVar 0))) aNil)) (aCons (eBin ixG (eVar 1) (eC (.int 3))) (aCons (eBin ixG (eVar 1) (eC (.int 4))) aNil)))) [.val (.ref 0), .val (pageD l ks0 ps0 hi sd), .val (.lst ((zK z).map .int))] hp = some ([.int 0, .tup ((zK z).map .int), .tup ((zV z).map .int), opt hi, opt sd], hp) :=
    aCons_at rfl (aCons_at (tp rfl) (aCons_at (tp c) (aCons_at (eBin_atW (x := pageD l ks0 ps0 hi sd) (y := .int 3) rfl rfl rfl) (aCons_at (eBin_atW (x := pageD l ks0 ps0 hi sd) (y := .int 4) rfl rfl rfl) rfl))))
  unfold eTup
  exact (bind_at a).trans rfl
theorem same_leaf {kvs : List (Key × DV)} {z : Zs} (d : Dz kvs z) (h : Rise z) (hl : z.length ≤ 100) {hp : Hs} (hn : hp[0]? = some (.dic kvs)) {l : Int} {ks0 ps0 : List Int} {hi sd : Option Int} {env : En} (h1 : env[1]? = some (.val (pageD l ks0 ps0 hi sd))) (h2 : env[2]? = some (.val (.ref 0))) (h3 : env[3]? = some (.val (pageZ z hi sd))) :
    eCall 2 (F_law_same 6) (aCons (eVar 3) (aCons (eCall 2 F_law_leaf (aCons (eVar 2) (aCons (eVar 1) aNil))) aNil)) env hp = some (.bl true, hp) :=
  eCall2_at (x := pageZ z hi sd) (y := pageZ z hi sd) (by unfold eVar; rw [h3]; rfl) (eCall2_at (x := .ref 0) (y := pageD l ks0 ps0 hi sd) (by unfold eVar; rw [h2]; rfl) (by unfold eVar; rw [h1]; rfl) (leaf_ev d h hl hn l ks0 ps0 hi sd)) (at_of (same_refl 5 _ (sameOk_page 3 _ _ _ _ _)) hp)

theorem eqvG_nilD (ks : List Int) (hp : Hs) : eqvG (.lst (ks.map .int)) (.lst []) hp = some (decide (ks = []), hp) := by
  have e := eqvG_of (x := .lst (ks.map .int)) (y := .lst []) (y' := .lst []) (drf_lstI 38 hp ks) rfl (okP_lstI ks) (okP_lstI [])
  have q := eqvAll_ints ks []
  rw [e]
  show some (PyData.eqvAll (toPs (ks.map .int)) [], hp) = _
  rw [toPs_ints]
  exact congrArg (fun b => some (b, hp)) q
theorem eAnd_atT {a b : DTx} {env : En} {hp hp1 : Hs} (h : a env hp = some (true, hp1)) : eAnd a b env hp = b env hp1 := by unfold eAnd; rw [bind_at h]; rfl
theorem eAnd_atF {a b : DTx} {env : En} {hp hp1 : Hs} (h : a env hp = some (false, hp1)) : eAnd a b env hp = some (false, hp1) := by unfold eAnd; rw [bind_at h]; rfl
theorem worth_ev (c : Int) : ∃ w, F_law_worth [.int c] = pure (.int w) := by
  have c5 := churn_ev c 75 (by decide) (by decide)
  have c6 := churn_ev c 76 (by decide) (by decide)
  have m5 := modD_pos (churn c 75) 2 (by decide)
  have m6 := modD_pos (churn c 76) 5 (by decide)
  have mm := mulD_r c 11 (by decide) (by decide)
  have m2' := mulD_l 2 1000000000000000000000000000000 (by decide) (by decide)
  have m3 := modD_pos (c * 11 + 1000000000000000000000000000000) 2000000000000000000000000000001 (by decide)
  have t : eB (eBin eqD (eBin modD (eCall 2 F_law_churn (aCons (eVar 0) (aCons (eC (.int 75)) aNil))) (eC (.int 2))) (eC (.int 0))) [.val (.int c)] = pure (decide (churn c 75 % 2 = 0)) := by simp [runF, sSeq, sSet, sRet, sRetN, sIf, sNil, sDis, disE, sAcc, sApp, eBin, eVar, eC, eB, asB, eAnd, eOr, eNot, eAndV, eOrV, eNotV, eIf, eNeg, aNil, aCons, eTup, eLst, eCall, eBlt, guardM, gN, addD_int, subD_int, gtD_int, ltD_int, leD_int, geD_int, negD_int, pow30, pow21, pow9, eqD_int, neD_int, c5, m5]; congr 1
  by_cases h : churn c 75 % 2 = 0
  · refine ⟨churn c 76 % 5 - 2, runF_rt (env := [.val (.int c)]) (sSeq_rt ((sIf_t (t.trans (by rw [decide_eq_true h]))).trans (sRet_eq ?_)))⟩
    simp [runF, sSeq, sSet, sRet, sRetN, sIf, sNil, sDis, disE, sAcc, sApp, eBin, eVar, eC, eB, asB, eAnd, eOr, eNot, eAndV, eOrV, eNotV, eIf, eNeg, aNil, aCons, eTup, eLst, eCall, eBlt, guardM, gN, addD_int, subD_int, gtD_int, ltD_int, leD_int, geD_int, negD_int, pow30, pow21, pow9, eqD_int, neD_int, c6, m6]
  · refine ⟨(c * 11 + 1000000000000000000000000000000) % 2000000000000000000000000000001 - 1000000000000000000000000000000, runF_rt (env := [.val (.int c)]) ((sSeq_nx ((sIf_f (t.trans (by rw [decide_eq_false h]))).trans rfl)).trans (sRet_eq ?_))⟩
    simp [runF, sSeq, sSet, sRet, sRetN, sIf, sNil, sDis, disE, sAcc, sApp, eBin, eVar, eC, eB, asB, eAnd, eOr, eNot, eAndV, eOrV, eNotV, eIf, eNeg, aNil, aCons, eTup, eLst, eCall, eBlt, guardM, gN, addD_int, subD_int, gtD_int, ltD_int, leD_int, geD_int, negD_int, pow30, pow21, pow9, eqD_int, neD_int, mm, m2', m3]
theorem key_ev (c : Int) {kvs : List (Key × DV)} {z : Zs} (d : Dz kvs z) (h : Rise z) (l : Int) (ks0 ps0 : List Int) (hi sd : Option Int) {hp : Hs} (hn : hp[0]? = some (.dic kvs)) : ∃ k, F_law_key [.int c, .ref 0, pageD l ks0 ps0 hi sd] hp = some (.int k, hp) := by
  have c0 := churn_ev c 70 (by decide) (by decide)
  have c1 := churn_ev c 71 (by decide) (by decide)
  have c2 := churn_ev c 72 (by decide) (by decide)
  have c3 := churn_ev c 73 (by decide) (by decide)
  have c4 := churn_ev c 74 (by decide) (by decide)
  have m0 := modD_pos (churn c 70) 4 (by decide)
  have m0' := modD_pos (churn c 70) 2 (by decide)
  have m2 := modD_pos (churn c 72) 4 (by decide)
  have m4 := modD_pos (churn c 74) 9 (by decide)
  have m5 := modD_pos (churn c 73) 30 (by decide)
  have mm := mulD_r c 7 (by decide) (by decide)
  have m2' := mulD_l 2 1000000000000000000000000000000 (by decide) (by decide)
  have m3 := modD_pos (c * 7 + 1000000000000000000000000000000) 2000000000000000000000000000001 (by decide)
  generalize hP : pageD l ks0 ps0 hi sd = P
  have PX : ∀ hp, ixG P (.int 3) hp = some (opt hi, hp) := fun hp => by rw [← hP]; rfl
  have s0 := sSet_at (i := 3) (env := [.val (.int c), .val (.ref 0), .val P, .un, .un]) (sort_at d h (f := eVar 1) (n := 0) rfl hn)
  generalize zK z = ks at s0
  -- the first
  obtain ⟨k1, s1⟩ : ∃ k1, sSet 4 (eBin subD (eBin modD (eBin addD (eBin mulD (eVar 0) (eC (.int 7))) (eBin powD (eC (.int 10)) (eC (.int 30)))) (eBin addD (eBin mulD (eC (.int 2)) (eBin powD (eC (.int 10)) (eC (.int 30)))) (eC (.int 1)))) (eBin powD (eC (.int 10)) (eC (.int 30)))) [.val (.int c), .val (.ref 0), .val P, .val (.lst (ks.map .int)), .un] = pure (.nx, [.val (.int c), .val (.ref 0), .val P, .val (.lst (ks.map .int)), .val (.int k1)]) := ⟨_, sSet_eq (d := .int ((c * 7 + 1000000000000000000000000000000) % 2000000000000000000000000000001 - 1000000000000000000000000000000)) (by simp [runF, sSeq, sSet, sRet, sRetN, sIf, sNil, sDis, disE, sAcc, sApp, eBin, eVar, eC, eB, asB, eAnd, eOr, eNot, eAndV, eOrV, eNotV, eIf, eNeg, aNil, aCons, eTup, eLst, eCall, eBlt, guardM, gN, addD_int, subD_int, gtD_int, ltD_int, leD_int, geD_int, negD_int, pow30, pow21, pow9, eqD_int, neD_int, mm, m2', m3])⟩
  -- the second
  obtain ⟨k2, s2⟩ : ∃ k2, sIf (eAnd (eB (eBin neG (eVar 3) (eLst aNil))) (eB (eBin gtD (eBin modD (eCall 2 F_law_churn (aCons (eVar 0) (aCons (eC (.int 70)) aNil))) (eC (.int 4))) (eC (.int 0))))) (sSet 4 (eBin addD (eBin ixG (eVar 3) (eBin modD (eCall 2 F_law_churn (aCons (eVar 0) (aCons (eC (.int 71)) aNil))) (eBlt lenG (aCons (eVar 3) aNil)))) (eBin ixG (eLst (aCons (eC (.int 0)) (aCons (eC (.int 0)) (aCons (eC (.int 1)) (aCons (eNeg (eC (.int 1))) aNil))))) (eBin modD (eCall 2 F_law_churn (aCons (eVar 0) (aCons (eC (.int 72)) aNil))) (eC (.int 4)))))) (sIf (eB (eBin eqG (eBin modD (eCall 2 F_law_churn (aCons (eVar 0) (aCons (eC (.int 70)) aNil))) (eC (.int 2))) (eC (.int 0)))) (sSet 4 (eBin subD (eBin modD (eCall 2 F_law_churn (aCons (eVar 0) (aCons (eC (.int 73)) aNil))) (eC (.int 30))) (eC (.int 12)))) sNil) [.val (.int c), .val (.ref 0), .val P, .val (.lst (ks.map .int)), .val (.int k1)] hp = some ((.nx, [.val (.int c), .val (.ref 0), .val P, .val (.lst (ks.map .int)), .val (.int k2)]), hp) := by
    have t1 : eB (eBin neG (eVar 3) (eLst aNil)) [.val (.int c), .val (.ref 0), .val P, .val (.lst (ks.map .int)), .val (.int k1)] hp = some (!decide (ks = []), hp) := by
      refine eB_at (eBin_atW (x := .lst (ks.map .int)) (y := .lst []) (hp1 := hp) (hp2 := hp) rfl rfl ?_)
      show (eqvG (.lst (ks.map .int)) (.lst []) >>= fun b => pure (DV.bl (!b))) hp = _
      rw [bind_at (eqvG_nilD ks hp)]; rfl
    have other : ∃ k2, sIf (eB (eBin eqG (eBin modD (eCall 2 F_law_churn (aCons (eVar 0) (aCons (eC (.int 70)) aNil))) (eC (.int 2))) (eC (.int 0)))) (sSet 4 (eBin subD (eBin modD (eCall 2 F_law_churn (aCons (eVar 0) (aCons (eC (.int 73)) aNil))) (eC (.int 30))) (eC (.int 12)))) sNil [.val (.int c), .val (.ref 0), .val P, .val (.lst (ks.map .int)), .val (.int k1)] hp = some ((.nx, [.val (.int c), .val (.ref 0), .val P, .val (.lst (ks.map .int)), .val (.int k2)]), hp) := by
      have u : eB (eBin eqG (eBin modD (eCall 2 F_law_churn (aCons (eVar 0) (aCons (eC (.int 70)) aNil))) (eC (.int 2))) (eC (.int 0))) [.val (.int c), .val (.ref 0), .val P, .val (.lst (ks.map .int)), .val (.int k1)] hp = some (churn c 70 % 2 == 0, hp) := by
        refine eB_at (eBin_atW (x := .int (churn c 70 % 2)) (y := .int 0) (hp1 := hp) (hp2 := hp) (at_of (eBin_eq (x := .int (churn c 70)) (y := .int 2) (eCall2 (x := .int c) (y := .int 70) rfl rfl c0) rfl m0') hp) rfl ?_)
        show (eqvG (.int (churn c 70 % 2)) (.int 0) >>= fun b => pure (DV.bl b)) hp = _
        rw [bind_at (eqvG_int _ _ hp)]; rfl
      cases hb : churn c 70 % 2 == 0 with
      | true =>
        rw [hb] at u
        have e : eBin subD (eBin modD (eCall 2 F_law_churn (aCons (eVar 0) (aCons (eC (.int 73)) aNil))) (eC (.int 30))) (eC (.int 12)) [.val (.int c), .val (.ref 0), .val P, .val (.lst (ks.map .int)), .val (.int k1)] = pure (.int (churn c 73 % 30 - 12)) := by simp [runF, sSeq, sSet, sRet, sRetN, sIf, sNil, sDis, disE, sAcc, sApp, eBin, eVar, eC, eB, asB, eAnd, eOr, eNot, eAndV, eOrV, eNotV, eIf, eNeg, aNil, aCons, eTup, eLst, eCall, eBlt, guardM, gN, addD_int, subD_int, gtD_int, ltD_int, leD_int, geD_int, negD_int, pow30, pow21, pow9, eqD_int, neD_int, c3, m5]
        exact ⟨churn c 73 % 30 - 12, (sIf_at u).trans ((if_pos rfl).trans (sSet_at (at_of e hp)))⟩
      | false =>
        rw [hb] at u
        exact ⟨k1, (sIf_at u).trans rfl⟩
    by_cases hk : ks = []
    · obtain ⟨k2, e⟩ := other
      exact ⟨k2, (sIf_at (eAnd_atF (t1.trans (by rw [decide_eq_true hk]; rfl)))).trans ((if_neg (by decide)).trans e)⟩
    · have t2 : eB (eBin gtD (eBin modD (eCall 2 F_law_churn (aCons (eVar 0) (aCons (eC (.int 70)) aNil))) (eC (.int 4))) (eC (.int 0))) [.val (.int c), .val (.ref 0), .val P, .val (.lst (ks.map .int)), .val (.int k1)] = pure (decide (0 < churn c 70 % 4)) := by simp [runF, sSeq, sSet, sRet, sRetN, sIf, sNil, sDis, disE, sAcc, sApp, eBin, eVar, eC, eB, asB, eAnd, eOr, eNot, eAndV, eOrV, eNotV, eIf, eNeg, aNil, aCons, eTup, eLst, eCall, eBlt, guardM, gN, addD_int, subD_int, gtD_int, ltD_int, leD_int, geD_int, negD_int, pow30, pow21, pow9, eqD_int, neD_int, c0, m0]
      have tt := (eAnd_atT (b := eB (eBin gtD (eBin modD (eCall 2 F_law_churn (aCons (eVar 0) (aCons (eC (.int 70)) aNil))) (eC (.int 4))) (eC (.int 0)))) (t1.trans (by rw [decide_eq_false hk]; rfl))).trans (at_of t2 hp)
      by_cases hc : 0 < churn c 70 % 4
      · have hl : 0 < ks.length := List.length_pos_iff.mpr hk
        have r1 := mod_rng (churn c 71) ks.length (by omega)
        have a := atI_int ks r1.1 r1.2
        obtain ⟨d, ed, hd⟩ := ix4 (.int 0) (.int 0) (.int 1) (.int (-1)) (churn c 72 % 4) (mod_rng _ _ (by decide))
        have hdi : ∃ y : Int, d = .int y := by rcases hd with rfl | rfl | rfl | rfl <;> exact ⟨_, rfl⟩
        obtain ⟨y, rfl⟩ := hdi
        refine ⟨ks.getD (churn c 71 % ks.length).toNat 0 + y, (sIf_at (tt.trans (by rw [decide_eq_true hc]))).trans ?_⟩
        rw [if_pos rfl]
        have ln : eBlt lenG (aCons (eVar 3) aNil) [.val (.int c), .val (.ref 0), .val P, .val (.lst (ks.map .int)), .val (.int k1)] hp = some (.int ks.length, hp) := by
          show some (DV.int ((ks.map DV.int).length : Int), hp) = _
          rw [List.length_map]
        refine (sSet_at (d := .int (ks.getD (churn c 71 % ks.length).toNat 0 + y)) (hp1 := hp) (eBin_atW (x := .int (ks.getD (churn c 71 % ks.length).toNat 0)) (y := .int y) (hp1 := hp) (hp2 := hp) ?_ ?_ rfl)).trans rfl
        · refine eBin_atW (x := .lst (ks.map .int)) (y := .int (churn c 71 % ks.length)) (hp1 := hp) (hp2 := hp) rfl ?_ (at_of (ixD_lst a) hp)
          exact eBin_atW (x := .int (churn c 71)) (y := .int ks.length) (hp1 := hp) (hp2 := hp) (at_of (eCall2 (x := .int c) (y := .int 71) rfl rfl c1) hp) ln (at_of (modD_pos _ _ (by omega)) hp)
        · exact eBin_atW (x := .lst [.int 0, .int 0, .int 1, .int (-1)]) (y := .int (churn c 72 % 4)) (hp1 := hp) (hp2 := hp) rfl (at_of (eBin_eq (x := .int (churn c 72)) (y := .int 4) (eCall2 (x := .int c) (y := .int 72) rfl rfl c2) rfl m2) hp) (at_of ed hp)
      · obtain ⟨k2, e⟩ := other
        exact ⟨k2, (sIf_at (tt.trans (by rw [decide_eq_false hc]))).trans ((if_neg (by decide)).trans e)⟩
  -- the third
  obtain ⟨k3, s3⟩ : ∃ k3, sSet 4 (eBlt maxF (aCons (eNeg (eBin powD (eC (.int 10)) (eC (.int 30)))) (aCons (eBlt minF (aCons (eBin powD (eC (.int 10)) (eC (.int 30))) (aCons (eVar 4) aNil))) aNil))) [.val (.int c), .val (.ref 0), .val P, .val (.lst (ks.map .int)), .val (.int k2)] = pure (.nx, [.val (.int c), .val (.ref 0), .val P, .val (.lst (ks.map .int)), .val (.int k3)]) := ⟨_, rfl⟩
  -- the fourth
  obtain ⟨k4, s4⟩ : ∃ k4, sIf (eAnd (eB (eBin isnD (eBin ixG (eVar 2) (eC (.int 3))) (eC .non))) (eB (eBin geD (eVar 4) (eBin ixG (eVar 2) (eC (.int 3)))))) (sSet 4 (eBlt maxF (aCons (eNeg (eBin powD (eC (.int 10)) (eC (.int 30)))) (aCons (eBin subD (eBin subD (eBin ixG (eVar 2) (eC (.int 3))) (eC (.int 1))) (eBin modD (eCall 2 F_law_churn (aCons (eVar 0) (aCons (eC (.int 74)) aNil))) (eC (.int 9)))) aNil)))) sNil [.val (.int c), .val (.ref 0), .val P, .val (.lst (ks.map .int)), .val (.int k3)] hp = some ((.nx, [.val (.int c), .val (.ref 0), .val P, .val (.lst (ks.map .int)), .val (.int k4)]), hp) := by
    have e3 : eBin ixG (eVar 2) (eC (.int 3)) [.val (.int c), .val (.ref 0), .val P, .val (.lst (ks.map .int)), .val (.int k3)] hp = some (opt hi, hp) := eBin_atW rfl rfl (PX hp)
    cases hi with
    | none => exact ⟨k3, (sIf_at (eAnd_atF (hp1 := hp) (eB_at (eBin_atW (x := opt none) (y := .non) (hp1 := hp) (hp2 := hp) e3 rfl rfl)))).trans rfl⟩
    | some b =>
      have tt := (eAnd_atT (a := eB (eBin isnD (eBin ixG (eVar 2) (eC (.int 3))) (eC .non))) (b := eB (eBin geD (eVar 4) (eBin ixG (eVar 2) (eC (.int 3))))) (hp1 := hp) (eB_at (eBin_atW (x := opt (some b)) (y := .non) (hp1 := hp) (hp2 := hp) e3 rfl rfl))).trans (eB_at (eBin_atW (x := .int k3) (y := .int b) (hp1 := hp) (hp2 := hp) rfl e3 rfl))
      by_cases hb : b ≤ k3
      · refine ⟨if b - 1 - churn c 74 % 9 > -1000000000000000000000000000000 then b - 1 - churn c 74 % 9 else -1000000000000000000000000000000, (sIf_at (tt.trans (by rw [decide_eq_true hb]))).trans ?_⟩
        rw [if_pos rfl]
        have e5 : eBin modD (eCall 2 F_law_churn (aCons (eVar 0) (aCons (eC (.int 74)) aNil))) (eC (.int 9)) [.val (.int c), .val (.ref 0), .val P, .val (.lst (ks.map .int)), .val (.int k3)] hp = some (.int (churn c 74 % 9), hp) := at_of (eBin_eq (x := .int (churn c 74)) (y := .int 9) (eCall2 (x := .int c) (y := .int 74) rfl rfl c4) rfl m4) hp
        have e6 : eBin subD (eBin subD (eBin ixG (eVar 2) (eC (.int 3))) (eC (.int 1))) (eBin modD (eCall 2 F_law_churn (aCons (eVar 0) (aCons (eC (.int 74)) aNil))) (eC (.int 9))) [.val (.int c), .val (.ref 0), .val P, .val (.lst (ks.map .int)), .val (.int k3)] hp = some (.int (b - 1 - churn c 74 % 9), hp) := eBin_atW (x := .int (b - 1)) (eBin_atW (x := .int b) (y := .int 1) e3 rfl rfl) e5 rfl
        refine (sSet_at (hp1 := hp) ?_).trans rfl
        have e7 : aCons (eNeg (eBin powD (eC (.int 10)) (eC (.int 30)))) (aCons (eBin subD (eBin subD (eBin ixG (eVar 2) (eC (.int 3))) (eC (.int 1))) (eBin modD (eCall 2 F_law_churn (aCons (eVar 0) (aCons (eC (.int 74)) aNil))) (eC (.int 9)))) aNil) [.val (.int c), .val (.ref 0), .val P, .val (.lst (ks.map .int)), .val (.int k3)] hp = some ([.int (-1000000000000000000000000000000), .int (b - 1 - churn c 74 % 9)], hp) := aCons_at (hp1 := hp) rfl (aCons_at e6 rfl)
        unfold eBlt
        rw [bind_at e7]
        rfl
      · exact ⟨k3, (sIf_at (tt.trans (by rw [decide_eq_false hb]))).trans rfl⟩
  refine ⟨k4, runF_at (env := [.val (.int c), .val (.ref 0), .val P, .val (.lst (ks.map .int)), .val (.int k4)]) ?_⟩
  exact (sSeq_at s0).trans ((sSeq_at (at_of s1 hp)).trans ((sSeq_at s2).trans ((sSeq_at (at_of s3 hp)).trans ((sSeq_at s4).trans (sRet_at rfl)))))

theorem pop_at {n : Nat} {hp : Hs} {kvs : List (Key × DV)} {k : Int} {f g : DEx} {env : En} {d : DV} (hn : hp[n]? = some (.dic kvs)) (hf : f env hp = some (.ref n, hp)) (hg : g env hp = some (.int k, hp)) (hd : valD kvs (.inl k) = some d) : eMth "dict" mDPop f (aCons g aNil) env hp = some (d, hp.set n (.dic (dropD kvs (.inl k)))) := by
  unfold eMth
  rw [bind_at hf]
  have e : kindG "dict" (.ref n) hp = some ((), hp) := by
    show (getW n >>= _) hp = _
    rw [bind_at (getW_of hn)]; rfl
  rw [bind_at e, bind_at (aCons_at hg rfl)]
  show (getW n >>= _) hp = _
  rw [bind_at (getW_of hn)]
  show (keyM (.int k) >>= _) hp = _
  rw [show keyM (.int k) = pure (.inl k) from rfl, pure_bind, hd]
  rfl
theorem pop2_at {n : Nat} {hp : Hs} {kvs : List (Key × DV)} {k : Int} {f g q : DEx} {env : En} {y : DV} (hn : hp[n]? = some (.dic kvs)) (hf : f env hp = some (.ref n, hp)) (hg : g env hp = some (.int k, hp)) (hq : q env hp = some (y, hp)) : ∃ d, eMth "dict" mDPop f (aCons g (aCons q aNil)) env hp = some (d, hp.set n (.dic (dropD kvs (.inl k)))) := by
  unfold eMth
  rw [bind_at hf]
  have e : kindG "dict" (.ref n) hp = some ((), hp) := by
    show (getW n >>= _) hp = _
    rw [bind_at (getW_of hn)]; rfl
  rw [bind_at e, bind_at (aCons_at hg (aCons_at hq rfl))]
  show ∃ d, (getW n >>= _) hp = _
  rw [bind_at (getW_of hn)]
  show ∃ d, (keyM (.int k) >>= _) hp = _
  rw [show keyM (.int k) = pure (.inl k) from rfl, pure_bind]
  cases hv : valD kvs (.inl k) with
  | some d => exact ⟨d, rfl⟩
  | none =>
    refine ⟨y, ?_⟩
    have b : dropD kvs (.inl k) = kvs := by
      unfold dropD
      rw [List.filter_eq_self]
      intro x hx
      have a := valD_any kvs (.inl k)
      rw [hv] at a
      have : ¬ x.1 = (Sum.inl k : Key) := fun e => by
        have := (List.any_eq_true (p := fun kv : Key × DV => decide (kv.1 = (Sum.inl k : Key)))).mpr ⟨x, hx, decide_eq_true e⟩
        rw [a] at this; cases this
      simpa using this
    rw [b]
    have s : hp.set n (.dic kvs) = hp := by
      obtain ⟨h1, h2⟩ := List.getElem?_eq_some_iff.mp hn
      rw [← h2]; exact List.set_getElem_self h1
    rw [s]; rfl
theorem rise1 (k w : Int) : Rise [(k, w)] := List.pairwise_singleton _ _
/-- a pair put or cut -/
theorem turnA (S : DV) (c : Int) {kvs : List (Key × DV)} {z : Zs} (d : Dz kvs z) (h : Rise z) (hl : z.length ≤ 90) (ks0 ps0 : List Int) (hi sd : Option Int) (z5 z6 z7 z8 : Sl) : ∃ kvs' z' y7, l_law_2 [.val S, .val (pageD 0 ks0 ps0 hi sd), .val (.ref 0), .val (pageZ z hi sd), .val (.int c), z5, z6, z7, z8] [.dic kvs] = some ((.nx, [.val S, .val (pageD 0 ks0 ps0 hi sd), .val (.ref 0), .val (pageZ z' hi sd), .val (.int c), z5, z6, y7, z8]), [.dic kvs']) ∧ Dz kvs' z' ∧ Rise z' ∧ z'.length ≤ z.length + 1 := by
  have c7 := churn_ev c 77 (by decide) (by decide)
  have m7 := modD_pos (churn c 77) 5 (by decide)
  have dl := d.len
  obtain ⟨k, ek⟩ := key_ev c d h 0 ks0 ps0 hi sd (hp := [.dic kvs]) rfl
  obtain ⟨w, ew⟩ := worth_ev c
  have s1 : sSet 7 (eCall 3 F_law_key (aCons (eVar 4) (aCons (eVar 2) (aCons (eVar 1) aNil)))) [.val S, .val (pageD 0 ks0 ps0 hi sd), .val (.ref 0), .val (pageZ z hi sd), .val (.int c), z5, z6, z7, z8] [.dic kvs] = some ((.nx, [.val S, .val (pageD 0 ks0 ps0 hi sd), .val (.ref 0), .val (pageZ z hi sd), .val (.int c), z5, z6, .val (.int k), z8]), [.dic kvs]) :=
    sSet_at (eCall3_at (x := .int c) (y := .ref 0) (z := pageD 0 ks0 ps0 hi sd) rfl rfl rfl ek)
  have t : eB (eBin ltD (eBin modD (eCall 2 F_law_churn (aCons (eVar 4) (aCons (eC (.int 77)) aNil))) (eC (.int 5))) (eC (.int 3))) [.val S, .val (pageD 0 ks0 ps0 hi sd), .val (.ref 0), .val (pageZ z hi sd), .val (.int c), z5, z6, .val (.int k), z8] = pure (decide (churn c 77 % 5 < 3)) := by simp [runF, sSeq, sSet, sRet, sRetN, sIf, sNil, sDis, disE, sAcc, sApp, eBin, eVar, eC, eB, asB, eAnd, eOr, eNot, eAndV, eOrV, eNotV, eIf, eNeg, aNil, aCons, eTup, eLst, eCall, eBlt, guardM, gN, addD_int, subD_int, gtD_int, ltD_int, leD_int, geD_int, negD_int, pow30, pow21, pow9, eqD_int, neD_int, c7, m7]
  -- the end of a turn
  have fin : ∀ (kvs' : List (Key × DV)) (z' : Zs), Dz kvs' z' → Rise z' → z'.length ≤ 100 → sIf (eNot (eB (eCall 2 (F_law_same 6) (aCons (eVar 3) (aCons (eCall 2 F_law_leaf (aCons (eVar 2) (aCons (eVar 1) aNil))) aNil))))) (sRet (eC (.bl false))) sNil [.val S, .val (pageD 0 ks0 ps0 hi sd), .val (.ref 0), .val (pageZ z' hi sd), .val (.int c), z5, z6, .val (.int k), z8] [.dic kvs'] = some ((.nx, [.val S, .val (pageD 0 ks0 ps0 hi sd), .val (.ref 0), .val (pageZ z' hi sd), .val (.int c), z5, z6, .val (.int k), z8]), [.dic kvs']) := fun kvs' z' d' h' l' =>
    (sIf_at (b := false) (hp1 := [.dic kvs']) (eNot_at (b := true) (eB_at (same_leaf d' h' l' (hp := [.dic kvs']) rfl rfl rfl rfl)))).trans rfl
  by_cases hc : churn c 77 % 5 < 3
  · have d' := d.put h k w
    have h' := run_rise h k (rise1 k w) (by simp)
    have l' := run_len z k [(k, w)]
    have v' : valD (putD kvs (.inl k) (.int w)) (.inl k) = some (.int w) := by rw [valD_put, if_pos rfl]
    refine ⟨_, _, .val (.int k), (sSeq_at s1).trans ?_, d', h', l'⟩
    refine (sSeq_at (env1 := [.val S, .val (pageD 0 ks0 ps0 hi sd), .val (.ref 0), .val (pageZ (runZ z k [(k, w)]) hi sd), .val (.int c), z5, z6, .val (.int k), z8]) (hp1 := [.dic (putD kvs (.inl k) (.int w))]) ((sIf_at (at_of (t.trans (by rw [decide_eq_true hc])) _)).trans ((if_pos rfl).trans ?_))).trans (fin _ _ d' h' (by simp at l'; omega))
    refine (sSeq_at (env1 := [.val S, .val (pageD 0 ks0 ps0 hi sd), .val (.ref 0), .val (pageZ z hi sd), .val (.int c), z5, z6, .val (.int k), z8]) (hp1 := [.dic (putD kvs (.inl k) (.int w))]) (sAsg_at (d := .int w) (hp1 := [.dic kvs]) (eCall1_at (x := .int c) rfl (at_of ew _)) ?_)).trans ?_
    · have e := putG_dic (n := 0) (hp := [.dic kvs]) (i := .int k) (d := .int w) (k := .inl k) rfl rfl (by omega)
      show (putG (.ref 0) (.int k) (.int w) >>= fun _ => pure _) [.dic kvs] = _
      rw [bind_at e]; rfl
    · exact sSet_at (eCall3_at (x := pageZ z hi sd) (y := .int k) (z := .int w) rfl rfl (eBin_atW (x := .ref 0) (y := .int k) (hp1 := [.dic (putD kvs (.inl k) (.int w))]) (hp2 := [.dic (putD kvs (.inl k) (.int w))]) rfl rfl (ixG_dic rfl v')) (at_of (pair_ev h (by omega) hi sd k w) _))
  · have d' := d.drop k
    have h' := run_rise h k (n := []) List.Pairwise.nil (by simp)
    have l' := run_len z k []
    refine ⟨_, _, .val (.int k), (sSeq_at s1).trans ?_, d', h', by simp at l'; omega⟩
    refine (sSeq_at (env1 := [.val S, .val (pageD 0 ks0 ps0 hi sd), .val (.ref 0), .val (pageZ (runZ z k []) hi sd), .val (.int c), z5, z6, .val (.int k), z8]) (hp1 := [.dic (dropD kvs (.inl k))]) ((sIf_at (at_of (t.trans (by rw [decide_eq_false hc])) _)).trans ((if_neg (by decide)).trans ?_))).trans (fin _ _ d' h' (by simp at l'; omega))
    obtain ⟨x, ex⟩ := pop2_at (n := 0) (hp := [.dic kvs]) (k := k) (f := eVar 2) (g := eVar 7) (q := eC (.int 0)) (env := [.val S, .val (pageD 0 ks0 ps0 hi sd), .val (.ref 0), .val (pageZ z hi sd), .val (.int c), z5, z6, .val (.int k), z8]) rfl rfl rfl rfl
    exact (sSeq_at (sDrop_at ex)).trans (sSet_at (eCall2_at (x := pageZ z hi sd) (y := .int k) rfl rfl (at_of (cut_ev h (by omega) hi sd k) _)))
/-- a key cut at the end -/
theorem turnB (S A B : DV) {kvs : List (Key × DV)} {z : Zs} (d : Dz kvs z) (h : Rise z) (hl : z.length ≤ 90) (ks0 ps0 : List Int) (hi sd : Option Int) (z4 z8 : Sl) {k : Int} (hk : k ∈ zK z) : l_law_1 [.val S, .val (pageD 0 ks0 ps0 hi sd), .val (.ref 0), .val (pageZ z hi sd), z4, .val A, .val B, .val (.int k), z8] [.dic kvs] = some ((.nx, [.val S, .val (pageD 0 ks0 ps0 hi sd), .val (.ref 0), .val (pageZ (runZ z k []) hi sd), z4, .val A, .val B, .val (.int k), z8]), [.dic (dropD kvs (.inl k))]) := by
  obtain ⟨⟨k', w⟩, hm, rfl⟩ := List.mem_map.mp hk
  have d' := d.drop k'
  have h' := run_rise h k' (n := []) List.Pairwise.nil (by simp)
  have l' := run_len z k' []
  refine (sSeq_at (sSet_at (eCall2_at (x := pageZ z hi sd) (y := .int k') rfl rfl (at_of (cut_ev h (by omega) hi sd k') _)))).trans ?_
  refine (sSeq_at (sDrop_at (pop_at (n := 0) (hp := [.dic kvs]) (k := k') rfl rfl rfl (d.val h hm)))).trans ?_
  exact (sIf_at (b := false) (hp1 := [.dic (dropD kvs (.inl k'))]) (eNot_at (b := true) (eB_at (same_leaf d' h' (by simp at l'; omega) (hp := [.dic (dropD kvs (.inl k'))]) rfl rfl rfl rfl)))).trans rfl
theorem cut_mid (ns : List Int) (a b : Nat) (h : a ≤ b) : D.cutD (ns.map DV.int) (some (a : Int)) (some (b : Int)) = ((ns.drop a).take (b - a)).map .int := by
  unfold D.cutD
  rw [HT.sIx_nat, HT.sIx_nat, List.length_map, ← List.map_drop, ← List.map_take]
  congr 1
  rcases Nat.le_total a ns.length with q | q
  · rw [Nat.min_eq_left q]
    rcases Nat.le_total b ns.length with q2 | q2
    · rw [Nat.min_eq_left q2]
    · rw [Nat.min_eq_right q2, List.take_of_length_le (by simp), List.take_of_length_le (by simp; omega)]
  · rw [Nat.min_eq_right q, List.drop_of_length_le q, List.drop_of_length_le (Nat.le_refl _)]
    simp
theorem zipL_z : ∀ (z : Zs), zipL ((zK z).map .int) ((zV z).map .int) = z.map fun p => .tup [.int p.1, .int p.2]
  | [] => rfl
  | p :: r => by
    show DV.tup [.int p.1, .int p.2] :: zipL ((zK r).map .int) ((zV r).map .int) = _
    rw [zipL_z r]; rfl
theorem run_snoc {z : Zs} {i : Nat} {p : Int × Int} (h : Rise z) (hp : z[i]? = some p) : runZ (z.take i) p.1 [p] = z.take (i + 1) := by
  obtain ⟨hi, rfl⟩ := List.getElem?_eq_some_iff.mp hp
  have lt : ∀ x ∈ z.take i, x.1 < z[i].1 := fun x hx => by
    obtain ⟨j, hj, rfl⟩ := List.mem_iff_getElem.mp hx
    rw [List.getElem_take]
    have : j < i := by simp at hj; omega
    exact List.pairwise_iff_getElem.mp h j i (by omega) hi this
  unfold runZ
  have a : lowZ (z.take i) z[i].1 = z.take i := by
    unfold lowZ
    rw [List.filter_eq_self]
    intro x hx; simpa using lt x hx
  have b : topZ (z.take i) z[i].1 = [] := by
    unfold topZ
    rw [List.filter_eq_nil_iff]
    intro x hx
    have := lt x hx
    simp; omega
  rw [a, b, List.append_nil, List.take_succ_eq_append_getElem hi]
theorem zip_keys : ∀ {ks ps : List Int}, ps.length = ks.length → zK (ks.zip ps) = ks ∧ zV (ks.zip ps) = ps := fun {ks ps} h =>
  ⟨List.map_fst_zip (by omega), List.map_snd_zip (by omega)⟩
theorem cut_keys (z : Zs) (k : Int) : (zK (runZ z k [])).Perm ((zK z).filter fun x => decide (x ≠ k)) := by
  unfold runZ zK
  rw [List.append_nil, List.filter_map]
  exact ((parts_perm z k).symm).map _

theorem law_true (ns : List Int) (h : ns.length ≤ 63) : ∃ hp, F_law [.lst (ns.map .int)] [] = some (.bl true, hp) := by
  have ce := cell_ev ns 0
  generalize ns.getD 0 0 = c at ce
  have c2 := churn_ev c 62 (by decide) (by decide)
  have c8 := churn_ev c 78 (by decide) (by decide)
  have m2 := modD_pos (churn c 62) 9 (by decide)
  have r2 := mod_rng (churn c 62) 9 (by decide)
  obtain ⟨ks0, ps0, hi, sd, ep, hk, hs, hps, _⟩ := page_ev c 0 (churn c 62 % 9) (by omega) (by omega)
  rw [if_neg (by omega)] at hps
  obtain ⟨zk, zv⟩ := zip_keys (ks := ks0) (ps := ps0) (by omega)
  generalize hz0 : ks0.zip ps0 = z0 at zk zv
  have rz : Rise z0 := by rw [← zk] at hs; exact List.pairwise_map.mp hs
  have lz : z0.length ≤ 8 := by rw [← zK_len, zk]; omega
  let S : DV := .lst (ns.map .int)
  have hS : S = .lst (ns.map .int) := rfl
  let P := pageD 0 ks0 ps0 hi sd
  have hP : P = pageZ z0 hi sd := by show pageD 0 ks0 ps0 hi sd = pageD 0 (zK z0) (zV z0) hi sd; rw [zk, zv]
  have ec : ∀ env : En, env[0]? = some (.val S) → eCall 2 F_law_cell_at (aCons (eVar 0) (aCons (eC (.int 0)) aNil)) env = pure (.int c) := fun env he =>
    eCall2 (x := S) (y := .int 0) (by unfold eVar; rw [he]) rfl ce
  -- the dict
  have L1 : WP (forL (fun d env => gT [7, 8] d env >>= fun env' => l_law_3 env') (z0.map fun p => .tup [.int p.1, .int p.2]) [.val S, .val P, .val (.ref 0), .un, .un, .un, .un, .un, .un]) [.dic []]
      fun r w => ∃ kvs z7 z8, r = (.nx, [.val S, .val P, .val (.ref 0), .un, .un, .un, .un, z7, z8]) ∧ w = [.dic kvs] ∧ Dz kvs z0 := by
    refine WP_forL (fun i env w => ∃ kvs z7 z8, env = [.val S, .val P, .val (.ref 0), .un, .un, .un, .un, z7, z8] ∧ w = [.dic kvs] ∧ Dz kvs (z0.take i)) _ ⟨[], _, _, rfl, rfl, List.Perm.refl _⟩ (fun i d hd env w ⟨kvs, z7, z8, e, ew, q⟩ => ?_) fun env w ⟨kvs, z7, z8, e, ew, q⟩ => ⟨kvs, z7, z8, by rw [e], ew, by rw [List.length_map, List.take_length] at q; exact q⟩
    subst e ew
    rw [List.getElem?_map] at hd
    obtain ⟨p, hp, rfl⟩ := Option.map_eq_some_iff.mp hd
    have ht : Rise (z0.take i) := List.Pairwise.sublist (List.take_sublist _ _) rz
    have q' := q.put ht p.1 p.2
    rw [run_snoc rz hp] at q'
    have ql := q.len
    rw [List.length_take] at ql
    have e := putG_dic (n := 0) (hp := [.dic kvs]) (i := .int p.1) (d := .int p.2) (k := .inl p.1) rfl rfl (by omega)
    refine WP.of (x := (.nx, [.val S, .val P, .val (.ref 0), .un, .un, .un, .un, .val (.int p.1), .val (.int p.2)])) (hp' := [.dic (putD kvs (.inl p.1) (.int p.2))]) ?_ ⟨_, _, _, rfl, rfl, q'⟩
    refine Eq.trans (show _ = l_law_3 [.val S, .val P, .val (.ref 0), .un, .un, .un, .un, .val (.int p.1), .val (.int p.2)] [.dic kvs] from rfl) ?_
    refine sAsg_at (d := .int p.2) (hp1 := [.dic kvs]) rfl ?_
    show (putG (.ref 0) (.int p.1) (.int p.2) >>= fun _ => pure _) [.dic kvs] = _
    rw [bind_at e]; rfl
  obtain ⟨⟨fl1, env1⟩, w1, e1, kv1, y7, y8, q1, qw1, d1⟩ := L1
  cases q1
  subst qw1
  -- the cells
  have L2 : WP (forX (nxD ((ns.drop 1).take 60 |>.map .int)) (fun d env => gN 4 d env >>= fun env' => l_law_2 env') 100000 0 [.val S, .val P, .val (.ref 0), .val P, .un, .un, .un, y7, y8]) [.dic kv1]
      fun r w => ∃ kvs z z4 z7, r = (.nx, [.val S, .val P, .val (.ref 0), .val (pageZ z hi sd), z4, .un, .un, z7, y8]) ∧ w = [.dic kvs] ∧ Dz kvs z ∧ Rise z ∧ z.length ≤ 70 := by
    refine WP_forXD _ (fun i env w => ∃ kvs z z4 z7, env = [.val S, .val P, .val (.ref 0), .val (pageZ z hi sd), z4, .un, .un, z7, y8] ∧ w = [.dic kvs] ∧ Dz kvs z ∧ Rise z ∧ z.length ≤ 8 + i) (by simp; omega) ⟨kv1, z0, _, _, by rw [hP], rfl, d1, rz, lz⟩ (fun i d hd env w ⟨kvs, z, z4, z7, e, ew, h1, h2, h3⟩ => ?_) fun env w ⟨kvs, z, z4, z7, e, ew, h1, h2, h3⟩ => ⟨kvs, z, z4, z7, by rw [e], ew, h1, h2, by simp at h3; omega⟩
    subst e ew
    have hi60 : i < 60 := by have := (List.getElem?_eq_some_iff.mp hd).1; simp at this; omega
    obtain ⟨c', _, rfl⟩ := List.mem_map.mp (List.mem_of_getElem? hd)
    rw [gN_bind]
    obtain ⟨kvs', z', y7', e, a1, a2, a3⟩ := turnA S c' h1 h2 (by omega) ks0 ps0 hi sd .un .un z7 y8
    exact WP.of e ⟨kvs', z', _, y7', rfl, rfl, a1, a2, by omega⟩
  obtain ⟨⟨fl2, env2⟩, w2, e2, kv2, z, z4, x7, q2, qw2, d2, rz2, lz2⟩ := L2
  cases q2
  subst qw2
  -- the keys cut one after another
  have r8 := mod_rng (churn c 78) (((zK z).length : Int) + 1) (by omega)
  obtain ⟨at', ha⟩ : ∃ n : Nat, churn c 78 % (((zK z).length : Int) + 1) = (n : Int) := ⟨_, (Int.toNat_of_nonneg r8.1).symm⟩
  let rot := (zK z).drop at' ++ (zK z).take at'
  have rp : (zK z).Perm rot := by
    have := List.perm_append_comm (l₁ := (zK z).take at') (l₂ := (zK z).drop at')
    rwa [List.take_append_drop] at this
  have rn : rot.Nodup := rp.nodup_iff.mp (rz2.keys.imp fun q => Int.ne_of_lt q)
  have rl : rot.length ≤ 70 := by rw [← rp.length_eq, zK_len]; exact lz2
  have L3 : WP (forX (nxD (rot.map .int)) (fun d env => gN 7 d env >>= fun env' => l_law_1 env') 100000 0 [.val S, .val P, .val (.ref 0), .val (pageZ z hi sd), z4, .val (.lst ((zK z).map .int)), .val (.int at'), x7, y8]) [.dic kv2]
      fun r w => ∃ kvs z7, r = (.nx, [.val S, .val P, .val (.ref 0), .val (pageZ [] hi sd), z4, .val (.lst ((zK z).map .int)), .val (.int at'), z7, y8]) ∧ w = [.dic kvs] := by
    refine WP_forXD _ (fun i env w => ∃ kvs u z7, env = [.val S, .val P, .val (.ref 0), .val (pageZ u hi sd), z4, .val (.lst ((zK z).map .int)), .val (.int at'), z7, y8] ∧ w = [.dic kvs] ∧ Dz kvs u ∧ Rise u ∧ (zK u).Perm (rot.drop i)) (by simp; omega) ⟨kv2, z, _, rfl, rfl, d2, rz2, rp⟩ (fun i d hd env w ⟨kvs, u, z7, e, ew, h1, h2, h3⟩ => ?_) fun env w ⟨kvs, u, z7, e, ew, h1, h2, h3⟩ => ?_
    · subst e ew
      rw [List.getElem?_map] at hd
      obtain ⟨k, hk', rfl⟩ := Option.map_eq_some_iff.mp hd
      obtain ⟨hi', rfl⟩ := List.getElem?_eq_some_iff.mp hk'
      have sp := List.drop_eq_getElem_cons hi'
      have un : (rot.drop i).Nodup := List.Pairwise.sublist (List.drop_sublist _ _) rn
      rw [sp] at h3 un
      obtain ⟨n1, n2⟩ := List.nodup_cons.mp un
      have ul : u.length ≤ 70 := by
        have := h3.length_eq
        rw [zK_len, ← sp, List.length_drop] at this
        omega
      rw [gN_bind]
      refine WP.of (turnB S (.lst ((zK z).map .int)) (.int at') h1 h2 (by omega) ks0 ps0 hi sd z4 y8 (k := rot[i]) (h3.mem_iff.mpr (List.mem_cons_self ..))) ⟨_, _, _, rfl, rfl, h1.drop _, run_rise h2 _ (n := []) List.Pairwise.nil (by simp), (cut_keys u rot[i]).trans ((h3.filter _).trans ?_)⟩
      rw [List.filter_cons_of_neg (by simp), List.filter_eq_self.mpr]
      intro x hx
      have : x ≠ rot[i] := fun e => n1 (e ▸ hx)
      simpa using this
    · rw [List.length_map, List.drop_length] at h3
      have : u = [] := List.map_eq_nil_iff.mp (List.Perm.eq_nil h3)
      subst this
      exact ⟨kvs, z7, by rw [e], ew⟩
  obtain ⟨⟨fl3, env3⟩, w3, e3, kv3, u7, q3, qw3⟩ := L3
  cases q3
  subst qw3
  -- all in its order
  refine ⟨[.dic kv3], runF_at (env := [.val S, .val P, .val (.ref 0), .val (pageZ [] hi sd), z4, .val (.lst ((zK z).map .int)), .val (.int at'), u7, y8]) ?_⟩
  have ep' : eCall 3 F_law_page (aCons (eCall 2 F_law_cell_at (aCons (eVar 0) (aCons (eC (.int 0)) aNil))) (aCons (eC (.int 0)) (aCons (eBin modD (eCall 2 F_law_churn (aCons (eCall 2 F_law_cell_at (aCons (eVar 0) (aCons (eC (.int 0)) aNil))) (aCons (eC (.int 62)) aNil))) (eC (.int 9))) aNil))) [.val S, .un, .un, .un, .un, .un, .un, .un, .un] = pure P :=
    eCall3 (x := .int c) (y := .int 0) (z := .int (churn c 62 % 9)) (ec _ rfl) rfl (eBin_eq (x := .int (churn c 62)) (y := .int 9) (eCall2 (x := .int c) (y := .int 62) (ec _ rfl) rfl c2) rfl m2) ep
  refine (sSeq_at (sSet_at (at_of ep' []))).trans ?_
  refine (sSeq_at (env1 := [.val S, .val P, .val (.ref 0), .un, .un, .un, .un, .un, .un]) (hp1 := [.dic []]) rfl).trans ?_
  have ez : iZip (eBin ixG (eVar 1) (eC (.int 1))) (eBin ixG (eVar 1) (eC (.int 2))) [.val S, .val P, .val (.ref 0), .un, .un, .un, .un, .un, .un] [.dic []] = some (z0.map fun p => .tup [.int p.1, .int p.2], [.dic []]) := by
    rw [← zipL_z, zk, zv]; rfl
  refine (sSeq_at (env1 := [.val S, .val P, .val (.ref 0), .un, .un, .un, .un, y7, y8]) (hp1 := [.dic kv1]) (by show sFor _ _ _ [.val S, .val P, .val (.ref 0), .un, .un, .un, .un, .un, .un] _ = _; unfold sFor; rw [bind_at ez]; exact e1)).trans ?_
  refine (sSeq_at (env1 := [.val S, .val P, .val (.ref 0), .val P, .un, .un, .un, y7, y8]) (hp1 := [.dic kv1]) rfl).trans ?_
  have hc : D.cutD (ns.map DV.int) (some 1) (some 61) = ((ns.drop 1).take 60).map .int := cut_mid ns 1 61 (by decide)
  have ex : xLs (eSl (eVar 0) (oSome (eC (.int 1))) (oSome (eC (.int 61)))) [.val S, .val P, .val (.ref 0), .val P, .un, .un, .un, y7, y8] [.dic kv1] = some (nxD (((ns.drop 1).take 60).map .int), [.dic kv1]) := by
    have : eSl (eVar 0) (oSome (eC (.int 1))) (oSome (eC (.int 61))) [.val S, .val P, .val (.ref 0), .val P, .un, .un, .un, y7, y8] [.dic kv1] = some (.lst (((ns.drop 1).take 60).map .int), [.dic kv1]) := by
      show some (DV.lst (D.cutD (ns.map DV.int) (some 1) (some 61)), _) = _
      rw [hc]
    unfold xLs
    rw [bind_at this]; rfl
  refine (sSeq_at (by show sForX _ _ _ [.val S, .val P, .val (.ref 0), .val P, .un, .un, .un, y7, y8] _ = _; unfold sForX; rw [bind_at ex]; exact e2)).trans ?_
  refine (sSeq_at (sSet_at (sort_at d2 rz2 (n := 0) rfl rfl))).trans ?_
  have ln : eBin addD (eBlt lenG (aCons (eVar 5) aNil)) (eC (.int 1)) [.val S, .val P, .val (.ref 0), .val (pageZ z hi sd), z4, .val (.lst ((zK z).map .int)), .un, x7, y8] = pure (.int (((zK z).length : Int) + 1)) := by
    show (pure (DV.int ((((zK z).map DV.int).length : Int) + 1)) : M DV) = _
    rw [List.length_map]
  have ea : eBin modD (eCall 2 F_law_churn (aCons (eCall 2 F_law_cell_at (aCons (eVar 0) (aCons (eC (.int 0)) aNil))) (aCons (eC (.int 78)) aNil))) (eBin addD (eBlt lenG (aCons (eVar 5) aNil)) (eC (.int 1))) [.val S, .val P, .val (.ref 0), .val (pageZ z hi sd), z4, .val (.lst ((zK z).map .int)), .un, x7, y8] = pure (.int at') := by
    rw [← ha]
    exact eBin_eq (x := .int (churn c 78)) (y := .int (((zK z).length : Int) + 1)) (eCall2 (x := .int c) (y := .int 78) (ec _ rfl) rfl c8) ln (modD_pos _ _ (by omega))
  refine (sSeq_at (sSet_at (at_of ea _))).trans ?_
  have er : xLs (eBin addD (eSl (eVar 5) (oSome (eVar 6)) oNone) (eSl (eVar 5) oNone (oSome (eVar 6)))) [.val S, .val P, .val (.ref 0), .val (pageZ z hi sd), z4, .val (.lst ((zK z).map .int)), .val (.int at'), x7, y8] [.dic kv2] = some (nxD (rot.map .int), [.dic kv2]) := by
    have a1 : eSl (eVar 5) (oSome (eVar 6)) oNone [.val S, .val P, .val (.ref 0), .val (pageZ z hi sd), z4, .val (.lst ((zK z).map .int)), .val (.int at'), x7, y8] = pure (.lst (((zK z).drop at').map .int)) := by
      show (pure (DV.lst (D.cutD ((zK z).map DV.int) (some (at' : Int)) none)) : M DV) = _
      rw [cut_drop, List.map_drop]
    have a2 : eSl (eVar 5) oNone (oSome (eVar 6)) [.val S, .val P, .val (.ref 0), .val (pageZ z hi sd), z4, .val (.lst ((zK z).map .int)), .val (.int at'), x7, y8] = pure (.lst (((zK z).take at').map .int)) := by
      show (pure (DV.lst (D.cutD ((zK z).map DV.int) none (some (at' : Int)))) : M DV) = _
      rw [cut_take, List.map_take]
    have a3 : addD (.lst (((zK z).drop at').map .int)) (.lst (((zK z).take at').map .int)) = pure (.lst (rot.map .int)) := by
      simp only [addD]
      rw [short_ok' (by rw [← List.map_append, List.length_map]; show rot.length ≤ _; omega)]
      simp only [guardM, if_true, pure_bind, ← List.map_append]
      rfl
    unfold xLs
    rw [bind_at (at_of (eBin_eq a1 a2 a3) [.dic kv2])]; rfl
  refine (sSeq_at (by show sForX _ _ _ [.val S, .val P, .val (.ref 0), .val (pageZ z hi sd), z4, .val (.lst ((zK z).map .int)), .val (.int at'), x7, y8] _ = _; unfold sForX; rw [bind_at er]; exact e3)).trans ?_
  have eq : ∀ i, (i = 1 ∨ i = 2) → eBin eqG (eBin ixG (eVar 3) (eC (.int i))) (eTup aNil) [.val S, .val P, .val (.ref 0), .val (pageZ [] hi sd), z4, .val (.lst ((zK z).map .int)), .val (.int at'), u7, y8] [.dic kv3] = some (.bl true, [.dic kv3]) := fun i hi' => by
    refine eBin_atW (x := .tup []) (y := .tup []) (hp1 := [.dic kv3]) (hp2 := [.dic kv3]) (by rcases hi' with rfl | rfl <;> rfl) rfl ?_
    show (eqvG (.tup []) (.tup []) >>= fun b => pure (DV.bl b)) _ = _
    exact (bind_at (eqvG_tupI [] [] [.dic kv3])).trans rfl
  refine sRet_at ((eAndV_at (eq 1 (.inl rfl))).trans ?_)
  rw [if_pos rfl]
  exact eq 2 (.inr rfl)


theorem law_fn {P : Program} {w : World} {K : PySem.W.Frag} {mg : Str → Option Value} {base : Heap} {g : Addr} {fd : FuncData} (F : Fun K "law" "law" s_law g fd) (h_law_leaf : Has P w K mg base "_law_leaf" 1 2 F_law_leaf) (h_law_same : Has P w K mg base "_law_same" 6 2 (F_law_same 6)) (h_without : Has P w K mg base "without" 3 2 F_without) (h_law_cell_at : Has P w K mg base "_law_cell_at" 1 2 F_law_cell_at) (h_law_churn : Has P w K mg base "_law_churn" 1 2 F_law_churn) (h_with_pair : Has P w K mg base "with_pair" 3 3 F_with_pair) (h_law_worth : Has P w K mg base "_law_worth" 2 1 F_law_worth) (h_law_key : Has P w K mg base "_law_key" 2 3 F_law_key) (h_law_page : Has P w K mg base "_law_page" 3 3 F_law_page) (z_len : mg "len" = none) (z_sorted : mg "sorted" = none) (z_zip : mg "zip" = none) : FnOk P w K mg base CX0 7 g fd ["script"] (spD K 1 F_law) :=
  fn_ok F sc_law fun cdv A outer s H E hr => by
    have Sc := sc_law
    exact (dss_cons (ds_set 1 Sc.nd (de_call h_law_page hr (by decide) pass0 (da_cons (de_call h_law_cell_at hr (by decide) pass0 (da_cons (de_var 0) (da_cons de_int da_nil))) (da_cons de_int (da_cons (de_bin p_mod (de_call h_law_churn hr (by decide) pass0 (da_cons (de_call h_law_cell_at hr (by decide) pass0 (da_cons (de_var 0) (da_cons de_int da_nil))) (da_cons de_int da_nil))) de_int) da_nil))))) (dss_cons (ds_set 2 Sc.nd de_newD0) (dss_cons (ds_for PassesOwn.never rfl (di_zip rfl z_zip (de_ixG (hu_of hr) (de_var 1) de_int) (de_ixG (hu_of hr) (de_var 1) de_int)) (dg_tup [7, 8] Sc.nd (by repeat' (first | exact trivial | refine ⟨rfl, (by first | exact .inl rfl | exact .inr rfl), .inl rfl, ?_⟩)) rfl (fun _ _ _ => rfl)) (dss_one (ds_asg (de_var 8) (dg_sub (hu_of hr) (de_var 2) (de_var 7))))) (dss_cons (ds_set 3 Sc.nd (de_var 1)) (dss_cons (ds_forX PassesOwn.never rfl (dx_list (de_sl (de_var 0) (do_some de_int) (do_some de_int))) (dg_name 4 Sc.nd) (dss_cons (ds_set 7 Sc.nd (de_call h_law_key hr (by decide) pass0 (da_cons (de_var 4) (da_cons (de_var 2) (da_cons (de_var 1) da_nil))))) (dss_cons (ds_if (dt_cmp p_lt (de_bin p_mod (de_call h_law_churn hr (by decide) pass0 (da_cons (de_var 4) (da_cons de_int da_nil))) de_int) de_int (nomark _)) (dss_cons (ds_asg (de_call h_law_worth hr (by decide) pass0 (da_cons (de_var 4) da_nil)) (dg_sub (hu_of hr) (de_var 2) (de_var 7))) (dss_one (ds_set 3 Sc.nd (de_call h_with_pair hr (by decide) pass0 (da_cons (de_var 3) (da_cons (de_var 7) (da_cons (de_ixG (hu_of hr) (de_var 2) (de_var 7)) da_nil))))))) (dss_cons (ds_expr (de_mth m_dpop PySem.F.plainAttrs_dict PySem.F.slot_dict_pop PySem.F.type_dict_pop (de_var 2) (da_cons (de_var 7) (da_cons de_int da_nil)))) (dss_one (ds_set 3 Sc.nd (de_call h_without hr (by decide) pass0 (da_cons (de_var 3) (da_cons (de_var 7) da_nil))))))) (dss_one (ds_if (dt_not (dt_of (de_call h_law_same hr (by decide) pass0 (da_cons (de_var 3) (da_cons (de_call h_law_leaf hr (by decide) pass0 (da_cons (de_var 2) (da_cons (de_var 1) da_nil))) da_nil))))) (dss_one (ds_ret de_bl)) dss_nil))))) (dss_cons (ds_set 5 Sc.nd (de_blt (c_sortedG rfl) z_sorted boot_sorted (da_cons (de_var 2) da_nil))) (dss_cons (ds_set 6 Sc.nd (de_bin p_mod (de_call h_law_churn hr (by decide) pass0 (da_cons (de_call h_law_cell_at hr (by decide) pass0 (da_cons (de_var 0) (da_cons de_int da_nil))) (da_cons de_int da_nil))) (de_bin p_add (de_blt c_lenG z_len PySem.boot_len (da_cons (de_var 5) da_nil)) de_int))) (dss_cons (ds_forX PassesOwn.never rfl (dx_list (de_bin p_add (de_sl (de_var 5) (do_some (de_var 6)) do_none) (de_sl (de_var 5) do_none (do_some (de_var 6))))) (dg_name 7 Sc.nd) (dss_cons (ds_set 3 Sc.nd (de_call h_without hr (by decide) pass0 (da_cons (de_var 3) (da_cons (de_var 7) da_nil)))) (dss_cons (ds_expr (de_mth m_dpop PySem.F.plainAttrs_dict PySem.F.slot_dict_pop PySem.F.type_dict_pop (de_var 2) (da_cons (de_var 7) da_nil))) (dss_one (ds_if (dt_not (dt_of (de_call h_law_same hr (by decide) pass0 (da_cons (de_var 3) (da_cons (de_call h_law_leaf hr (by decide) pass0 (da_cons (de_var 2) (da_cons (de_var 1) da_nil))) da_nil))))) (dss_one (ds_ret de_bl)) dss_nil))))) (dss_one (ds_ret (de_and (de_cmp (p_eqG hr.units) (de_ixG (hu_of hr) (de_var 3) de_int) (de_tup da_nil) (nomark _)) (de_one (de_cmp (p_eqG hr.units) (de_ixG (hu_of hr) (de_var 3) de_int) (de_tup da_nil) (nomark _))))))))))))))
theorem all_mk {P : Program} {w : World} {K : PySem.W.Frag} {h : Heap} {mg : Str → Option Value} {fa f0 f1 f2 f3 f4 f5 f6 f7 f8 f9 f10 f11 f12 f13 f14 f15 : Addr} (X : K.In h) (G : h.Ns mainGlobals mg) (hfa : mg "law" = some (.ref fa))
    {od0 an0 od1 an1 od2 an2 od3 an3 od4 an4 od5 an5 od6 an6 od7 an7 od8 an8 od9 an9 od10 an10 od11 an11 od12 an12 od13 an13 od14 an14 od15 an15 : Option Addr} {sl0 sl1 sl2 sl3 sl4 sl5 sl6 sl7 sl8 sl9 sl10 sl11 sl12 sl13 sl14 sl15 : Array (Option Value)} {oc0 kV0 dc0 pm0 cd0 ct0 oc1 kV1 dc1 pm1 cd1 ct1 oc2 kV2 dc2 pm2 cd2 ct2 oc3 kV3 dc3 pm3 cd3 ct3 oc4 kV4 dc4 pm4 cd4 ct4 oc5 kV5 dc5 pm5 cd5 ct5 oc6 kV6 dc6 pm6 cd6 ct6 oc7 kV7 dc7 pm7 cd7 ct7 oc8 kV8 dc8 pm8 cd8 ct8 oc9 kV9 dc9 pm9 cd9 ct9 oc10 kV10 dc10 pm10 cd10 ct10 oc11 kV11 dc11 pm11 cd11 ct11 oc12 kV12 dc12 pm12 cd12 ct12 oc13 kV13 dc13 pm13 cd13 ct13 oc14 kV14 dc14 pm14 cd14 ct14 oc15 kV15 dc15 pm15 cd15 ct15 : Value} {t0 t1 t2 t3 t4 : Tok}
    (a0 : PySem.W.nsIn K mainGlobals "refilled" = some (some (.ref f0))) (l0 : K.lookup f0 = some ⟨oc0, od0, .func (PySem.W.fnOf "refilled" "refilled" (defArgs s_refilled) (defBody s_refilled) (defScope s_refilled) .none kV0 dc0 pm0 an0 cd0 ct0), sl0⟩) (c0 : PySem.W.codeIn K cd0 "refilled" = true) (k0 : PySem.W.keepIn K (.ref f0) = true)
    (a1 : PySem.W.nsIn K mainGlobals "count_not_above" = some (some (.ref f1))) (l1 : K.lookup f1 = some ⟨oc1, od1, .func (PySem.W.fnOf "count_not_above" "count_not_above" (defArgs s_count_not_above) (defBody s_count_not_above) (defScope s_count_not_above) .none kV1 dc1 pm1 an1 cd1 ct1), sl1⟩) (c1 : PySem.W.codeIn K cd1 "count_not_above" = true) (k1 : PySem.W.keepIn K (.ref f1) = true)
    (a2 : PySem.W.nsIn K mainGlobals "count_below" = some (some (.ref f2))) (l2 : K.lookup f2 = some ⟨oc2, od2, .func (PySem.W.fnOf "count_below" "count_below" (defArgs s_count_below) (defBody s_count_below) (defScope s_count_below) .none kV2 dc2 pm2 an2 cd2 ct2), sl2⟩) (c2 : PySem.W.codeIn K cd2 "count_below" = true) (k2 : PySem.W.keepIn K (.ref f2) = true)
    (a3 : PySem.W.nsIn K mainGlobals "with_run" = some (some (.ref f3))) (l3 : K.lookup f3 = some ⟨oc3, od3, .func (PySem.W.fnOf "with_run" "with_run" (defArgs s_with_run) (defBody s_with_run) (defScope s_with_run) .none kV3 dc3 pm3 an3 cd3 ct3), sl3⟩) (c3 : PySem.W.codeIn K cd3 "with_run" = true) (k3 : PySem.W.keepIn K (.ref f3) = true)
    (a4 : PySem.W.nsIn K mainGlobals "with_pair" = some (some (.ref f4))) (l4 : K.lookup f4 = some ⟨oc4, od4, .func (PySem.W.fnOf "with_pair" "with_pair" (defArgs s_with_pair) (defBody s_with_pair) (defScope s_with_pair) .none kV4 dc4 pm4 an4 cd4 ct4), sl4⟩) (c4 : PySem.W.codeIn K cd4 "with_pair" = true) (k4 : PySem.W.keepIn K (.ref f4) = true)
    (a5 : PySem.W.nsIn K mainGlobals "without" = some (some (.ref f5))) (l5 : K.lookup f5 = some ⟨oc5, od5, .func (PySem.W.fnOf "without" "without" (defArgs s_without) (defBody s_without) (defScope s_without) .none kV5 dc5 pm5 an5 cd5 ct5), sl5⟩) (c5 : PySem.W.codeIn K cd5 "without" = true) (k5 : PySem.W.keepIn K (.ref f5) = true)
    (a6 : PySem.W.nsIn K mainGlobals "_law_cell_at" = some (some (.ref f6))) (l6 : K.lookup f6 = some ⟨oc6, od6, .func (PySem.W.fnOf "_law_cell_at" "_law_cell_at" (defArgs s_law_cell_at) (defBody s_law_cell_at) (defScope s_law_cell_at) .none kV6 dc6 pm6 an6 cd6 ct6), sl6⟩) (c6 : PySem.W.codeIn K cd6 "_law_cell_at" = true) (k6 : PySem.W.keepIn K (.ref f6) = true)
    (a7 : PySem.W.nsIn K mainGlobals "_law_churn" = some (some (.ref f7))) (l7 : K.lookup f7 = some ⟨oc7, od7, .func (PySem.W.fnOf "_law_churn" "_law_churn" (defArgs s_law_churn) (defBody s_law_churn) (defScope s_law_churn) .none kV7 dc7 pm7 an7 cd7 ct7), sl7⟩) (c7 : PySem.W.codeIn K cd7 "_law_churn" = true) (k7 : PySem.W.keepIn K (.ref f7) = true)
    (a8 : PySem.W.nsIn K mainGlobals "_law_keys" = some (some (.ref f8))) (l8 : K.lookup f8 = some ⟨oc8, od8, .func (PySem.W.fnOf "_law_keys" "_law_keys" (defArgs s_law_keys) (defBody s_law_keys) (defScope s_law_keys) .none kV8 dc8 pm8 an8 cd8 ct8), sl8⟩) (c8 : PySem.W.codeIn K cd8 "_law_keys" = true) (k8 : PySem.W.keepIn K (.ref f8) = true)
    (a9 : PySem.W.nsIn K mainGlobals "_law_high" = some (some (.ref f9))) (l9 : K.lookup f9 = some ⟨oc9, od9, .func (PySem.W.fnOf "_law_high" "_law_high" (defArgs s_law_high) (defBody s_law_high) (defScope s_law_high) .none kV9 dc9 pm9 an9 cd9 ct9), sl9⟩) (c9 : PySem.W.codeIn K cd9 "_law_high" = true) (k9 : PySem.W.keepIn K (.ref f9) = true)
    (a10 : PySem.W.nsIn K mainGlobals "_law_page" = some (some (.ref f10))) (l10 : K.lookup f10 = some ⟨oc10, od10, .func (PySem.W.fnOf "_law_page" "_law_page" (defArgs s_law_page) (defBody s_law_page) (defScope s_law_page) .none kV10 dc10 pm10 an10 cd10 ct10), sl10⟩) (c10 : PySem.W.codeIn K cd10 "_law_page" = true) (k10 : PySem.W.keepIn K (.ref f10) = true)
    (a11 : PySem.W.nsIn K mainGlobals "_law_same" = some (some (.ref f11))) (l11 : K.lookup f11 = some ⟨oc11, od11, .func (PySem.W.fnOf "_law_same" "_law_same" (defArgs s_law_same) (defBody s_law_same) (defScope s_law_same) .none kV11 dc11 pm11 an11 cd11 ct11), sl11⟩) (c11 : PySem.W.codeIn K cd11 "_law_same" = true) (k11 : PySem.W.keepIn K (.ref f11) = true)
    (a12 : PySem.W.nsIn K mainGlobals "_law_leaf" = some (some (.ref f12))) (l12 : K.lookup f12 = some ⟨oc12, od12, .func (PySem.W.fnOf "_law_leaf" "_law_leaf" (defArgs s_law_leaf) (defBody s_law_leaf) (defScope s_law_leaf) .none kV12 dc12 pm12 an12 cd12 ct12), sl12⟩) (c12 : PySem.W.codeIn K cd12 "_law_leaf" = true) (k12 : PySem.W.keepIn K (.ref f12) = true)
    (a13 : PySem.W.nsIn K mainGlobals "_law_key" = some (some (.ref f13))) (l13 : K.lookup f13 = some ⟨oc13, od13, .func (PySem.W.fnOf "_law_key" "_law_key" (defArgs s_law_key) (defBody s_law_key) (defScope s_law_key) .none kV13 dc13 pm13 an13 cd13 ct13), sl13⟩) (c13 : PySem.W.codeIn K cd13 "_law_key" = true) (k13 : PySem.W.keepIn K (.ref f13) = true)
    (a14 : PySem.W.nsIn K mainGlobals "_law_worth" = some (some (.ref f14))) (l14 : K.lookup f14 = some ⟨oc14, od14, .func (PySem.W.fnOf "_law_worth" "_law_worth" (defArgs s_law_worth) (defBody s_law_worth) (defScope s_law_worth) .none kV14 dc14 pm14 an14 cd14 ct14), sl14⟩) (c14 : PySem.W.codeIn K cd14 "_law_worth" = true) (k14 : PySem.W.keepIn K (.ref f14) = true)
    (a15 : PySem.W.nsIn K mainGlobals "law" = some (some (.ref f15))) (l15 : K.lookup f15 = some ⟨oc15, od15, .func (PySem.W.fnOf "law" "law" (defArgs s_law) (defBody s_law) (defScope s_law) .none kV15 dc15 pm15 an15 cd15 ct15), sl15⟩) (c15 : PySem.W.codeIn K cd15 "law" = true) (k15 : PySem.W.keepIn K (.ref f15) = true)
    (z_len : PySem.W.nsIn K mainGlobals "len" = some none)
    (z_range : PySem.W.nsIn K mainGlobals "range" = some none)
    (z_min : PySem.W.nsIn K mainGlobals "min" = some none)
    (z_tuple : PySem.W.nsIn K mainGlobals "tuple" = some none)
    (z_int : PySem.W.nsIn K mainGlobals "int" = some none)
    (z_isinstance : PySem.W.nsIn K mainGlobals "isinstance" = some none)
    (z_bool : PySem.W.nsIn K mainGlobals "bool" = some none)
    (z_zip : PySem.W.nsIn K mainGlobals "zip" = some none)
    (z_sorted : PySem.W.nsIn K mainGlobals "sorted" = some none)
    (z_max : PySem.W.nsIn K mainGlobals "max" = some none)
    (g_SIDE : PySem.W.nsIn K mainGlobals "SIDE" = some (some (.int 4 t0)))
    (g_HIGH : PySem.W.nsIn K mainGlobals "HIGH" = some (some (.int 3 t1)))
    (g_LEVEL : PySem.W.nsIn K mainGlobals "LEVEL" = some (some (.int 0 t2)))
    (g_PARTS : PySem.W.nsIn K mainGlobals "PARTS" = some (some (.int 2 t3)))
    (g_KEYS : PySem.W.nsIn K mainGlobals "KEYS" = some (some (.int 1 t4)))
    : ∃ fd : FuncData, (∀ (s : Shared) (v : Value), BindsTo s fd ⟨[v], []⟩ [("script", v)]) ∧ ∀ base : Heap, K.In base → base.Ns mainGlobals mg → FnOk P w K mg base CX0 7 fa fd ["script"] (spD K 1 F_law) := by
  have e := hfa.symm.trans (PySem.W.mg_of X G a15)
  cases e
  have U0 := fun_mk (st := s_refilled) l0 c0 k0
  have U1 := fun_mk (st := s_count_not_above) l1 c1 k1
  have U2 := fun_mk (st := s_count_below) l2 c2 k2
  have U3 := fun_mk (st := s_with_run) l3 c3 k3
  have U4 := fun_mk (st := s_with_pair) l4 c4 k4
  have U5 := fun_mk (st := s_without) l5 c5 k5
  have U6 := fun_mk (st := s_law_cell_at) l6 c6 k6
  have U7 := fun_mk (st := s_law_churn) l7 c7 k7
  have U8 := fun_mk (st := s_law_keys) l8 c8 k8
  have U9 := fun_mk (st := s_law_high) l9 c9 k9
  have U10 := fun_mk (st := s_law_page) l10 c10 k10
  have U11 := fun_mk (st := s_law_same) l11 c11 k11
  have U12 := fun_mk (st := s_law_leaf) l12 c12 k12
  have U13 := fun_mk (st := s_law_key) l13 c13 k13
  have U14 := fun_mk (st := s_law_worth) l14 c14 k14
  have U15 := fun_mk (st := s_law) l15 c15 k15
  have y_len := PySem.W.mg_none_of X G z_len
  have y_range := PySem.W.mg_none_of X G z_range
  have y_min := PySem.W.mg_none_of X G z_min
  have y_tuple := PySem.W.mg_none_of X G z_tuple
  have y_int := PySem.W.mg_none_of X G z_int
  have y_isinstance := PySem.W.mg_none_of X G z_isinstance
  have y_bool := PySem.W.mg_none_of X G z_bool
  have y_zip := PySem.W.mg_none_of X G z_zip
  have y_sorted := PySem.W.mg_none_of X G z_sorted
  have y_max := PySem.W.mg_none_of X G z_max
  have w_SIDE := PySem.W.mg_of X G g_SIDE
  have w_HIGH := PySem.W.mg_of X G g_HIGH
  have w_LEVEL := PySem.W.mg_of X G g_LEVEL
  have w_PARTS := PySem.W.mg_of X G g_PARTS
  have w_KEYS := PySem.W.mg_of X G g_KEYS
  refine ⟨PySem.W.fnOf "law" "law" (defArgs s_law) (defBody s_law) (defScope s_law) .none kV15 dc15 pm15 an15 cd15 ct15, fun s v => .of_eq rfl, fun base _ _ => ?_⟩
  have v0 := has_refilled (P := P) (w := w) (base := base) U0 (PySem.W.mg_of X G a0) w_SIDE w_HIGH w_LEVEL
  have v1 := has_count_not_above (P := P) (w := w) (base := base) U1 (PySem.W.mg_of X G a1) y_len
  have v2 := has_count_below (P := P) (w := w) (base := base) U2 (PySem.W.mg_of X G a2) y_len
  have v3 := has_with_run (P := P) (w := w) (base := base) U3 (PySem.W.mg_of X G a3) v0 v1 v2 w_PARTS w_KEYS
  have v4 := has_with_pair (P := P) (w := w) (base := base) U4 (PySem.W.mg_of X G a4) v3
  have v5 := has_without (P := P) (w := w) (base := base) U5 (PySem.W.mg_of X G a5) v3
  have v6 := has_law_cell_at (P := P) (w := w) (base := base) U6 (PySem.W.mg_of X G a6) y_len
  have v7 := has_law_churn (P := P) (w := w) (base := base) U7 (PySem.W.mg_of X G a7)
  have v8 := has_law_keys (P := P) (w := w) (base := base) U8 (PySem.W.mg_of X G a8) v7 y_range
  have v9 := has_law_high (P := P) (w := w) (base := base) U9 (PySem.W.mg_of X G a9) v7 y_min
  have v10 := has_law_page (P := P) (w := w) (base := base) U10 (PySem.W.mg_of X G a10) v7 v9 v8 y_tuple y_int y_range
  have v11 := has_law_same (P := P) (w := w) (base := base) U11 (PySem.W.mg_of X G a11) y_isinstance y_int y_bool y_tuple y_zip y_len 6
  have v12 := has_law_leaf (P := P) (w := w) (base := base) U12 (PySem.W.mg_of X G a12) y_tuple y_sorted
  have v13 := has_law_key (P := P) (w := w) (base := base) U13 (PySem.W.mg_of X G a13) v7 y_max y_min y_len y_sorted
  have v14 := has_law_worth (P := P) (w := w) (base := base) U14 (PySem.W.mg_of X G a14) v7
  exact law_fn U15 v12 v11 v5 v6 v7 v4 v14 v13 v10 y_len y_sorted y_zip
theorem walk {l : PySem.W.OpenLaw} {q : Program} {loose : List Str} {XP : (Str → Option Value) → Heap → Prop} {YP : World → Heap → Prop} {d : DefRec} {K : Params → PySem.W.Frag} (hn : l.most = some 63) (hdf : d.params.defaults = [])
    (hY : ∀ (w : World) (h : Heap), YP w h → (K w.params).In h)
    (F : ∀ (w : World) (mg : Str → Option Value) (fa : Addr) (h : Heap), (K w.params).In h → h.Ns mainGlobals mg → mg d.name = some (.ref fa) →
      ∃ fd : FuncData, (∀ (s : Shared) (u : Value), BindsTo s fd ⟨[u], []⟩ [("script", u)]) ∧ ∀ base : Heap, (K w.params).In base → base.Ns mainGlobals mg → FnOk l.prog w (K w.params) mg base CX0 7 fa fd ["script"] (spD (K w.params) 1 F_law)) :
    PySem.W.WalkO q loose XP YP l.row.toRowW d [] (fun f vs => PySem.call f vs) :=
  L2.walk_of (n := 63) (k := 7) (x := "script") (CX := fun _ => CX0) (sp := fun w => spD (K w.params) 1 F_law) hn (by decide) hdf ⟨rfl, by decide, by decide⟩ hY F (fun w _ a ns hl _ hS => law_sp (law_true ns hl) hS) fun _ _ _ _ _ z => z
end K02
open PySem PySem.W PyProof.Rows
set_option maxRecDepth 100000 in
set_option maxHeartbeats 0 in
theorem PySem.Challenge.cw_sidelink_k02_put_and_cut_holds : PySem.Challenge.rw_sidelink_k02_put_and_cut.Holds := by
  w_on; o_law; k_head; (case hw => w_witness2)
  k_fill
  refine K02.walk (l := PySem.Challenge.rw_sidelink_k02_put_and_cut) rfl rfl (fun w h Y => PySem.W.kIn_of Y) ?F
  case F =>
    intro w mg fa h KX G hmg
    refine' K02.all_mk KX G hmg ?a0 ?l0 ?c0 ?k0 ?a1 ?l1 ?c1 ?k1 ?a2 ?l2 ?c2 ?k2 ?a3 ?l3 ?c3 ?k3 ?a4 ?l4 ?c4 ?k4 ?a5 ?l5 ?c5 ?k5 ?a6 ?l6 ?c6 ?k6 ?a7 ?l7 ?c7 ?k7 ?a8 ?l8 ?c8 ?k8 ?a9 ?l9 ?c9 ?k9 ?a10 ?l10 ?c10 ?k10 ?a11 ?l11 ?c11 ?k11 ?a12 ?l12 ?c12 ?k12 ?a13 ?l13 ?c13 ?k13 ?a14 ?l14 ?c14 ?k14 ?a15 ?l15 ?c15 ?k15 ?z_len ?z_range ?z_min ?z_tuple ?z_int ?z_isinstance ?z_bool ?z_zip ?z_sorted ?z_max ?g_SIDE ?g_HIGH ?g_LEVEL ?g_PARTS ?g_KEYS
    (case a0 => k_is); (case l0 => k_is); (case c0 => k_is); (case k0 => k_is)
    (case a1 => k_is); (case l1 => k_is); (case c1 => k_is); (case k1 => k_is)
    (case a2 => k_is); (case l2 => k_is); (case c2 => k_is); (case k2 => k_is)
    (case a3 => k_is); (case l3 => k_is); (case c3 => k_is); (case k3 => k_is)
    (case a4 => k_is); (case l4 => k_is); (case c4 => k_is); (case k4 => k_is)
    (case a5 => k_is); (case l5 => k_is); (case c5 => k_is); (case k5 => k_is)
    (case a6 => k_is); (case l6 => k_is); (case c6 => k_is); (case k6 => k_is)
    (case a7 => k_is); (case l7 => k_is); (case c7 => k_is); (case k7 => k_is)
    (case a8 => k_is); (case l8 => k_is); (case c8 => k_is); (case k8 => k_is)
    (case a9 => k_is); (case l9 => k_is); (case c9 => k_is); (case k9 => k_is)
    (case a10 => k_is); (case l10 => k_is); (case c10 => k_is); (case k10 => k_is)
    (case a11 => k_is); (case l11 => k_is); (case c11 => k_is); (case k11 => k_is)
    (case a12 => k_is); (case l12 => k_is); (case c12 => k_is); (case k12 => k_is)
    (case a13 => k_is); (case l13 => k_is); (case c13 => k_is); (case k13 => k_is)
    (case a14 => k_is); (case l14 => k_is); (case c14 => k_is); (case k14 => k_is)
    (case a15 => k_is); (case l15 => k_is); (case c15 => k_is); (case k15 => k_is)
    (case z_len => k_is)
    (case z_range => k_is)
    (case z_min => k_is)
    (case z_tuple => k_is)
    (case z_int => k_is)
    (case z_isinstance => k_is)
    (case z_bool => k_is)
    (case z_zip => k_is)
    (case z_sorted => k_is)
    (case z_max => k_is)
    (case g_SIDE => k_is)
    (case g_HIGH => k_is)
    (case g_LEVEL => k_is)
    (case g_PARTS => k_is)
    (case g_KEYS => k_is)

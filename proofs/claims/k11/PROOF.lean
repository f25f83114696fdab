import PyProof.Rows.All
import Wide.All
import OpenK.AllK
import Wide.FinOn
import Lean
import PyProof.EqAt
import PyProof.EqKinds
import PyProof.TupleCall
import PySem.Challenge.RW_sidelink_k11_pages_kept
-- CHANGE: your row's module here, as the last of these rows
set_option Elab.async false
set_option linter.all false
set_option maxRecDepth 100000
/-! THE HAND LAYER, for ints, bools, texts, own classes, LISTS and tuples (index, slices, in, append, pop ..), calls, loops. Paste it whole ahead of your own text; what your proof does not reach may be deleted. -/
namespace L2
open PySem PySem.Spec PyProof.Rows

/-- a key: an int or a str -/
abbrev Key := Sum Int Str
def keyIs : Key → Value → Bool
  | .inl k, v => Value.isInt k v
  | .inr x, v => Value.isStrOf x v
def keyH (w : World) : Key → Int
  | .inl k => hashInt k
  | .inr x => hashStr w x
theorem keyIs_shape : ∀ {k : Key} {v : Value}, keyIs k v = true → (∃ i t, k = Sum.inl i ∧ v = Value.int i t) ∨ (∃ x t, k = Sum.inr x ∧ v = Value.str x t)
  | .inl i, v, h => by
    obtain ⟨t, e⟩ := Value.isInt_shape (k := i) (v := v) h
    exact .inl ⟨i, t, rfl, e⟩
  | .inr x, v, h => by
    obtain ⟨t, e⟩ := Value.isStrOf_shape (x := x) (v := v) h
    exact .inr ⟨x, t, rfl, e⟩
theorem keyIs_int (i : Int) (t : Tok) : keyIs (.inl i) (.int i t) = true := by simp [keyIs, Value.isInt]
theorem keyIs_str (x : Str) (t : Tok) : keyIs (.inr x) (.str x t) = true := by simp [keyIs, Value.isStrOf]
theorem key_ll (a b : Int) : decide ((Sum.inl a : Key) = Sum.inl b) = (a == b) := by
  by_cases e : a = b
  · subst e; simp
  · have h : ¬ (Sum.inl a : Key) = Sum.inl b := fun q => e (Sum.inl.inj q)
    rw [decide_eq_false h]
    exact (beq_eq_false_iff_ne.mpr e).symm
theorem key_rr (a b : Str) : decide ((Sum.inr a : Key) = Sum.inr b) = decide (a = b) := by
  by_cases e : a = b
  · subst e; simp
  · have h : ¬ (Sum.inr a : Key) = Sum.inr b := fun q => e (Sum.inr.inj q)
    rw [decide_eq_false h, decide_eq_false e]
theorem key_lr (a : Int) (b : Str) : decide ((Sum.inl a : Key) = Sum.inr b) = false := decide_eq_false (fun q => nomatch q)
theorem key_rl (a : Str) (b : Int) : decide ((Sum.inr a : Key) = Sum.inl b) = false := decide_eq_false (fun q => nomatch q)

def mixKind (prog : Program) (w : World) : PySem.KeyKind prog w Key where
  is := keyIs
  hash := keyH w
  inj := fun v a b ha hb => by
    rcases keyIs_shape ha with ⟨i, t, rfl, rfl⟩ | ⟨x, t, rfl, rfl⟩
    · rcases keyIs_shape hb with ⟨j, u, rfl, e⟩ | ⟨y, u, rfl, e⟩
      · injection e with e1 _; rw [e1]
      · exact nomatch e
    · rcases keyIs_shape hb with ⟨j, u, rfl, e⟩ | ⟨y, u, rfl, e⟩
      · exact nomatch e
      · injection e with e1 _; rw [e1]
  byValue := fun k v h => by
    rcases keyIs_shape h with ⟨i, t, rfl, rfl⟩ | ⟨x, t, rfl, rfl⟩ <;> rfl
  pyHash := fun hv h => by
    rcases keyIs_shape hv with ⟨i, t, rfl, rfl⟩ | ⟨x, t, rfl, rfl⟩
    · exact wpAny_pyHash_int h
    · exact wpAny_pyHash_str h
  eqBool := fun hu hv h => by
    rcases keyIs_shape hu with ⟨i, t, rfl, rfl⟩ | ⟨x, t, rfl, rfl⟩
    · rcases keyIs_shape hv with ⟨j, u, rfl, rfl⟩ | ⟨y, u, rfl, rfl⟩
      · rw [key_ll] at h; exact wpAny_eqBool_int h
      · rw [key_lr] at h; exact SeqAt.EqAt.int_str i t y u _ _ _ _ h
    · rcases keyIs_shape hv with ⟨j, u, rfl, rfl⟩ | ⟨y, u, rfl, rfl⟩
      · rw [key_rl] at h; exact SeqAt.EqAt.str_int x t j u _ _ _ _ h
      · rw [key_rr] at h; exact wpAny_eqBool_str h
  «strs» := fun k x t v h => by
    rcases keyIs_shape h with ⟨i, u, rfl, e⟩ | ⟨y, u, rfl, e⟩
    · exact nomatch e
    · injection e with e1 _
      subst e1
      cases v <;> rfl

theorem mixKind_int (prog : Program) (w : World) (i : Int) (t : Tok) : (mixKind prog w).is (.inl i) (.int i t) = true := keyIs_int i t
theorem mixKind_str (prog : Program) (w : World) (x : Str) (t : Tok) : (mixKind prog w).is (.inr x) (.str x t) = true := keyIs_str x t
end L2

namespace L2
open PySem PySem.Spec PyProof.Rows

/-- a value, without the heap -/
inductive V where
  | non | bl (b : Bool) | int (i : Int) | str (x : Str) | byt (b : Array UInt8) | flt (b : UInt64) | ref (a : Addr) | ty (n : String)
  deriving DecidableEq

def RelV : V → Value → Prop
  | .non, u => u = Value.none
  | .bl b, u => u = Value.bool b
  | .int i, u => ∃ t, u = Value.int i t
  | .str x, u => ∃ t, u = Value.str x t
  | .byt b, u => ∃ t, u = Value.bytes b t
  | .flt b, u => ∃ t, u = Value.float b t
  | .ref a, u => u = Value.ref a
  | .ty n, u => u = Value.type n

abbrev Vals : List V → List Value → Prop := Paired RelV
theorem Vals.length {xs : List V} {us : List Value} (r : Vals xs us) : xs.length = us.length := Paired.length r
theorem Vals.get : ∀ {xs : List V} {us : List Value} {i : Nat} {x : V}, Vals xs us → xs[i]? = some x → ∃ u, us[i]? = some u ∧ RelV x u
  | _, _, _, _, .nil, e => by simp at e
  | _, _, 0, _, .cons r _, e => by simp at e; subst e; exact ⟨_, rfl, r⟩
  | _, _, i + 1, x, .cons _ t, e => by
    obtain ⟨u, h1, h2⟩ := Vals.get (i := i) (x := x) t (by simpa using e)
    exact ⟨u, by simpa using h1, h2⟩
theorem Vals.set {x : V} {u : Value} (r : RelV x u) : ∀ {xs : List V} {us : List Value} (i : Nat), Vals xs us → Vals (xs.set i x) (us.set i u)
  | _, _, _, .nil => .nil
  | _, _, 0, .cons _ t => .cons r t
  | _, _, i + 1, .cons q t => .cons q (Vals.set r i t)
theorem Vals.append : ∀ {xs ys : List V} {us ws : List Value}, Vals xs us → Vals ys ws → Vals (xs ++ ys) (us ++ ws)
  | _, _, _, _, .nil, s => s
  | _, _, _, _, .cons r t, s => .cons r (Vals.append t s)
theorem Vals.take : ∀ {xs : List V} {us : List Value} (n : Nat), Vals xs us → Vals (xs.take n) (us.take n)
  | _, _, 0, _ => .nil
  | _, _, _ + 1, .nil => .nil
  | _, _, n + 1, .cons r t => .cons r (Vals.take n t)
theorem Vals.drop : ∀ {xs : List V} {us : List Value} (n : Nat), Vals xs us → Vals (xs.drop n) (us.drop n)
  | _, _, 0, r => r
  | _, _, _ + 1, .nil => .nil
  | _, _, n + 1, .cons _ t => Vals.drop n t
theorem Vals.none_of : ∀ {xs : List V} {us : List Value} {i : Nat}, Vals xs us → xs[i]? = none → us[i]? = none := fun {xs us i} r e => by
  have h1 := r.length
  have h2 : xs.length ≤ i := List.getElem?_eq_none_iff.mp e
  exact List.getElem?_eq_none_iff.mpr (by omega)

def RelO : Option V → Option Value → Prop
  | some v, some u => RelV v u
  | none, none => True
  | _, _ => False
def KV {κ : Type} : List (κ × V) → List (κ × Value) → Prop := Paired fun (p : κ × V) (q : κ × Value) => p.1 = q.1 ∧ RelV p.2 q.2

/-- a key of a dict (00_mix): an int or a text -/
def kV : Key → V
  | .inl i => .int i
  | .inr x => .str x

/-- what stands at a tracked address -/
inductive HO where
  /-- a list -/
  | lst (xs : List V)
  /-- a tuple (never changes) -/
  | tup (xs : List V)
  /-- a dict whose keys are ints and texts; one whose keys are tuples of ints and texts (the empty one is both) -/
  | dK (kvs : List (Key × V)) | dT (kvs : List (List Key × V))
  /-- a set of ints: its members, its size -/
  | set (S : Int → Bool) (n : Nat)
  /-- an instance of the class at C, its dict at dx, its attributes -/
  | ins (C dx : Addr) (fs : List (Str × V))
  /-- the dict of the instance at x -/
  | own (x : Addr)
  /-- the dict of an exception -/
  | xd (fs : List (Str × V))
  /-- a bound method, f of x -/
  | met (f x : Addr)
  /-- a range object lo, lo + 1, .. below hi -/
  | rng (lo hi : Int)
  /-- a thing that is known to the object (the script; a dict while a loop walks it): read, never written while it is so -/
  | frz (o : Obj) (u : HO)
  /-- a code object's table -/
  | tbl (ps : Array Value)
  /-- any other thing, by what is true of its one object (a def of one's own: SetO a S n := HO.ext fun h => ..) -/
  | ext (φ : Heap → Prop)

abbrev Hp := Addr → Option HO
def upd (H : Hp) (a : Addr) (o : HO) : Hp := fun b => if b = a then some o else H b
theorem upd_same {H : Hp} {a : Addr} {o : HO} : upd H a o a = some o := by unfold upd; rw [if_pos rfl]
theorem upd_ne {H : Hp} {a b : Addr} {o : HO} (h : b ≠ a) : upd H a o b = H b := by unfold upd; rw [if_neg h]
/-- two objects of different content stand apart -/
theorem ne_of {H : Hp} {a b : Addr} {o u : HO} (h : H a = some o) (h' : H b = some u) (d : o ≠ u) : a ≠ b := by
  intro e; subst e; rw [h] at h'; exact d (Option.some.inj h')
theorem ne_of_none {H : Hp} {a b : Addr} {o : HO} (h : H a = some o) (h' : H b = none) : a ≠ b := by
  intro e; subst e; rw [h] at h'; cases h'

section
variable (P : Program) (w : World)
def ObjOk (H : Hp) (h : Heap) (a : Addr) : HO → Prop
  | .lst xs => xs.length ≤ sizeLine ∧ ∃ (its : List Value) (n : Nat), Vals xs its ∧ h.get? a = some { cls := .type "list", data := .seq its.toArray n }
  | .tup xs => xs.length ≤ sizeLine ∧ ∃ its : List Value, Vals xs its ∧ IsTup h a its.toArray
  | .dK kvs => kvs.length ≤ sizeLine ∧ (a == sysModules) = false ∧ ∃ vs, KV kvs vs ∧ h.DictOf (mixKind P w) a vs
  | .dT kvs => kvs.length ≤ sizeLine ∧ (a == sysModules) = false ∧ ∃ xs : List (List Key × Addr × Value),
      Paired (fun (p : List Key × V) (q : List Key × Addr × Value) => p.1 = q.1 ∧ H q.2.1 = some (.tup (p.1.map kV)) ∧ RelV p.2 q.2.2) kvs xs ∧
      ∃ o es ep, h.get? a = some o ∧ o.ExactDict ∧ o.data = .dict es ep ∧ es.toList = xs.map (entryOfKey (tupleKind (mixKind P w))) ∧ (xs.map (·.1)).Nodup
  | .set S n => h.SetOf (intKind P w) a S n
  | .ins C dx fs => H dx = some (.own a) ∧ fs.length ≤ 1000 ∧ dx ≠ a ∧ h.get? a = some (PySem.W.instObj C dx) ∧
      ∃ mA, h.Ns1 dx mA ∧ (∀ f, RelO (fs.lookup f) (mA f)) ∧ PySem.Within mA (fs.map (·.1))
  | .own _ => ∃ o, h.get? a = some o
  | .xd fs => ∃ mA, h.Ns1 a mA ∧ ∀ f, RelO (fs.lookup f) (mA f)
  | .rng lo hi => ∃ t u v, h.get? a = some { cls := .type "range", data := .fields #[.int lo t, .int hi u, .int 1 v] }
  | .frz o u => h.get? a = some o ∧ ObjOk H h a u
  | .tbl ps => h.get? a = some { cls := .none, data := .fields ps }
  | .met f x => h.get? a = some (PySem.W.methodObj (.ref f) (.ref x))
  | .ext φ => φ h ∧ (∃ o, h.get? a = some o) ∧ ∀ h1 h2 : Heap, φ h1 → (∀ o, h1.get? a = some o → h2.get? a = some o) → φ h2
/-- the abstract heap is held -/
def HOk (H : Hp) (h : Heap) : Prop := ∀ a o, H a = some o → ObjOk P w H h a o
end

section
variable {P : Program} {w : World} {H H' : Hp} {h h' : Heap} {a : Addr} {o : HO}
theorem ObjOk.lt (x : ObjOk P w H h a o) : a < h.objs.size := by
  cases o with
  | lst xs => obtain ⟨_, _, _, _, e⟩ := x; exact Heap.lt_size e
  | tup xs => obtain ⟨_, _, _, p⟩ := x; exact p.lt
  | dK kvs => obtain ⟨_, _, _, _, o, _, _, e, _⟩ := x; exact Heap.lt_size e
  | dT kvs => obtain ⟨_, _, _, _, o, _, _, e, _⟩ := x; exact Heap.lt_size e
  | set S n => obtain ⟨o, _, _, _, e, _⟩ := x; exact Heap.lt_size e
  | ins C dx fs => obtain ⟨_, _, _, e, _⟩ := x; exact Heap.lt_size e
  | own y => obtain ⟨_, e⟩ := x; exact Heap.lt_size e
  | xd fs => obtain ⟨_, ⟨_, _, _, e, _⟩, _⟩ := x; exact Heap.lt_size e
  | rng lo hi => obtain ⟨_, _, _, e⟩ := x; exact Heap.lt_size e
  | frz ob u => obtain ⟨e, _⟩ := x; exact Heap.lt_size e
  | tbl ps => exact Heap.lt_size (show h.get? a = some _ from x)
  | met f y => exact Heap.lt_size (show h.get? a = some _ from x)
  | ext φ => obtain ⟨_, ⟨_, e⟩, _⟩ := x; exact Heap.lt_size e
theorem Paired.mapP {α β : Type} {F G : α → β → Prop} : ∀ {l₁ : List α} {l₂ : List β}, Paired F l₁ l₂ → (∀ a b, F a b → G a b) → Paired G l₁ l₂
  | _, _, .nil, _ => .nil
  | _, _, .cons r t, f => .cons (f _ _ r) (Paired.mapP t f)
/-- what an object's description leans on: its own object, its own dict, the tuples -/
theorem ObjOk.stay (x : ObjOk P w H h a o) (k : ∀ b u, (b = a ∨ H b = some (.own a)) → h.get? b = some u → h'.get? b = some u)
    (ho : ∀ b, H b = some (.own a) → H' b = some (.own a)) (ht : ∀ b xs, H b = some (.tup xs) → H' b = some (.tup xs)) : ObjOk P w H' h' a o := by
  induction o with
  | lst xs => obtain ⟨z, its, n, r, e⟩ := x; exact ⟨z, its, n, r, k _ _ (.inl rfl) e⟩
  | tup xs => obtain ⟨z, its, r, ob, e, c⟩ := x; exact ⟨z, its, r, ob, k _ _ (.inl rfl) e, c⟩
  | dK kvs => obtain ⟨z, y, vs, r, ob, es, ep, e, c⟩ := x; exact ⟨z, y, vs, r, ob, es, ep, k _ _ (.inl rfl) e, c⟩
  | dT kvs =>
    obtain ⟨z, y, xs, r, ob, es, ep, e, c⟩ := x
    exact ⟨z, y, xs, Paired.mapP r fun p q z => ⟨z.1, ht _ _ z.2.1, z.2.2⟩, ob, es, ep, k _ _ (.inl rfl) e, c⟩
  | set S n => obtain ⟨ob, es, ep, t, e, c⟩ := x; exact ⟨ob, es, ep, t, k _ _ (.inl rfl) e, c⟩
  | ins C dx fs =>
    obtain ⟨d, z, ne, e, mA, ⟨od, es, ep, e2, c⟩, r⟩ := x
    exact ⟨ho _ d, z, ne, k _ _ (.inl rfl) e, mA, ⟨od, es, ep, k _ _ (.inr d) e2, c⟩, r⟩
  | own y => obtain ⟨ob, e⟩ := x; exact ⟨ob, k _ _ (.inl rfl) e⟩
  | xd fs => obtain ⟨mA, ⟨od, es, ep, e, c⟩, r⟩ := x; exact ⟨mA, ⟨od, es, ep, k _ _ (.inl rfl) e, c⟩, r⟩
  | rng lo hi => obtain ⟨t, u, v, e⟩ := x; exact ⟨t, u, v, k _ _ (.inl rfl) e⟩
  | frz ob u ih => obtain ⟨e, q⟩ := x; exact ⟨k _ _ (.inl rfl) e, ih q⟩
  | tbl ps =>
    have e : h.get? a = some { cls := .none, data := .fields ps } := x
    show h'.get? a = some { cls := .none, data := .fields ps }
    exact k a _ (.inl rfl) e
  | met f y =>
    have e : h.get? a = some (PySem.W.methodObj (.ref f) (.ref y)) := x
    show h'.get? a = some (PySem.W.methodObj (.ref f) (.ref y))
    exact k a _ (.inl rfl) e
  | ext φ => obtain ⟨p, ⟨o, e⟩, st⟩ := x; exact ⟨st _ _ p fun o q => k _ _ (.inl rfl) q, ⟨o, k _ _ (.inl rfl) e⟩, st⟩
theorem HOk.lt (x : HOk P w H h) (e : H a = some o) : a < h.objs.size := (x a o e).lt
theorem HOk.fresh (x : HOk P w H h) (e : h.objs.size ≤ a) : H a = none := by
  cases q : H a with
  | none => rfl
  | some u => exact absurd (Nat.lt_of_lt_of_le (x.lt q) e) (Nat.lt_irrefl _)
/-- every object of the heap is kept -/
theorem HOk.kept (x : HOk P w H h) (k : ∀ b u, h.get? b = some u → h'.get? b = some u) : HOk P w H h' := fun a o e =>
  (x a o e).stay (fun b u _ q => k b u q) (fun _ q => q) fun _ _ q => q
/-- a new object is laid and tracked -/
theorem HOk.laid (x : HOk P w H h) (k : ∀ b u, h.get? b = some u → h'.get? b = some u) (hp : h.objs.size ≤ a) (new : ObjOk P w (upd H a o) h' a o) : HOk P w (upd H a o) h' := fun b u e => by
  have hn := x.fresh hp
  by_cases hb : b = a
  · subst hb; rw [upd_same] at e; cases e; exact new
  · rw [upd_ne hb] at e
    exact (x b u e).stay (fun c v _ q => k c v q) (fun c q => by rw [upd_ne (ne_of_none q hn)]; exact q) fun c xs q => by rw [upd_ne (ne_of_none q hn)]; exact q
end

/-- what may be read as u: it is u, or a known u -/
def Rd (H : Hp) (a : Addr) (u : HO) : Prop := H a = some u ∨ ∃ o, H a = some (.frz o u)
theorem Rd.of {H : Hp} {a : Addr} {u : HO} (h : H a = some u) : Rd H a u := .inl h
theorem Rd.ok {P : Program} {w : World} {H : Hp} {h : Heap} {a : Addr} {u : HO} (r : Rd H a u) (x : HOk P w H h) : ObjOk P w H h a u := by
  rcases r with r | ⟨o, r⟩
  · exact x a u r
  · obtain ⟨_, q⟩ := x a _ r
    exact q
/-- what may be written -/
def Mut : Option HO → Prop
  | some (.lst _) => True
  | some (.dK _) => True
  | some (.dT _) => True
  | some (.set _ _) => True
  | some (.ins _ _ _) => True
  | some (.ext _) => True
  | _ => False
section
variable {P : Program} {w : World} {H : Hp} {h h' : Heap} {x e : Addr} {o' : HO}
/-- the object at e is changed: x itself, or the dict of the instance x -/
theorem HOk.write (ok : HOk P w H h) (mu : Mut (H x)) (he : e = x ∨ H e = some (.own x)) (k : ∀ b u, b ≠ e → h.get? b = some u → h'.get? b = some u) (heo : ∃ u, h'.get? e = some u)
    (new : ObjOk P w (upd H x o') h' x o') : HOk P w (upd H x o') h' := fun b u q => by
  have nown : ∀ c y, H c = some (.own y) → c ≠ x := fun c y r z => by subst z; rw [r] at mu; exact mu
  have ntup : ∀ c xs, H c = some (.tup xs) → c ≠ x := fun c xs r z => by subst z; rw [r] at mu; exact mu
  by_cases hb : b = x
  · subst hb; rw [upd_same] at q; cases q; exact new
  · rw [upd_ne hb] at q
    by_cases hbe : b = e
    · have q' : H b = some (.own x) := by
        rcases he with z | z
        · exact absurd (hbe.trans z) hb
        · rw [hbe]; exact z
      rw [q] at q'; cases q'
      obtain ⟨v, hv⟩ := heo
      exact ⟨v, by rw [hbe]; exact hv⟩
    · refine (ok b u q).stay (fun c v hc r => k c v ?_ r) (fun c r => by rw [upd_ne (nown c b r)]; exact r) fun c xs r => by rw [upd_ne (ntup c xs r)]; exact r
      rcases hc with rfl | hc
      · exact hbe
      · rintro rfl
        rcases he with z | z
        · exact nown c b hc z
        · rw [hc] at z; cases z; exact hb rfl
end

/-! ### kept unless tracked; of the frames at fs (the callers') the slots may change (an exception that passes writes there); of the records at ex (iterators) nothing is said -/
structure Un (fs ex : List Addr) (H H' : Hp) (h h' : Heap) : Prop where
  keep : ∀ b o, h.get? b = some o → H b = none → b ∉ fs → b ∉ ex → h'.get? b = some o
  slot : ∀ b o, h.get? b = some o → H b = none → b ∈ fs → b ∉ ex → ∃ sl, h'.get? b = some { o with slots := sl }
  free : ∀ b o, h.get? b = some o → H b = none → b ∉ ex → H' b = none
  there : ∀ b o, h.get? b = some o → b ∉ ex → ∃ o', h'.get? b = some o'
  tups : ∀ b xs, H b = some (.tup xs) → H' b = some (.tup xs)
  frzs : ∀ b o u, H b = some (.frz o u) → H' b = some (.frz o u)
  tbls : ∀ b ps, H b = some (.tbl ps) → ∃ more, H' b = some (.tbl (ps ++ more))
section
variable {fs fs' ex ex' : List Addr} {H H1 H2 : Hp} {h h1 h2 h' : Heap} {a x e : Addr} {o : HO}
theorem Un.any (u : Un fs ex H H1 h h1) {b : Addr} {ob : Obj} (q : h.get? b = some ob) (n : H b = none) (hx : b ∉ ex) : ∃ sl, h1.get? b = some { ob with slots := sl } := by
  by_cases hb : b ∈ fs
  · exact u.slot b ob q n hb hx
  · exact ⟨ob.slots, u.keep b ob q n hb hx⟩
theorem Un.trans (a : Un fs ex H H1 h h1) (b : Un fs ex H1 H2 h1 h2) : Un fs ex H H2 h h2 where
  keep := fun c ob q n hc hx => b.keep c ob (a.keep c ob q n hc hx) (a.free c ob q n hx) hc hx
  slot := fun c ob q n hc hx => by
    obtain ⟨sl, e1⟩ := a.slot c ob q n hc hx
    obtain ⟨sl', e2⟩ := b.slot c _ e1 (a.free c ob q n hx) hc hx
    exact ⟨sl', e2⟩
  free := fun c ob q n hx => by
    obtain ⟨o', e1⟩ := a.there c ob q hx
    exact b.free c o' e1 (a.free c ob q n hx) hx
  there := fun c ob q hx => by
    obtain ⟨o', e1⟩ := a.there c ob q hx
    exact b.there c o' e1 hx
  tups := fun c xs q => b.tups c xs (a.tups c xs q)
  frzs := fun c ob xs q => b.frzs c ob xs (a.frzs c ob xs q)
  tbls := fun c ps q => by
    obtain ⟨m1, e1⟩ := a.tbls c ps q
    obtain ⟨m2, e2⟩ := b.tbls c _ e1
    exact ⟨m1 ++ m2, by rw [e2, Array.append_assoc]⟩
theorem Un.kept (k : ∀ b u, h.get? b = some u → h'.get? b = some u) : Un fs ex H H h h' :=
  ⟨fun b ob q _ _ _ => k b ob q, fun b ob q _ _ _ => ⟨ob.slots, k b ob q⟩, fun _ _ _ n _ => n, fun b ob q _ => ⟨ob, k b ob q⟩, fun _ _ q => q, fun _ _ _ q => q, fun _ ps q => ⟨#[], by rw [q]; simp⟩⟩
theorem Un.refl : Un fs ex H H h h := Un.kept fun _ _ q => q
theorem Un.laid (k : ∀ b u, h.get? b = some u → h'.get? b = some u) (hp : h.objs.size ≤ a) (hn : H a = none) : Un fs ex H (upd H a o) h h' where
  keep := fun b u q _ _ _ => k b u q
  slot := fun b u q _ _ _ => ⟨u.slots, k b u q⟩
  free := fun b u q n _ => by rw [upd_ne (Nat.ne_of_lt (Nat.lt_of_lt_of_le (Heap.lt_size q) hp))]; exact n
  there := fun b u q _ => ⟨u, k b u q⟩
  tups := fun b xs q => by rw [upd_ne (ne_of_none q hn)]; exact q
  frzs := fun b u xs q => by rw [upd_ne (ne_of_none q hn)]; exact q
  tbls := fun b ps q => ⟨#[], by rw [upd_ne (ne_of_none q hn), q]; simp⟩
theorem Un.write (mu : Mut (H x)) (he : e = x ∨ H e = some (.own x)) (k : ∀ b u, b ≠ e → h.get? b = some u → h'.get? b = some u) (heo : ∃ u, h'.get? e = some u) : Un fs ex H (upd H x o) h h' := by
  have hx : ∀ b, H b = none → b ≠ x := fun b n z => by subst z; rw [n] at mu; exact mu
  have hb : ∀ b, H b = none → b ≠ e := fun b n z => by
    subst z
    rcases he with r | r
    · exact hx b n r
    · rw [n] at r; cases r
  have hm : ∀ b u, H b = some u → ¬ Mut (some u) → b ≠ x := fun b u q nm z => by subst z; rw [q] at mu; exact nm mu
  refine ⟨fun b u q n _ _ => k b u (hb b n) q, fun b u q n _ _ => ⟨u.slots, k b u (hb b n) q⟩, fun b u q n _ => by rw [upd_ne (hx b n)]; exact n, fun b u q _ => ?_,
    fun b xs q => by rw [upd_ne (hm b _ q fun z => z)]; exact q, fun b u xs q => by rw [upd_ne (hm b _ q fun z => z)]; exact q, fun b ps q => ⟨#[], by rw [upd_ne (hm b _ q fun z => z), q]; simp⟩⟩
  by_cases hbe : b = e
  · subst hbe; exact heo
  · exact ⟨u, k b u hbe q⟩
theorem Un.mono (u : Un fs ex H H1 h h1) (hs : ∀ b ∈ fs, b ∈ fs') (hx : ∀ b ∈ ex, b ∈ ex') : Un fs' ex' H H1 h h1 :=
  ⟨fun b ob q n hb he => u.keep b ob q n (fun z => hb (hs b z)) fun z => he (hx b z), fun _ _ q n _ he => u.any q n fun z => he (hx _ z), fun b ob q n he => u.free b ob q n fun z => he (hx b z), fun b ob q he => u.there b ob q fun z => he (hx b z), u.tups, u.frzs, u.tbls⟩
end

/-! ### the heap without what is tracked -/
def trk (h : Heap) (H : Hp) : List Addr := (List.range h.objs.size).filter fun a => (H a).isSome
def hidT (h : Heap) (H : Hp) : Heap := PySem.W.hideAll h (trk h H)
theorem hidT_size (h : Heap) (H : Hp) : (hidT h H).objs.size = h.objs.size := PySem.W.hideAll_size _ _
theorem hidT_get {h : Heap} {H : Hp} {b : Addr} {o : Obj} (e : h.get? b = some o) (n : H b = none) : (hidT h H).get? b = some o :=
  PySem.W.hideAll_get _ e fun hm => by
    have q : (H b).isSome = true := (List.mem_filter.mp hm).2
    rw [n] at q; simp at q
theorem of_hidT {h : Heap} {H : Hp} {b : Addr} {o : Obj} (e : (hidT h H).get? b = some o) : h.get? b = some o ∧ H b = none := by
  have e' : h.get? b = some o := PySem.W.of_hideAll (trk h H) e
  refine ⟨e', ?_⟩
  cases q : H b with
  | none => rfl
  | some x =>
    have hm : b ∈ trk h H := List.mem_filter.mpr ⟨List.mem_range.mpr (Heap.lt_size e'), by simp [q]⟩
    have z : (hidT h H).get? b = none := PySem.W.hideAll_none (trk h H) hm
    rw [z] at e; cases e

/-! ### OpenK's ledger, filled with every new object but one -/
def allNews (g h : Heap) (L : Addr) : List (Addr × Obj) := (List.range h.objs.size).filterMap fun a => if a = L ∨ (g.get? a).isSome = true then none else (h.get? a).map fun o => (a, o)
theorem of_mem_allNews {g h : Heap} {L : Addr} {p : Addr × Obj} (hp : p ∈ allNews g h L) : p.1 ≠ L ∧ g.get? p.1 = none ∧ h.get? p.1 = some p.2 := by
  obtain ⟨b, _, e⟩ := List.mem_filterMap.mp hp
  split at e
  · cases e
  · rename_i hn
    cases q : h.get? b with
    | none => rw [q] at e; simp at e
    | some u =>
      rw [q] at e
      simp only [Option.map_some, Option.some.injEq] at e
      subst e
      refine ⟨fun z => hn (.inl z), ?_, q⟩
      show g.get? b = none
      cases r : g.get? b with
      | none => rfl
      | some v => exact (hn (.inr (by simp [r]))).elim
def rest (g h : Heap) (L d : Addr) : List (Addr × Obj) := (allNews g h L).filter fun p => decide (p.1 ≠ d)
theorem news_all {g h : Heap} {L : Addr} : News g L h (allNews g h L) := fun p hp => let ⟨a, b, c⟩ := of_mem_allNews hp; ⟨c, a, b⟩
end L2

namespace L2
open PySem PySem.Spec PyProof.Rows

/-- the module's facts, over the base: the heap at the law's entry without what is tracked there -/
structure Mod (K : PySem.W.Frag) (mg : Str → Option Value) (base : Heap) : Prop where
  kin : K.In base
  glob : base.Ns mainGlobals mg
  blt : ∃ mb, base.Ns builtinsNs mb ∧ ∀ x : Str, x ≠ "__name__" → mb x = bootBuiltins x
  nolimit : base.NoLimit

/-- the context: a def's body (or a comprehension's block) running. base: fixed through the whole law; s₀, H₀: the entry; outer: the frames whose slots others may change (a def's callers); stack: all frames that run;
   ex: iterators that were made ahead of the entry and are walked here (a comprehension's); fn: the names whose cells were made at the entry (a def: all; a comprehension's block: its own); calm: not within an except suite; pn: pins that every state bears; xe: what is wanted of an exception that leaves the code -/
structure Cx where
  prog : Program
  w : World
  K : PySem.W.Frag
  mg : Str → Option Value
  base : Heap
  A : Around
  N : List Str
  s₀ : Shared
  H₀ : Hp
  env : Env
  outer : List Env
  stack : List Env
  ex : List Addr
  fn : Str → Bool
  calm : Bool
  pn : List (Addr × Obj)
  xe : Value → Shared → Prop
/-- the callers' frames -/
def frs (l : List Env) : List Addr := l.filterMap (·.frame)
abbrev Cx.fs (X : Cx) : List Addr := frs X.outer

def Vis (sc : Scope) (x : Str) : Prop := sc.names.lookup x = some .local ∨ sc.names.lookup x = some .cell ∨ sc.names.lookup x = some .free
def Loc (sc : Scope) (x : Str) : Prop := sc.names.lookup x = some .local ∨ sc.names.lookup x = some .cell
def Look (env : Env) (h : Heap) (m : Str → Option Value) (x : Str) (u : Value) : Prop :=
  (env.kindOf x = some .local ∧ m x = some u) ∨ ((env.kindOf x = some .cell ∨ env.kindOf x = some .free) ∧ ∃ c, env.cells.lookup x = some c ∧ h.IsCell c (some u))

structure Cx.Ok (X : Cx) : Prop where
  mod : Mod X.K X.mg X.base
  kind : X.env.scope.kind = .function
  glob : X.env.globals = mainGlobals
  blt : X.env.builtins = builtinsNs
  above : X.s₀.heap.objs.size ≤ X.env.locals
  inj : ∀ x y c, X.env.cells.lookup x = some c → X.env.cells.lookup y = some c → x = y
  has : ∀ x, (X.env.kindOf x = some .cell ∨ X.env.kindOf x = some .free) → ∃ c, X.env.cells.lookup x = some c
  cab : ∀ x c, X.fn x = true → X.env.cells.lookup x = some c → X.s₀.heap.objs.size ≤ c
  hd : X.calm = true → X.A.handled = none
  frames : X.A.frames = some X.stack
  stk : X.stack = X.outer ∨ (X.stack = X.env :: X.outer ∧ X.env.frame = some X.env.locals)
  exf : ∀ b ∈ X.ex, b ≠ X.env.locals ∧ ∀ x c, X.env.cells.lookup x = some c → c ≠ b
  bs : ∀ b o, X.base.get? b = some o → X.s₀.heap.get? b = some o ∧ X.H₀ b = none
  bsz : X.base.objs.size ≤ X.s₀.heap.objs.size
  noex : ∀ b o, X.base.get? b = some o → b ∉ X.ex
  exfs : ∀ b ∈ X.ex, b ∉ X.fs
  funs : X.s₀.heap.FunFrames X.base X.outer
  frf : ∀ b ∈ X.fs, X.H₀ b = none

structure Inv (X : Cx) (pins : List (Addr × Obj)) (σ : List (Option V)) (H : Hp) (s : Shared) : Prop where
  ok : X.Ok
  os : s.os = X.s₀.os
  bare : AllBare s.gens
  base : Un X.fs X.ex X.H₀ H X.s₀.heap s.heap
  loc : ∃ m, s.heap.Ns X.env.locals m ∧ ∀ (i : Nat) (x : Str) (v : V), X.N[i]? = some x → σ[i]? = some (some v) → Vis X.env.scope x → ∃ u, RelV v u ∧ Look X.env s.heap m x u
  cell : ∀ x c, X.env.cells.lookup x = some c → ∃ v, s.heap.IsCell c v
  free : H X.env.locals = none
  freeC : ∀ x c, X.env.cells.lookup x = some c → H c = none
  pin : ∀ p ∈ X.pn ++ pins, s.heap.get? p.1 = some p.2 ∧ H p.1 = none ∧ p.1 ≠ X.env.locals ∧ p.1 ∉ X.fs ∧ ∀ v, p.2.data ≠ .cell v
  hok : HOk X.prog X.w H s.heap
  len : σ.length = X.N.length

section
variable {X : Cx} {pins : List (Addr × Obj)} {σ : List (Option V)} {H H' : Hp} {s : Shared} {h' : Heap}

theorem Cx.Ok.nofr (ok : X.Ok) {b : Addr} {o : Obj} (e : X.base.get? b = some o) : b ∉ X.fs := fun hb => by
  have := (ok.funs.mem hb).1
  rw [e] at this; cases this
theorem Inv.bs (I : Inv X pins σ H s) : ∀ b o, X.base.get? b = some o → s.heap.get? b = some o ∧ H b = none := fun b o e =>
  ⟨I.base.keep b o (I.ok.bs b o e).1 (I.ok.bs b o e).2 (I.ok.nofr e) (I.ok.noex b o e), I.base.free b o (I.ok.bs b o e).1 (I.ok.bs b o e).2 (I.ok.noex b o e)⟩
theorem Inv.bk (I : Inv X pins σ H s) : ∀ b o, X.base.get? b = some o → s.heap.get? b = some o := fun b o e => (I.bs b o e).1
theorem Inv.mod (I : Inv X pins σ H s) : Mod X.K X.mg X.base := I.ok.mod
theorem Inv.kIn (I : Inv X pins σ H s) : X.K.In s.heap := I.ok.mod.kin.keeps I.bk
theorem Inv.nolimit (I : Inv X pins σ H s) : s.heap.NoLimit := I.ok.mod.nolimit.keeps I.bk
/-- the frame over the base: for OpenK's rules (K.In X.base is I.mod.kin) -/
theorem Inv.fr (I : Inv X pins σ H s) : ∃ m, Fr X.base X.env.locals s.heap m :=
  let ⟨m, hn, _⟩ := I.loc
  ⟨m, hn, I.bk, Nat.le_trans I.ok.bsz I.ok.above⟩
theorem Inv.lt (I : Inv X pins σ H s) : X.env.locals < s.heap.objs.size := let ⟨_, hn, _⟩ := I.loc; hn.lt
theorem Inv.sz (I : Inv X pins σ H s) : X.s₀.heap.objs.size ≤ s.heap.objs.size := Nat.le_trans I.ok.above (Nat.le_of_lt I.lt)
theorem Inv.nofs (I : Inv X pins σ H s) {a : Addr} (h : s.heap.objs.size ≤ a) : a ∉ X.fs := fun hb => by
  obtain ⟨_, o, ho, _⟩ := I.ok.funs.mem hb
  exact absurd (Nat.lt_of_lt_of_le (Heap.lt_size ho) (Nat.le_trans I.sz h)) (Nat.lt_irrefl _)
theorem Inv.cne (I : Inv X pins σ H s) : ∀ x c, X.env.cells.lookup x = some c → c ≠ X.env.locals := fun x c e z => by
  obtain ⟨v, o, ho, hd⟩ := I.cell x c e
  obtain ⟨m, ⟨o', es, ep, ho', hd', _⟩, _⟩ := I.loc
  rw [z, ho'] at ho; cases ho; rw [hd'] at hd; cases hd
theorem Inv.funs (I : Inv X pins σ H s) : s.heap.FunFrames X.base X.outer := by
  have all : ∀ (l : List Env), (∀ b ∈ frs l, b ∈ X.fs) → X.s₀.heap.FunFrames X.base l → s.heap.FunFrames X.base l := by
    intro l
    induction l with
    | nil => intro _ _; trivial
    | cons env r ih =>
      intro hs hl
      obtain ⟨hk, ⟨L, o, hf, hn, ho, hd⟩, hr⟩ := hl
      have hL : L ∈ X.fs := hs L (by unfold frs; rw [List.filterMap_cons, hf]; exact List.mem_cons_self)
      obtain ⟨sl, e⟩ := I.base.slot L o ho (I.ok.frf L hL) hL fun z => I.ok.exfs L z hL
      exact ⟨hk, ⟨L, _, hf, hn, e, hd⟩, ih (fun b hb => hs b (by unfold frs; rw [List.filterMap_cons, hf]; exact List.mem_cons_of_mem _ hb)) hr⟩
  exact all X.outer (fun _ hb => hb) I.ok.funs

/-- the frames that run, for a call -/
theorem Inv.stack (I : Inv X pins σ H s) : s.heap.FunFrames X.base X.stack := by
  rcases I.ok.stk with e | ⟨e, hf⟩
  · rw [e]; exact I.funs
  · rw [e]
    obtain ⟨m, hn, _⟩ := I.loc
    refine .cons (by rw [I.ok.kind]; decide) hf hn ?_ I.funs
    exact Heap.get?_none_of_le (Nat.le_trans I.ok.bsz I.ok.above)
theorem Inv.stkSub (I : Inv X pins σ H s) : ∀ b ∈ frs X.stack, b ∈ X.env.locals :: X.fs := fun b hb => by
  rcases I.ok.stk with e | ⟨e, hf⟩
  · rw [e] at hb; exact List.mem_cons_of_mem _ hb
  · rw [e] at hb
    unfold frs at hb
    rw [List.filterMap_cons, hf] at hb
    exact hb
theorem Inv.stkFree (I : Inv X pins σ H s) : ∀ b ∈ frs X.stack, H b = none := fun b hb => by
  rcases List.mem_cons.mp (I.stkSub b hb) with e | hb
  · rw [e]; exact I.free
  · obtain ⟨_, o, ho, _⟩ := I.ok.funs.mem hb
    exact I.base.free b o ho (I.ok.frf b hb) fun z => I.ok.exfs b z hb

/-- THE STEP: the untracked objects but the frame and the records at ch are kept (the callers' frames up to slots), the frame's map is kept, the new abstract heap is held -/
theorem Inv.step {g' : Array GenState} {t' : Nat} {d' : Drawn} {ch : List Addr} (I : Inv X pins σ H s)
    (hch : ∀ b ∈ ch, (b ∈ X.ex ∨ X.s₀.heap.objs.size ≤ b) ∧ b ≠ X.env.locals ∧ (∀ x c, X.env.cells.lookup x = some c → c ≠ b) ∧ ∀ p ∈ X.pn ++ pins, p.1 ≠ b)
    (keep : ∀ b o, b ≠ X.env.locals → b ∉ X.fs → b ∉ ch → s.heap.get? b = some o → H b = none → h'.get? b = some o)
    (slot : ∀ b o, b ≠ X.env.locals → b ∈ X.fs → b ∉ ch → s.heap.get? b = some o → H b = none → ∃ sl, h'.get? b = some { o with slots := sl }) (free : ∀ b o, b ∉ ch → s.heap.get? b = some o → H b = none → H' b = none)
    (there : ∀ b o, b ∉ ch → s.heap.get? b = some o → ∃ o', h'.get? b = some o')
    (tups : ∀ b xs, H b = some (.tup xs) → H' b = some (.tup xs)) (frzs : ∀ b o u, H b = some (.frz o u) → H' b = some (.frz o u)) (tbls : ∀ b ps, H b = some (.tbl ps) → ∃ more, H' b = some (.tbl (ps ++ more)))
    (ns : ∀ m, s.heap.Ns X.env.locals m → h'.Ns X.env.locals m) (hok : HOk X.prog X.w H' h') (hg : AllBare g') :
    Inv X pins σ H' { s with heap := h', gens := g', drawn := d', toks := t' } := by
  have neL : ∀ b o, X.s₀.heap.get? b = some o → b ≠ X.env.locals := fun b o e => Nat.ne_of_lt (Nat.lt_of_lt_of_le (Heap.lt_size e) I.ok.above)
  have neC : ∀ b o, X.s₀.heap.get? b = some o → b ∉ X.ex → b ∉ ch := fun b o e hx hb => by
    rcases (hch b hb).1 with z | z
    · exact hx z
    · exact absurd (Nat.lt_of_lt_of_le (Heap.lt_size e) z) (Nat.lt_irrefl _)
  have cellK : ∀ x c, X.env.cells.lookup x = some c → ∀ v, s.heap.IsCell c v → h'.IsCell c v := fun x c e v ⟨o, ho, hd⟩ => by
    have nch : c ∉ ch := fun z => (hch c z).2.2.1 x c e rfl
    by_cases hc : c ∈ X.fs
    · obtain ⟨sl, q⟩ := slot c o (I.cne x c e) hc nch ho (I.freeC x c e)
      exact ⟨_, q, hd⟩
    · exact ⟨o, keep c o (I.cne x c e) hc nch ho (I.freeC x c e), hd⟩
  refine ⟨I.ok, I.os, hg, ⟨fun b o e n hb hx => ?_, fun b o e n hb hx => ?_, fun b o e n hx => ?_, fun b o e hx => ?_, fun b xs e => tups b xs (I.base.tups b xs e), fun b o xs e => frzs b o xs (I.base.frzs b o xs e), fun b ps e => ?_⟩, ?_, fun x c e => ?_, ?_, fun x c e => ?_, fun p hp => ?_, hok, I.len⟩
  · exact keep b o (neL b o e) hb (neC b o e hx) (I.base.keep b o e n hb hx) (I.base.free b o e n hx)
  · obtain ⟨sl, e1⟩ := I.base.slot b o e n hb hx
    obtain ⟨sl', e2⟩ := slot b _ (neL b o e) hb (neC b o e hx) e1 (I.base.free b o e n hx)
    exact ⟨sl', e2⟩
  · obtain ⟨o', e1⟩ := I.base.there b o e hx
    exact free b o' (neC b o e hx) e1 (I.base.free b o e n hx)
  · obtain ⟨o', e1⟩ := I.base.there b o e hx
    exact there b o' (neC b o e hx) e1
  · obtain ⟨m1, e1⟩ := I.base.tbls b ps e
    obtain ⟨m2, e2⟩ := tbls b _ e1
    exact ⟨m1 ++ m2, by rw [e2, Array.append_assoc]⟩
  · obtain ⟨m, hn, hl⟩ := I.loc
    refine ⟨m, ns m hn, fun i x v e1 e2 e3 => ?_⟩
    obtain ⟨u, r, l⟩ := hl i x v e1 e2 e3
    refine ⟨u, r, ?_⟩
    rcases l with l | ⟨k, c, e, z⟩
    · exact .inl l
    · exact .inr ⟨k, c, e, cellK x c e _ z⟩
  · obtain ⟨v, z⟩ := I.cell x c e
    exact ⟨v, cellK x c e v z⟩
  · obtain ⟨m, ⟨o, _, _, ho, _⟩, _⟩ := I.loc
    exact free _ o (fun z => (hch _ z).2.1 rfl) ho I.free
  · obtain ⟨v, o, ho, hd⟩ := I.cell x c e
    exact free c o (fun z => (hch c z).2.2.1 x c e rfl) ho (I.freeC x c e)
  · obtain ⟨e, n, ne, nf, d⟩ := I.pin p hp
    have nch : p.1 ∉ ch := fun z => (hch p.1 z).2.2.2 p hp rfl
    exact ⟨keep p.1 p.2 ne nf nch e n, free p.1 p.2 nch e n, ne, nf, d⟩
/-- .. where the frame's own object is kept too -/
theorem Inv.un {t' : Nat} (I : Inv X pins σ H s) (u : Un X.fs [] H H' s.heap h') (hok : HOk X.prog X.w H' h') : Inv X pins σ H' { s with heap := h', toks := t' } := by
  obtain ⟨m, ⟨o, es, ep, ho, r⟩, _⟩ := id I.loc
  obtain ⟨sl, hL⟩ := u.any ho I.free (by simp)
  exact I.step (g' := s.gens) (d' := s.drawn) (ch := []) (fun _ z => nomatch z) (fun b o _ hb _ e n => u.keep b o e n hb (by simp)) (fun b o _ hb _ e n => u.slot b o e n hb (by simp)) (fun b o _ e n => u.free b o e n (by simp)) (fun b o _ e => u.there b o e (by simp)) u.tups u.frzs u.tbls (fun m' hm => by
    obtain ⟨o', es', ep', ho', r'⟩ := hm
    rw [ho] at ho'; cases ho'
    exact ⟨_, es', ep', hL, r'⟩) hok I.bare
/-- behind a call (or a comprehension's block): the slots of this frame may have changed too, the records at ch may have turned -/
theorem Inv.call {g' : Array GenState} {t' : Nat} {d' : Drawn} {ch : List Addr} (I : Inv X pins σ H s) (u : Un (frs X.stack) ch H H' s.heap h') (hok : HOk X.prog X.w H' h') (hg : AllBare g')
    (hch : ∀ b ∈ ch, (b ∈ X.ex ∨ X.s₀.heap.objs.size ≤ b) ∧ b ≠ X.env.locals ∧ (∀ x c, X.env.cells.lookup x = some c → c ≠ b) ∧ ∀ p ∈ X.pn ++ pins, p.1 ≠ b) :
    Inv X pins σ H' { s with heap := h', gens := g', drawn := d', toks := t' } := by
  obtain ⟨m, ⟨o, es, ep, ho, r⟩, _⟩ := id I.loc
  obtain ⟨sl, hL⟩ := u.any ho I.free fun z => (hch _ z).2.1 rfl
  exact I.step (ch := ch) hch (fun b o hL hb hc e n => u.keep b o e n (fun z => (List.mem_cons.mp (I.stkSub b z)).elim hL hb) hc) (fun b o _ _ hc e n => u.any e n hc) (fun b o hc e n => u.free b o e n hc) (fun b o hc e => u.there b o e hc) u.tups u.frzs u.tbls (fun m' hm => by
    obtain ⟨o', es', ep', ho', r'⟩ := hm
    rw [ho] at ho'; cases ho'
    exact ⟨_, es', ep', hL, r'⟩) hok hg
/-- an untracked record of ours (an iterator) has turned -/
theorem Inv.turned {t' : Nat} {it : Addr} (I : Inv X pins σ H s) (k : ∀ b o, b ≠ it → s.heap.get? b = some o → h'.get? b = some o) (hn : H it = none) (hL : it ≠ X.env.locals)
    (h1 : it ∈ X.ex ∨ X.s₀.heap.objs.size ≤ it) (h2 : ∀ x c, X.env.cells.lookup x = some c → c ≠ it) (h3 : ∀ p ∈ X.pn ++ pins, p.1 ≠ it) : Inv X pins σ H { s with heap := h', toks := t' } := by
  have nit : ∀ b u, H b = some u → b ≠ it := fun b u e z => by rw [z, hn] at e; cases e
  refine I.step (g' := s.gens) (d' := s.drawn) (ch := [it]) (fun b hb => ?_) (fun b o _ _ hc e _ => k b o (fun z => hc (by simp [z])) e) (fun b o _ _ hc e _ => ⟨o.slots, k b o (fun z => hc (by simp [z])) e⟩) (fun _ _ _ _ n => n)
    (fun b o hc e => ⟨o, k b o (fun z => hc (by simp [z])) e⟩) (fun _ _ e => e) (fun _ _ _ e => e) (fun b ps e => ⟨#[], by rw [e]; simp⟩) (fun m hm => ?_) (fun b u e => ?_) I.bare
  · have e : b = it := by simpa using hb
    subst e
    exact ⟨h1, hL, h2, h3⟩
  · obtain ⟨o, es, ep, ho, r⟩ := hm
    exact ⟨o, es, ep, k _ o (Ne.symm hL) ho, r⟩
  · refine (I.hok b u e).stay (fun c v hc q => k c v ?_ q) (fun _ q => q) fun _ _ q => q
    rcases hc with z | z
    · rw [z]; exact nit b u e
    · exact nit c _ z
theorem Inv.tok (I : Inv X pins σ H s) (t : Nat) : Inv X pins σ H { s with toks := t } := I.un (h' := s.heap) (t' := t) Un.refl I.hok
/-- all objects kept -/
theorem Inv.kept {t' : Nat} (I : Inv X pins σ H s) (k : ∀ b u, s.heap.get? b = some u → h'.get? b = some u) : Inv X pins σ H { s with heap := h', toks := t' } := I.un (Un.kept k) (I.hok.kept k)
/-- a new object laid and tracked -/
theorem Inv.laid {a : Addr} {o : HO} {t' : Nat} (I : Inv X pins σ H s) (k : ∀ b u, s.heap.get? b = some u → h'.get? b = some u) (hp : s.heap.objs.size ≤ a) (new : ObjOk X.prog X.w (upd H a o) h' a o) :
    Inv X pins σ (upd H a o) { s with heap := h', toks := t' } := I.un (Un.laid k hp (I.hok.fresh hp)) (I.hok.laid k hp new)
/-- an object written -/
theorem Inv.write {x e : Addr} {o : HO} {t' : Nat} (I : Inv X pins σ H s) (mu : Mut (H x)) (he : e = x ∨ H e = some (.own x)) (k : ∀ b u, b ≠ e → s.heap.get? b = some u → h'.get? b = some u) (heo : ∃ u, h'.get? e = some u)
    (new : ObjOk X.prog X.w (upd H x o) h' x o) : Inv X pins σ (upd H x o) { s with heap := h', toks := t' } := I.un (Un.write mu he k heo) (I.hok.write mu he k heo new)
theorem Inv.pins_of {pins' : List (Addr × Obj)} (I : Inv X pins σ H s) (h : ∀ p ∈ pins', s.heap.get? p.1 = some p.2 ∧ H p.1 = none ∧ p.1 ≠ X.env.locals ∧ p.1 ∉ X.fs ∧ ∀ v, p.2.data ≠ .cell v) : Inv X pins' σ H s :=
  ⟨I.ok, I.os, I.bare, I.base, I.loc, I.cell, I.free, I.freeC, fun p hp => (List.mem_append.mp hp).elim (fun z => I.pin p (List.mem_append_left _ z)) (h p), I.hok, I.len⟩

theorem nodup_ix {N : List Str} (hN : N.Nodup) {i j : Nat} {x : Str} (a : N[i]? = some x) (b : N[j]? = some x) : i = j := by
  obtain ⟨h1, e1⟩ := List.getElem?_eq_some_iff.mp a
  obtain ⟨h2, e2⟩ := List.getElem?_eq_some_iff.mp b
  exact (List.getElem_inj hN).mp (e1.trans e2.symm)

/-- a name is stored; what changed -/
theorem store_ok2 {M : Model} {A : Around} {E : Value → Shared → Prop} {i : Nat} {x : Str} {v : V} {u : Value} {Q : Unit → Shared → Prop} (I : Inv X pins σ H s) (hN : X.N.Nodup) (hi : X.N[i]? = some x) (hx : Loc X.env.scope x) (r : RelV v u)
    (h : ∀ s', Inv X pins (σ.set i (some v)) H s' → (∃ a, Heap.SameBut a s.heap s'.heap ∧ (a = X.env.locals ∨ X.env.cells.lookup x = some a)) → Q () s') (hf : X.fn x = true ∨ X.env.scope.names.lookup x = some .local := by first | exact .inl rfl | exact .inr rfl | assumption) : wpAny M A (storeName X.env x u) Q E s := by
  obtain ⟨m, hn, hl⟩ := id I.loc
  have hcls : (X.env.scope.kind == .class || (X.env.scope.kind == .module && X.env.locals != X.env.globals)) = false := by rw [I.ok.kind]; rfl
  have hiσ : i < σ.length := by rw [I.len]; exact (List.getElem?_eq_some_iff.mp hi).1
  have cne := I.cne
  have tracked : ∀ {a : Addr} {h' : Heap}, (∃ o, s.heap.get? a = some o ∧ H a = none) → Heap.SameBut a s.heap h' → HOk X.prog X.w H h' := fun {a h'} ha hs b ob e => by
    obtain ⟨_, _, hfree⟩ := ha
    refine (I.hok b ob e).stay (fun c w' hc q => (hs.2 c ?_).trans q) (fun _ q => q) fun _ _ q => q
    rintro rfl
    rcases hc with rfl | hc
    · rw [hfree] at e; cases e
    · rw [hfree] at hc; cases hc
  rcases hx with hk | hk
  · refine wpAny_storeName_local hk hn (fun h' hn' hs => ?_) hcls
    obtain ⟨oL, _, _, hoL, _⟩ := id hn
    refine h _ ⟨I.ok, I.os, I.bare, ⟨fun b o e n hb hx => ?_, fun b o e n hb hx => ?_, I.base.free, fun b o e hx => ?_, I.base.tups, I.base.frzs, I.base.tbls⟩, ⟨_, hn', fun j y v' e1 e2 e3 => ?_⟩, fun y c e => ?_, I.free, I.freeC, fun p hp => ?_, tracked ⟨oL, hoL, I.free⟩ hs, by simpa using I.len⟩ ⟨_, hs, .inl rfl⟩
    · exact (hs.2 b (Nat.ne_of_lt (Nat.lt_of_lt_of_le (Heap.lt_size e) I.ok.above))).trans (I.base.keep b o e n hb hx)
    · obtain ⟨sl, e1⟩ := I.base.slot b o e n hb hx
      exact ⟨sl, (hs.2 b (Nat.ne_of_lt (Nat.lt_of_lt_of_le (Heap.lt_size e) I.ok.above))).trans e1⟩
    · obtain ⟨o', e1⟩ := I.base.there b o e hx
      exact ⟨o', (hs.2 b (Nat.ne_of_lt (Nat.lt_of_lt_of_le (Heap.lt_size e) I.ok.above))).trans e1⟩
    · by_cases hj : j = i
      · subst hj
        rw [hi] at e1; cases e1
        rw [List.getElem?_set_self hiσ] at e2
        cases e2
        exact ⟨u, r, .inl ⟨hk, by simp⟩⟩
      · rw [List.getElem?_set_ne (Ne.symm hj)] at e2
        obtain ⟨u', r', q⟩ := hl j y v' e1 e2 e3
        refine ⟨u', r', ?_⟩
        rcases q with ⟨k, e⟩ | ⟨k, c, e, z⟩
        · refine .inl ⟨k, ?_⟩
          have : y ≠ x := fun e => hj (nodup_ix hN e1 (e ▸ hi))
          simp [this, e]
        · exact .inr ⟨k, c, e, z.sameBut hs (cne y c e)⟩
    · obtain ⟨w', z⟩ := I.cell y c e
      exact ⟨w', z.sameBut hs (cne y c e)⟩
    · obtain ⟨e, n, ne, nf, d⟩ := I.pin p hp
      exact ⟨(hs.2 p.1 ne).trans e, n, ne, nf, d⟩
  · have hfn : X.fn x = true := by
      rcases hf with z | z
      · exact z
      · rw [z] at hk; cases hk
    obtain ⟨c, hc⟩ := I.ok.has x (.inl hk)
    obtain ⟨w', z⟩ := I.cell x c hc
    refine wpAny_storeName_cell I.ok.kind hk hc z (fun h' hc' hs => ?_)
    obtain ⟨oc, hoc, hocd⟩ := id z
    refine h { s with heap := h' } ⟨I.ok, I.os, I.bare, ⟨fun b o e n hb hx => ?_, fun b o e n hb hx => ?_, I.base.free, fun b o e hx => ?_, I.base.tups, I.base.frzs, I.base.tbls⟩, ⟨m, hn.sameBut hs (Ne.symm (cne x c hc)), fun j y v' e1 e2 e3 => ?_⟩, fun y c' e => ?_, I.free, I.freeC, fun p hp => ?_, tracked ⟨oc, hoc, I.freeC x c hc⟩ hs, by simpa using I.len⟩ ⟨c, hs, .inr hc⟩
    · exact (hs.2 b (Nat.ne_of_lt (Nat.lt_of_lt_of_le (Heap.lt_size e) (I.ok.cab x c hfn hc)))).trans (I.base.keep b o e n hb hx)
    · obtain ⟨sl, e1⟩ := I.base.slot b o e n hb hx
      exact ⟨sl, (hs.2 b (Nat.ne_of_lt (Nat.lt_of_lt_of_le (Heap.lt_size e) (I.ok.cab x c hfn hc)))).trans e1⟩
    · obtain ⟨o', e1⟩ := I.base.there b o e hx
      exact ⟨o', (hs.2 b (Nat.ne_of_lt (Nat.lt_of_lt_of_le (Heap.lt_size e) (I.ok.cab x c hfn hc)))).trans e1⟩
    · by_cases hj : j = i
      · subst hj
        rw [hi] at e1; cases e1
        rw [List.getElem?_set_self hiσ] at e2
        cases e2
        exact ⟨u, r, .inr ⟨.inl hk, c, hc, hc'⟩⟩
      · rw [List.getElem?_set_ne (Ne.symm hj)] at e2
        obtain ⟨u', r', q⟩ := hl j y v' e1 e2 e3
        refine ⟨u', r', ?_⟩
        rcases q with q | ⟨k, c', e, z'⟩
        · exact .inl q
        · refine .inr ⟨k, c', e, z'.sameBut hs ?_⟩
          rintro rfl
          exact hj (nodup_ix hN e1 (I.ok.inj _ _ _ e hc ▸ hi))
    · by_cases hcc : c' = c
      · subst hcc; exact ⟨_, hc'⟩
      · obtain ⟨w2, z2⟩ := I.cell y c' e
        exact ⟨w2, z2.sameBut hs hcc⟩
    · obtain ⟨e, n, ne, nf, d⟩ := I.pin p hp
      refine ⟨(hs.2 p.1 ?_).trans e, n, ne, nf, d⟩
      intro q
      rw [q, hoc] at e
      have q' : oc = p.2 := Option.some.inj e
      exact d w' (by rw [← q']; exact hocd)
theorem store_ok {M : Model} {A : Around} {E : Value → Shared → Prop} {i : Nat} {x : Str} {v : V} {u : Value} {Q : Unit → Shared → Prop} (I : Inv X pins σ H s) (hN : X.N.Nodup) (hi : X.N[i]? = some x) (hx : Loc X.env.scope x) (r : RelV v u)
    (h : ∀ s', Inv X pins (σ.set i (some v)) H s' → Q () s') (hf : X.fn x = true ∨ X.env.scope.names.lookup x = some .local := by first | exact .inl rfl | exact .inr rfl | assumption) : wpAny M A (storeName X.env x u) Q E s :=
  store_ok2 I hN hi hx r (fun s' I' _ => h s' I') hf
/-- behind a call or a block, the state as it is -/
theorem Inv.call' {s' : Shared} {ch : List Addr} (I : Inv X pins σ H s) (ho : s'.os = s.os) (u : Un (frs X.stack) ch H H' s.heap s'.heap) (hok : HOk X.prog X.w H' s'.heap) (hg : AllBare s'.gens)
    (hch : ∀ b ∈ ch, (b ∈ X.ex ∨ X.s₀.heap.objs.size ≤ b) ∧ b ≠ X.env.locals ∧ (∀ x c, X.env.cells.lookup x = some c → c ≠ b) ∧ ∀ p ∈ X.pn ++ pins, p.1 ≠ b) : Inv X pins σ H' s' := by
  obtain ⟨h', g', d', t', o'⟩ := s'
  have e : o' = s.os := ho
  subst e
  exact I.call (g' := g') (t' := t') (d' := d') u hok hg hch
end

/-! ### the judgements -/
/-- an exception: its class, its own dict's address (where it has one), the abstract heap behind it -/
abbrev XK := Value → Option Addr → Hp → Prop
abbrev St := List (Option V)
abbrev VK := V → Hp → Prop
/-- an expression's reading; a test's; an argument list's -/
abbrev TE := St → Hp → VK → Prop
abbrev TT := St → Hp → (Bool → Hp → Prop) → Prop
abbrev TA := St → Hp → (List V → Hp → Prop) → Prop
/-- what is wanted behind a statement -/
structure Ends where
  nx : St → Hp → Prop
  rt : VK
  bk : St → Hp → Prop := fun _ _ => False
  ct : St → Hp → Prop := fun _ _ => False
abbrev TS := Ends → St → Hp → Prop

def EP (X : Cx) (pins : List (Addr × Obj)) (σ : St) (Q : VK) (u : Value) (s' : Shared) : Prop := ∃ v H', Inv X pins σ H' s' ∧ RelV v u ∧ Q v H'
def TP (X : Cx) (pins : List (Addr × Obj)) (σ : St) (Q : Bool → Hp → Prop) (b : Bool) (s' : Shared) : Prop := ∃ H', Inv X pins σ H' s' ∧ Q b H'
def AP (X : Cx) (pins : List (Addr × Obj)) (σ : St) (Q : List V → Hp → Prop) (us : List Value) (s' : Shared) : Prop := ∃ vs H', Inv X pins σ H' s' ∧ Vals vs us ∧ Q vs H'
def SP (X : Cx) (pins : List (Addr × Obj)) (D : Ends) (f : Flow) (s' : Shared) : Prop :=
  match f with
  | .next => ∃ σ' H', Inv X pins σ' H' s' ∧ D.nx σ' H'
  | .brk => ∃ σ' H', Inv X pins σ' H' s' ∧ D.bk σ' H'
  | .cont => ∃ σ' H', Inv X pins σ' H' s' ∧ D.ct σ' H'
  | .ret u => ∃ v σ' H', Inv X pins σ' H' s' ∧ RelV v u ∧ D.rt v H'

def PE (X : Cx) (e : Expr) (t : TE) : Prop :=
  ∀ (pins : List (Addr × Obj)) (s : Shared) (σ : St) (H : Hp) (Q : VK), Inv X pins σ H s → t σ H Q → wpAny (model X.prog X.w) X.A (eval e X.env) (EP X pins σ Q) X.xe s
def PT (X : Cx) (e : Expr) (t : TT) : Prop :=
  ∀ (pins : List (Addr × Obj)) (s : Shared) (σ : St) (H : Hp) (Q : Bool → Hp → Prop), Inv X pins σ H s → t σ H Q → wpAny (model X.prog X.w) X.A (isTrue e X.env (eval e X.env)) (TP X pins σ Q) X.xe s
/-- a test whatever its 'whole' is (and, or) -/
def PW (X : Cx) (e : Expr) (t : TT) : Prop :=
  ∀ (whole : Sem Value) (pins : List (Addr × Obj)) (s : Shared) (σ : St) (H : Hp) (Q : Bool → Hp → Prop), Inv X pins σ H s → t σ H Q → wpAny (model X.prog X.w) X.A (isTrue e X.env whole) (TP X pins σ Q) X.xe s
theorem PW.pt {X : Cx} {e : Expr} {t : TT} (h : PW X e t) : PT X e t := h _
/-- an argument list (no star), from the left -/
def PA (X : Cx) (es : List Expr) (t : TA) : Prop :=
  ∀ (pos : Pos) (pins : List (Addr × Obj)) (s : Shared) (σ : St) (H : Hp) (Q : List V → Hp → Prop), Inv X pins σ H s → t σ H Q → wpAny (model X.prog X.w) X.A (spliced (backTo pos (starEach es X.env))) (AP X pins σ Q) X.xe s
def PS (X : Cx) (st : Stmt) (t : TS) : Prop :=
  ∀ (pins : List (Addr × Obj)) (s : Shared) (σ : St) (H : Hp) (D : Ends), Inv X pins σ H s → t D σ H → wpAny (model X.prog X.w) X.A (exec st X.env) (SP X pins D) X.xe s
def PSs (X : Cx) (st : List Stmt) (t : TS) : Prop :=
  ∀ (pins : List (Addr × Obj)) (s : Shared) (σ : St) (H : Hp) (D : Ends), Inv X pins σ H s → t D σ H → wpAny (model X.prog X.w) X.A (execs st X.env) (SP X pins D) X.xe s
/-- weaken the end -/
theorem thn {α : Type} {t : Sem α} {Q Q' : α → Shared → Prop} {M : Model} {A : Around} {E : Value → Shared → Prop} {s : Shared} (h : wpAny M A t Q E s) (hQ : ∀ a s, Q a s → Q' a s) : wpAny M A t Q' E s := wpAny_mono h hQ fun _ _ x => x
end L2

namespace L2
open PySem PySem.Spec PyProof.Rows
section
variable {X : Cx}

/-! ### names and constants -/
def tVar (i : Nat) : TE := fun σ H Q => ∃ v, σ[i]? = some (some v) ∧ Q v H
def tC (v : V) : TE := fun _ H Q => Q v H
theorem pe_var {i : Nat} {x : Str} {pos : Pos} (hN : X.N[i]? = some x) (hv : Vis X.env.scope x) (hd : (x == ("__debug__" : Str)) = false := by decide) (hcd : (x == ("__classdict__" : Str)) = false := by decide) : PE X (.Name x pos) (tVar i) := by
  intro pins s σ H Q I h
  obtain ⟨v, e, h⟩ := h
  obtain ⟨m, hn, hl⟩ := I.loc
  obtain ⟨u, r, l⟩ := hl i x v hN e hv
  have fin : EP X pins σ Q u s := ⟨v, H, I, r, h⟩
  rcases l with ⟨hk, hm⟩ | ⟨hk, c, hc, hcell⟩
  · exact wpAny_Name (wpAny_loadName_local I.ok.kind hk hn hm fin) hd
  · rcases hk with hk | hk
    · exact wpAny_Name (wpAny_loadName_cell I.ok.kind hk hc hcell fin) hd
    · exact wpAny_Name (wpAny_loadName_free I.ok.kind hk hc hcell fin hcd) hd
theorem pe_int {i j pos} : PE X (.Constant (.int i) j pos) (tC (.int i)) := fun _ _ _ H _ I h => wpAny_Constant_int ⟨.int i, H, I.tok _, ⟨_, rfl⟩, h⟩
theorem pe_bl {b j pos} : PE X (.Constant (.bool b) j pos) (tC (.bl b)) := fun _ _ _ H _ I h => Constant_bool ⟨.bl b, H, I, rfl, h⟩
theorem pe_non {j pos} : PE X (.Constant .none j pos) (tC .non) := fun _ _ _ H _ I h => Constant_none ⟨.non, H, I, rfl, h⟩
theorem pe_str {x j pos} : PE X (.Constant (.str x) j pos) (tC (.str x)) := fun _ _ _ H _ I h => Calls.Constant_str ⟨.str x, H, I.tok _, ⟨_, rfl⟩, h⟩

/-- a global name of the def -/
def Gl (X : Cx) (x : Str) : Prop := X.env.kindOf x = some .globalImplicit
theorem ld_glob {E : Value → Shared → Prop} {pins : List (Addr × Obj)} {s : Shared} {σ : St} {H : Hp} {x : Str} {u : Value} {pos : Pos} {Q : Value → Shared → Prop} (I : Inv X pins σ H s) (hg : Gl X x) (hm : X.mg x = some u) (h : Q u s)
    (hd : (x == ("__debug__" : Str)) = false := by decide) : wpAny (model X.prog X.w) X.A (eval (.Name x pos) X.env) Q E s :=
  Calls.Name_function_global I.ok.kind hg (Calls.loadGlobal_global (by rw [I.ok.glob]; exact I.mod.glob.keeps I.bk) hm h) hd
theorem ld_blt {E : Value → Shared → Prop} {pins : List (Addr × Obj)} {s : Shared} {σ : St} {H : Hp} {x : Str} {u : Value} {pos : Pos} {Q : Value → Shared → Prop} (I : Inv X pins σ H s) (hg : Gl X x) (hm : X.mg x = none) (hv : bootBuiltins x = some u) (h : Q u s)
    (hn : x ≠ "__name__" := by decide) (hd : (x == ("__debug__" : Str)) = false := by decide) : wpAny (model X.prog X.w) X.A (eval (.Name x pos) X.env) Q E s := by
  obtain ⟨mb, h1, h2⟩ := I.mod.blt
  exact Calls.Name_function_global I.ok.kind hg (Calls.loadGlobal_builtin (by rw [I.ok.glob]; exact I.mod.glob.keeps I.bk) hm (by rw [I.ok.blt]; exact h1.keeps I.bk) ((h2 x hn).trans hv) h) hd
/-- a module's constant, a class, a function, as a value -/
theorem pe_glob {x : Str} {v : V} {u : Value} {pos : Pos} (hg : Gl X x) (hm : X.mg x = some u) (r : RelV v u) (hd : (x == ("__debug__" : Str)) = false := by decide) : PE X (.Name x pos) (tC v) :=
  fun _ _ _ H _ I h => ld_glob I hg hm ⟨v, H, I, r, h⟩ hd
theorem pe_bltn {x : Str} {v : V} {u : Value} {pos : Pos} (hg : Gl X x) (hm : X.mg x = none) (hv : bootBuiltins x = some u) (r : RelV v u) (hn : x ≠ "__name__" := by decide) (hd : (x == ("__debug__" : Str)) = false := by decide) : PE X (.Name x pos) (tC v) :=
  fun _ _ _ H _ I h => ld_blt I hg hm hv ⟨v, H, I, r, h⟩ hn hd

variable {a b : Expr} {ta tb : TE} {pos : Pos}
/-- a comparison as a value, as a test -/
def tB (t : TE) : TT := fun σ H Q => t σ H fun x H1 => ∃ c, x = .bl c ∧ Q c H1
/-- an expression whose value is a bool, as a test -/
theorem pt_val {e : Expr} {t : TE} (h : PE X e t) (he : ∀ whole, isTrue e X.env whole = (do let v ← whole; standAt e.pos; holding [v] (truthy v)) := by intro _; rfl) : PT X e (tB t) := by
  intro pins s σ H Q I hw
  refine isTrue_plain (thn (h pins s σ H _ I hw) fun v s1 ⟨x, H1, I1, r1, q1⟩ => ?_) (he _)
  obtain ⟨d, rfl, q⟩ := q1
  cases r1
  exact wpAny_truthy_bool ⟨H1, I1, q⟩

/-! ### and, or, not -/
variable {tA tB' : TT} {rest : List Expr}
def tOr (t u : TT) : TT := fun σ H Q => t σ H fun c H1 => if c = true then Q true H1 else u σ H1 Q
def tNot (t : TT) : TT := fun σ H Q => t σ H fun c H1 => Q (!c) H1
theorem pw_or1 (ha : PT X a tA) : PW X (.BoolOp .Or [a] pos) tA := by
  intro wh pins s σ H Q I h
  refine isTrue_or (thn (ha pins s σ H Q I h) fun c s1 e => ?_)
  cases c with
  | false => exact isTrue_or_nil e
  | true => exact e
theorem pw_or (ha : PT X a tA) (hb : PW X (.BoolOp .Or (b :: rest) pos) tB') : PW X (.BoolOp .Or (a :: b :: rest) pos) (tOr tA tB') := by
  intro wh pins s σ H Q I h
  refine isTrue_or (thn (ha pins s σ H _ I h) fun c s1 ⟨H1, I1, q1⟩ => ?_)
  cases c with
  | true => exact ⟨H1, I1, q1⟩
  | false => exact hb wh pins s1 σ H1 Q I1 q1
theorem pt_not (ha : PT X a tA) : PT X (.UnaryOp .Not a pos) (tNot tA) := by
  intro pins s σ H Q I h
  exact isTrue_not (ha pins s σ H (fun c H1 => Q (!c) H1) I h)
/-- .. as values (bools) -/
def tAndV (ta tb : TE) : TE := fun σ H Q => ta σ H fun x H1 => ∃ c, x = .bl c ∧ if c = true then tb σ H1 Q else Q (.bl false) H1
def tNotV (ta : TE) : TE := fun σ H Q => ta σ H fun x H1 => ∃ c, x = .bl c ∧ Q (.bl (!c)) H1
theorem pe_one {op} {t : TE} (h : PE X a t) : PE X (.BoolOp op [a] pos) t := fun pins s σ H Q I hw => BoolOp_one (h pins s σ H Q I hw)
theorem pe_and (ha : PE X a ta) (hb : PE X (.BoolOp .And (b :: rest) pos) tb) : PE X (.BoolOp .And (a :: b :: rest) pos) (tAndV ta tb) := by
  intro pins s σ H Q I h
  refine BoolOp_and (thn (ha pins s σ H _ I h) fun v s1 ⟨x, H1, I1, r1, q1⟩ => ?_)
  obtain ⟨c, rfl, q1⟩ := q1
  cases r1
  refine wpAny_truthy_bool ?_
  cases c with
  | true => exact hb pins s1 σ H1 Q I1 q1
  | false => exact ⟨.bl false, H1, I1, rfl, q1⟩
theorem pe_not (ha : PE X a ta) : PE X (.UnaryOp .Not a pos) (tNotV ta) := by
  intro pins s σ H Q I h
  refine UnaryOp_ (thn (ha pins s σ H _ I h) fun v s1 ⟨x, H1, I1, r1, q1⟩ => ?_)
  obtain ⟨c, rfl, q1⟩ := q1
  cases r1
  exact not_of (wpAny_truthy_bool ⟨.bl (!c), H1, I1, rfl, q1⟩)
end
end L2

namespace L2
open PySem PySem.Spec PyProof.Rows

/-! ### a list, a tuple that is read: tracked, frozen, or an object of the module -/
def SqL (K : PySem.W.Frag) (H : Hp) (a : Addr) (xs : List V) : Prop :=
  Rd H a (.lst xs) ∨
    ∃ (o : Obj) (its : Array Value) (n : Nat), K.lookup a = some o ∧ o.cls = .type "list" ∧ o.dict = none ∧ o.data = .seq its n ∧ its.size ≤ sizeLine ∧ Vals xs its.toList
def SqT (K : PySem.W.Frag) (H : Hp) (a : Addr) (xs : List V) : Prop :=
  Rd H a (.tup xs) ∨
    ∃ (o : Obj) (its : Array Value) (n : Nat), K.lookup a = some o ∧ o.cls = .type "tuple" ∧ o.data = .seq its n ∧ its.size ≤ sizeLine ∧ Vals xs its.toList
def absV : Value → Option V
  | .none => some .non
  | .bool b => some (.bl b)
  | .int i _ => some (.int i)
  | .str x _ => some (.str x)
  | .bytes b _ => some (.byt b)
  | .float b _ => some (.flt b)
  | .ref a => some (.ref a)
  | .type n => some (.ty n)
  | _ => none
theorem RelV.abs {x : V} {u : Value} (r : RelV x u) : absV u = some x := by
  cases x with
  | non => cases r; rfl
  | bl _ => cases r; rfl
  | int _ => obtain ⟨t, rfl⟩ := r; rfl
  | str _ => obtain ⟨t, rfl⟩ := r; rfl
  | byt _ => obtain ⟨t, rfl⟩ := r; rfl
  | flt _ => obtain ⟨t, rfl⟩ := r; rfl
  | ref _ => cases r; rfl
  | ty _ => cases r; rfl
theorem RelV.inj {x y : V} {u : Value} (r : RelV x u) (q : RelV y u) : x = y := Option.some.inj (r.abs.symm.trans q.abs)
theorem Vals.inj : ∀ {xs ys : List V} {us : List Value}, Vals xs us → Vals ys us → xs = ys
  | _, _, _, .nil, .nil => rfl
  | _, _, _, .cons r t, .cons r' t' => by rw [r.inj r', Vals.inj t t']
section
variable {X : Cx} {pins : List (Addr × Obj)} {σ : St} {H : Hp} {s : Shared} {a : Addr} {xs ys : List V}
theorem SqL.of {K : PySem.W.Frag} (h : H a = some (.lst xs)) : SqL K H a xs := .inl (.inl h)
theorem SqT.of {K : PySem.W.Frag} (h : H a = some (.tup xs)) : SqT K H a xs := .inl (.inl h)
theorem Inv.list (I : Inv X pins σ H s) (h : SqL X.K H a xs) : ∃ its : List Value, Vals xs its ∧ PlainL s.heap a its.toArray ∧ xs.length ≤ sizeLine := by
  rcases h with h | ⟨o, its, n, hk, hc, hd, hs, hz, r⟩
  · obtain ⟨z, its, n, r, e⟩ := h.ok I.hok
    exact ⟨its, r, ⟨_, n, e, rfl, rfl, rfl⟩, z⟩
  · refine ⟨its.toList, r, ⟨o, n, I.kIn a o hk, hc, hd, by simpa using hs⟩, ?_⟩
    have e := r.length
    simp only [Array.length_toList] at e
    omega
theorem Inv.tuple (I : Inv X pins σ H s) (h : SqT X.K H a xs) : ∃ its : List Value, Vals xs its ∧ IsTup s.heap a its.toArray ∧ xs.length ≤ sizeLine := by
  rcases h with h | ⟨o, its, n, hk, hc, hs, hz, r⟩
  · obtain ⟨z, its, r, p⟩ := h.ok I.hok
    exact ⟨its, r, p, z⟩
  · refine ⟨its.toList, r, ⟨o, I.kIn a o hk, hc, n, by simpa using hs⟩, ?_⟩
    have e := r.length
    simp only [Array.length_toList] at e
    omega
theorem Inv.list_inj (I : Inv X pins σ H s) (h : SqL X.K H a xs) (h' : SqL X.K H a ys) : xs = ys := by
  obtain ⟨its, r, ⟨o, n, e, _, _, d⟩, _⟩ := I.list h
  obtain ⟨its', r', ⟨o', n', e', _, _, d'⟩, _⟩ := I.list h'
  rw [e] at e'; cases e'
  rw [d] at d'
  injection d' with d1 _
  have : its = its' := by simpa using congrArg Array.toList d1
  subst this
  exact r.inj r'
theorem Inv.tuple_inj (I : Inv X pins σ H s) (h : SqT X.K H a xs) (h' : SqT X.K H a ys) : xs = ys := by
  obtain ⟨its, r, ⟨o, e, _, n, d⟩, _⟩ := I.tuple h
  obtain ⟨its', r', ⟨o', e', _, n', d'⟩, _⟩ := I.tuple h'
  rw [e] at e'; cases e'
  rw [d] at d'
  injection d' with d1 _
  have : its = its' := by simpa using congrArg Array.toList d1
  subst this
  exact r.inj r'
end

/-! ### another wish about exceptions -/
abbrev Cx.wish (X : Cx) (E : Value → Shared → Prop) : Cx := { X with xe := E }
/-- no exception leaves -/
abbrev Cx.nox (X : Cx) : Cx := X.wish fun _ _ => False
theorem Cx.Ok.wish {X : Cx} (ok : X.Ok) (E : Value → Shared → Prop) : (X.wish E).Ok :=
  ⟨ok.mod, ok.kind, ok.glob, ok.blt, ok.above, ok.inj, ok.has, ok.cab, ok.hd, ok.frames, ok.stk, ok.exf, ok.bs, ok.bsz, ok.noex, ok.exfs, ok.funs, ok.frf⟩
theorem Cx.Ok.unwish {X : Cx} {E : Value → Shared → Prop} (ok : (X.wish E).Ok) : X.Ok :=
  ⟨ok.mod, ok.kind, ok.glob, ok.blt, ok.above, ok.inj, ok.has, ok.cab, ok.hd, ok.frames, ok.stk, ok.exf, ok.bs, ok.bsz, ok.noex, ok.exfs, ok.funs, ok.frf⟩
section
variable {X : Cx} {pins : List (Addr × Obj)} {σ : St} {H : Hp} {s : Shared} {E : Value → Shared → Prop}
theorem Inv.wish (I : Inv X pins σ H s) (E : Value → Shared → Prop) : Inv (X.wish E) pins σ H s := ⟨I.ok.wish E, I.os, I.bare, I.base, I.loc, I.cell, I.free, I.freeC, I.pin, I.hok, I.len⟩
theorem Inv.unwish (I : Inv (X.wish E) pins σ H s) : Inv X pins σ H s := ⟨I.ok.unwish, I.os, I.bare, I.base, I.loc, I.cell, I.free, I.freeC, I.pin, I.hok, I.len⟩
theorem SP.unwish {D : Ends} {f : Flow} {s' : Shared} (h : SP (X.wish E) pins D f s') : SP X pins D f s' := by
  cases f with
  | next => obtain ⟨σ', H', I, q⟩ := h; exact ⟨σ', H', I.unwish, q⟩
  | brk => obtain ⟨σ', H', I, q⟩ := h; exact ⟨σ', H', I.unwish, q⟩
  | cont => obtain ⟨σ', H', I, q⟩ := h; exact ⟨σ', H', I.unwish, q⟩
  | ret u => obtain ⟨v, σ', H', I, r, q⟩ := h; exact ⟨v, σ', H', I.unwish, r, q⟩
theorem PE.nox {e : Expr} {t : TE} (h : PE X.nox e t) : PE X e t := fun pins s σ H Q I hw =>
  wpAny_mono (h pins s σ H Q (I.wish _) hw) (fun _ _ ⟨v, H', I', r, q⟩ => ⟨v, H', I'.unwish, r, q⟩) fun _ _ z => False.elim z
theorem PT.nox {e : Expr} {t : TT} (h : PT X.nox e t) : PT X e t := fun pins s σ H Q I hw =>
  wpAny_mono (h pins s σ H Q (I.wish _) hw) (fun _ _ ⟨H', I', q⟩ => ⟨H', I'.unwish, q⟩) fun _ _ z => False.elim z
theorem PSs.nox {st : List Stmt} {t : TS} (h : PSs X.nox st t) : PSs X st t := fun pins s σ H D I hw =>
  wpAny_mono (h pins s σ H D (I.wish _) hw) (fun _ _ q => q.unwish) fun _ _ z => False.elim z
end

/-! ### blocks and small statements -/
section
variable {X : Cx} {st : Stmt} {rest : List Stmt} {t u : TS} {e : Expr} {te : TE} {pos : Pos}
def tNext : TS := fun D σ H => D.nx σ H
def tSeq (t u : TS) : TS := fun D σ H => t { D with nx := u D } σ H
theorem pss_nil : PSs X [] tNext := fun _ _ σ H _ I h => wpAny_execs_nil ⟨σ, H, I, h⟩
theorem pss_cons (h1 : PS X st t) (h2 : PSs X rest u) : PSs X (st :: rest) (tSeq t u) := by
  intro pins s σ H D I h
  refine wpAny_execs_cons (thn (h1 pins s σ H { D with nx := u D } I h) fun f s1 q => ?_)
  cases f with
  | next =>
    obtain ⟨σ', H', I', q⟩ := q
    exact h2 pins s1 σ' H' D I' q
  | ret v => exact q
  | brk => exact q
  | cont => exact q
theorem pss_one (h1 : PS X st t) : PSs X [st] t := by
  intro pins s σ H D I h
  refine wpAny_execs_cons (thn (h1 pins s σ H D I h) fun f s1 q => ?_)
  cases f with
  | next => exact wpAny_execs_nil q
  | ret v => exact q
  | brk => exact q
  | cont => exact q
/-- in a def's body nothing is shown -/
theorem Inv.quiet {pins : List (Addr × Obj)} {σ : St} {H : Hp} {s : Shared} (I : Inv X pins σ H s) : interactive X.env = false := by simp [interactive, I.ok.kind]
/-- an expression whose value is dropped -/
def tDrop (te : TE) : TS := fun D σ H => te σ H fun _ H1 => D.nx σ H1
theorem ps_expr (he : PE X e te) (hs : swapsWith e none pos.line X.env = pure false := by rfl) : PS X (.Expr e pos) (tDrop te) := by
  intro pins s σ H D I h
  exact wpAny_Expr_any (thn (he pins s σ H _ I h) fun v s1 ⟨x, H1, I1, r1, q1⟩ => ⟨σ, H1, I1, q1⟩) I.quiet hs
def tRet (te : TE) : TS := fun D σ H => te σ H D.rt
theorem ps_ret (he : PE X e te) : PS X (.Return (some e) pos) (tRet te) := by
  intro pins s σ H D I h
  exact wpAny_Return_some (thn (he pins s σ H _ I h) fun v s1 ⟨x, H1, I1, r1, q1⟩ => ⟨x, σ, H1, I1, r1, q1⟩)
def tIfS (c : TT) (t u : TS) : TS := fun D σ H => c σ H fun b H1 => if b = true then t D σ H1 else u D σ H1
theorem ps_if {c : Expr} {a b : List Stmt} {tc : TT} (hc : PT X c tc) (ha : PSs X a t) (hb : PSs X b u) : PS X (.If c a b pos) (tIfS tc t u) := by
  intro pins s σ H D I h
  refine wpAny_If (thn (hc pins s σ H _ I h) fun d s1 ⟨H1, I1, q1⟩ => ?_)
  cases d with
  | true => exact ha pins s1 σ H1 D I1 q1
  | false => exact hb pins s1 σ H1 D I1 q1
/-- code that the proof never comes to -/
def tNever : TS := fun _ _ _ => False
theorem ps_never : PS X st tNever := fun _ _ _ _ _ _ h => h.elim
end

/-! ### targets -/
abbrev TG := V → St → Hp → (St → Hp → Prop) → Prop
abbrev TGs := List V → St → Hp → (St → Hp → Prop) → Prop
def PG (X : Cx) (target : Expr) (t : TG) : Prop :=
  ∀ (pins : List (Addr × Obj)) (s : Shared) (σ : St) (H : Hp) (v : V) (u : Value) (Q : St → Hp → Prop), Inv X pins σ H s → RelV v u → t v σ H Q →
    wpAny (model X.prog X.w) X.A (assign target X.env u) (fun _ s' => ∃ σ' H', Inv X pins σ' H' s' ∧ Q σ' H') X.xe s
/-- several targets, one after another -/
def PGs (X : Cx) (ts : List Expr) (t : TGs) : Prop :=
  ∀ (pins : List (Addr × Obj)) (s : Shared) (σ : St) (H : Hp) (vs : List V) (us : List Value) (Q : St → Hp → Prop), Inv X pins σ H s → Vals vs us → t vs σ H Q →
    wpAny (model X.prog X.w) X.A (assignInOrder ((assignEach ts X.env).map (·.2)) us) (fun _ s' => ∃ σ' H', Inv X pins σ' H' s' ∧ Q σ' H') X.xe s
/-- o[i] = v, by values -/
abbrev TSet := V → V → V → Hp → (Hp → Prop) → Prop
def PSet (X : Cx) (t : TSet) : Prop :=
  ∀ (pins : List (Addr × Obj)) (s : Shared) (σ : St) (H : Hp) (o i v : V) (ov iv u : Value) (Q : Hp → Prop), Inv X pins σ H s → RelV o ov → RelV i iv → RelV v u → t o i v H Q →
    wpAny (model X.prog X.w) X.A (setItem ov iv u) (fun _ s' => ∃ H', Inv X pins σ H' s' ∧ Q H') X.xe s
section
variable {X : Cx} {pos : Pos}
def gName (i : Nat) : TG := fun v σ H Q => Q (σ.set i (some v)) H
theorem pg_name {i : Nat} {x : Str} (hN : X.N.Nodup) (hi : X.N[i]? = some x) (hx : Loc X.env.scope x) (hf : X.fn x = true ∨ X.env.scope.names.lookup x = some .local := by first | exact .inl rfl | exact .inr rfl | assumption) : PG X (.Name x pos) (gName i) := by
  intro pins s σ H v u Q I r h
  exact wpAny_assign_Name (store_ok I hN hi hx r (fun s' I' => ⟨_, H, I', h⟩) hf)
def gNil : TGs := fun vs σ H Q => vs = [] ∧ Q σ H
def gCons (t : TG) (u : TGs) : TGs := fun vs σ H Q => ∃ v r, vs = v :: r ∧ t v σ H fun σ' H' => u r σ' H' Q
theorem pgs_nil : PGs X [] gNil := by
  intro pins s σ H vs us Q I r h
  obtain ⟨e, h⟩ := h
  subst e
  cases r
  exact assignInOrder_nil ⟨σ, H, I, h⟩
theorem pgs_cons {e : Expr} {es : List Expr} {t : TG} {u : TGs} (h1 : PG X e t) (h2 : PGs X es u)
    (hs : (assignEach (e :: es) X.env).map (·.2) = assign e X.env :: (assignEach es X.env).map (·.2) := by rfl) : PGs X (e :: es) (gCons t u) := by
  intro pins s σ H vs us Q I r h
  obtain ⟨v, vr, e1, h⟩ := h
  subst e1
  cases r with
  | cons r rr =>
    rw [hs]
    refine assignInOrder_cons (thn (h1 pins s σ H _ _ _ I r h) fun _ s1 ⟨σ1, H1, I1, q1⟩ => ?_)
    exact h2 pins s1 σ1 H1 _ _ Q I1 rr q1
/-- (a, b, ..) = a tuple of that length -/
def gTup (K : PySem.W.Frag) (n : Nat) (t : TGs) : TG := fun v σ H Q => ∃ a xs, v = .ref a ∧ SqT K H a xs ∧ xs.length = n ∧ t xs σ H Q
theorem pg_tup {es : List Expr} {k : Nat} {t : TGs} {n : Nat} (hc : X.calm = true) (h : PGs X es t)
    (hn : (assignEach es X.env).length = n := by rfl) (hst : (assignEach es X.env).findIdx? (·.1) = none := by rfl) : PG X (.Tuple es k pos) (gTup X.K n t) := by
  intro pins s σ H v u Q I r hw
  obtain ⟨a, xs, e1, hq, hl, hw⟩ := hw
  subst e1
  cases r
  obtain ⟨its, rv, ht, hz⟩ := I.tuple hq
  refine assign_Tuple_tuple (I.ok.hd hc) ht (by simp [hn, ← hl, rv.length]) hst fun h' hx => ?_
  have I1 : Inv X pins σ H { s with heap := h' } := I.kept (t' := s.toks) fun b o e => hx b o (Nat.ne_of_lt (Heap.lt_size e)) e
  exact h pins _ σ H xs _ Q I1 (by simpa using rv) hw
/-- o[i] = .. -/
def gSub (to ti : TE) (t : TSet) : TG := fun v σ H Q => to σ H fun o H1 => ti σ H1 fun i H2 => t o i v H2 fun H3 => Q σ H3
theorem pg_sub {o i : Expr} {to ti : TE} {t : TSet} (ho : PE X o to) (hi : PE X i ti) (hs : PSet X t)
    (ha : ∀ v, assign (.Subscript o i pos) X.env v = (do
      let ov ← holding [v] (eval o X.env)
      let iv ← holding [v, ov] (eval i X.env)
      standAt pos
      holding [v, ov, iv] (setItem ov iv v)
      release [v, ov, iv] []) := by intro _; rfl) : PG X (.Subscript o i pos) (gSub to ti t) := by
  intro pins s σ H v u Q I r h
  rw [ha]
  refine wpAny_bind (wpAny_holding (thn (ho pins s σ H _ I h) fun ov s1 ⟨x, H1, I1, r1, q1⟩ => ?_))
  refine wpAny_bind (wpAny_holding (thn (hi pins s1 σ H1 _ I1 q1) fun iv s2 ⟨y, H2, I2, r2, q2⟩ => ?_))
  refine wpAny_bind (wpAny_standAt (wpAny_bind (wpAny_holding (thn (hs pins s2 σ H2 x y v ov iv u _ I2 r1 r2 r q2) fun _ s3 ⟨H3, I3, q3⟩ => ?_))))
  exact wpAny_release ⟨σ, H3, I3, q3⟩
/-- target = value -/
def tAsg (te : TE) (g : TG) : TS := fun D σ H => te σ H fun x H1 => g x σ H1 D.nx
theorem ps_asg {tg e : Expr} {te : TE} {g : TG} (he : PE X e te) (hg : PG X tg g) (hs : swapsWithSole [tg] e pos.line X.env = pure false := by rfl) (hw : swappedStores [tg] e X.env = pure none := by rfl)
    (h1 : (assignEach [tg] X.env).map (·.2) = [assign tg X.env] := by rfl) : PS X (.Assign [tg] e pos) (tAsg te g) := by
  intro pins s σ H D I h
  refine wpAny_Assign_stores (thn (he pins s σ H _ I h) fun v s1 ⟨x, H1, I1, r1, q1⟩ => ?_) hs hw
  rw [h1]
  exact thn (hg pins s1 σ H1 x v _ I1 r1 q1) fun _ s2 q => q
/-- name = value -/
theorem ps_set {i : Nat} {x : Str} {e : Expr} {te : TE} {pos' : Pos} (hN : X.N.Nodup) (hi : X.N[i]? = some x) (hx : Loc X.env.scope x) (he : PE X e te) (hs : swapsWith e (some (.Name x pos')) pos.line X.env = pure false := by rfl) (hf : X.fn x = true ∨ X.env.scope.names.lookup x = some .local := by first | exact .inl rfl | exact .inr rfl | assumption) :
    PS X (.Assign [.Name x pos'] e pos) (tAsg te (gName i)) := by
  intro pins s σ H D I h
  refine wpAny_Assign_Name (thn (he pins s σ H _ I h) fun v s1 ⟨y, H1, I1, r1, q1⟩ => ?_) hs
  exact store_ok I1 hN hi hx r1 (fun s2 I2 => ⟨_, H1, I2, q1⟩) hf
end

/-! ### while -/
section
variable {X : Cx} {pos : Pos}
end

/-! ### what a loop or a comprehension walks -/
/-- at turn i: it yields x (the heap may grow), or it stops -/
structure It where
  go : Nat → Hp → Prop
  yld : Nat → Hp → V → Hp → Prop
  stop : Nat → Hp → Prop
/-- the iterator's own objects may turn: they are not the frame's, not pinned, younger than the entry (or a comprehension's own) -/
def FpOk (X : Cx) (pins : List (Addr × Obj)) (H : Hp) (b : Addr) : Prop :=
  H b = none ∧ b ≠ X.env.locals ∧ b ∉ X.fs ∧ (b ∈ X.ex ∨ X.s₀.heap.objs.size ≤ b) ∧ (∀ x c, X.env.cells.lookup x = some c → c ≠ b) ∧ ∀ p ∈ X.pn ++ pins, p.1 ≠ b
theorem Inv.fpOk {X : Cx} {pins : List (Addr × Obj)} {σ : St} {H H' : Hp} {s : Shared} {b : Addr} (I : Inv X pins σ H s) (hb : s.heap.objs.size ≤ b) (hn : H' b = none) : FpOk X pins H' b := by
  refine ⟨hn, Nat.ne_of_gt (Nat.lt_of_lt_of_le I.lt hb), I.nofs hb, .inr (Nat.le_trans I.sz hb), fun x c e z => ?_, fun p hp z => ?_⟩
  · obtain ⟨v, q⟩ := I.cell x c e
    exact absurd (Nat.lt_of_lt_of_le q.lt (by rw [z]; exact hb)) (Nat.lt_irrefl _)
  · exact absurd (Nat.lt_of_lt_of_le (Heap.lt_size (I.pin p hp).1) (by rw [z]; exact hb)) (Nat.lt_irrefl _)
structure Turn (P : Program) (w : World) (K : PySem.W.Frag) (tg : Expr) (J : It) (fp : List Addr) (it : Addr) (tn : Nat → Heap → Prop) : Prop where
  mem : it ∈ fp
  obj : ∀ i h, tn i h → ∀ b ∈ fp, ∃ o, h.get? b = some o ∧ ∀ v, o.data ≠ .cell v
  keep : ∀ i h h', tn i h → (∀ b ∈ fp, ∀ o, h.get? b = some o → h'.get? b = some o) → tn i h'
  item : ∀ (X : Cx), X.prog = P → X.w = w → X.K = K → X.calm = true → ∀ (i : Nat) (pins : List (Addr × Obj)) (s : Shared) (σ : St) (H : Hp) (E : Value → Shared → Prop), Inv X pins σ H s → (∀ b ∈ fp, FpOk X pins H b) → tn i s.heap → J.go i H →
    wpAny (model P w) X.A (pyNext (.ref it)) (fun r s1 => ∃ u, r = some u ∧
      wpAny (model P w) X.A (letOwnedTupleGo tg (.ref it) u) (fun _ s2 => ∃ x H', Inv X pins σ H' s2 ∧ RelV x u ∧ J.yld i H x H' ∧ tn (i + 1) s2.heap ∧ ∀ b ∈ fp, H' b = none) E s1) E s
  done : ∀ (X : Cx), X.prog = P → X.w = w → X.K = K → X.calm = true → ∀ (i : Nat) (pins : List (Addr × Obj)) (s : Shared) (σ : St) (H : Hp) (E : Value → Shared → Prop), Inv X pins σ H s → (∀ b ∈ fp, FpOk X pins H b) → tn i s.heap → J.stop i H →
    wpAny (model P w) X.A (pyNext (.ref it)) (fun r s1 => r = none ∧ Inv X pins σ H s1) E s
  self : ∀ (A : Around) (i : Nat) (s : Shared) (Q : Value → Shared → Prop) (E : Value → Shared → Prop), tn i s.heap → Q (.ref it) s → wpAny (model P w) A (pyIter (.ref it)) Q E s
abbrev TI := St → Hp → (It → Hp → Prop) → Prop
/-- an iterator has come -/
def PIE (X : Cx) (pins : List (Addr × Obj)) (σ : St) (tg : Expr) (R : It → Hp → Prop) (itv : Value) (s2 : Shared) : Prop :=
  ∃ (it : Addr) (fp : List Addr) (tn : Nat → Heap → Prop) (J : It) (H' : Hp), itv = .ref it ∧ Inv X pins σ H' s2 ∧ Turn X.prog X.w X.K tg J fp it tn ∧ tn 0 s2.heap ∧ (∀ b ∈ fp, FpOk X pins H' b) ∧ R J H'
def PI (X : Cx) (tg iter : Expr) (wi : TI) : Prop :=
  ∀ (pins : List (Addr × Obj)) (s : Shared) (σ : St) (H : Hp) (R : It → Hp → Prop), Inv X pins σ H s → wi σ H R →
    wpAny (model X.prog X.w) X.A (eval iter X.env) (fun v s1 => wpAny (model X.prog X.w) X.A (pyIter v) (PIE X pins σ tg R) X.xe s1) X.xe s

/-- the step ahead of the store is nothing for an iterator that keeps no tuple -/
theorem go_of {M : Model} {A : Around} {E : Value → Shared → Prop} {s : Shared} {tg : Expr} {it : Addr} {u : Value} {o : Obj} {n : String} {vs : Array Value} {Q : Unit → Shared → Prop} (ho : s.heap.get? it = some o) (hc : o.cls = .type n) (hd : o.data = .fields vs)
    (hn : ["enumerate", "zip", "dict_itemiterator", "dict_reverseitemiterator", "odict_iterator", "itertools.zip_longest", "itertools.pairwise"].contains n = false) (hQ : Q () s) : wpAny M A (letOwnedTupleGo tg (.ref it) u) Q E s := by
  unfold letOwnedTupleGo
  cases tg <;> first
    | exact wpAny_pure hQ
    | (cases u <;> first
        | exact wpAny_pure hQ
        | (refine wpAny_bind (wpAny_load ho ?_)
           rw [hc, hd]
           show wpAny M A (if (["enumerate", "zip", "dict_itemiterator", "dict_reverseitemiterator", "odict_iterator", "itertools.zip_longest", "itertools.pairwise"].contains n && vs[0]? == some (rawInt _)) = true then _ else _) Q E s
           rw [if_neg (by intro h; rw [hn, Bool.false_and] at h; cases h)]
           exact wpAny_pure hQ))

/-- the list at a, as it stands at each turn (a loop may append to it) -/
def Itl (K : PySem.W.Frag) (a : Addr) : It :=
  ⟨fun i H => ∃ xs x, SqL K H a xs ∧ xs[i]? = some x, fun i H x H' => H' = H ∧ ∀ xs, SqL K H a xs → xs[i]? = some x, fun i H => ∃ xs, SqL K H a xs ∧ xs.length ≤ i⟩
/-- lo, lo + 1, .. (n of them) -/
def Itr (lo : Int) (n : Nat) : It := ⟨fun i _ => i < n, fun i H x H' => H' = H ∧ x = .int (lo + i), fun i _ => n ≤ i⟩
theorem turn_list {P : Program} {w : World} {K : PySem.W.Frag} {tg : Expr} (a it : Addr) : Turn P w K tg (Itl K a) [it] it (fun i h => h.IsListIter it a i) where
  mem := by simp
  obj := fun i h st b hb => by
    have e : b = it := by simpa using hb
    subst e
    obtain ⟨o, e, c, d⟩ := st
    exact ⟨o, e, fun v z => by rw [d] at z; cases z⟩
  keep := fun i h h' st k => st.at fun o e => k it (by simp) o e
  item := by
    intro X hP hw hK hc i pins s σ H E I hf st hg
    subst hP hw hK
    obtain ⟨xs, x, hq, hx⟩ := hg
    obtain ⟨its, rv, p, hz⟩ := I.list hq
    obtain ⟨u, hu, ru⟩ := rv.get hx
    obtain ⟨f0, f1, f2, f3, f4, f5⟩ := hf it (by simp)
    refine wpAny_pyNext_list_item st p.isList (x := u) (by simpa using hu) fun h' st' sb => ?_
    have I1 : Inv X pins σ H { s with heap := h' } := I.turned (t' := s.toks) (fun b o hb e => (sb.2 b hb).trans e) f0 f1 f3 f4 f5
    obtain ⟨o, e, c, d⟩ := id st'
    exact ⟨u, rfl, go_of (s := { s with heap := h' }) e c d (by decide) ⟨x, H, I1, ru, ⟨rfl, fun ys hy => by rw [I.list_inj hy hq]; exact hx⟩, st', fun b hb => (hf b hb).1⟩⟩
  done := by
    intro X hP hw hK hc i pins s σ H E I hf st hg
    subst hP hw hK
    obtain ⟨xs, hq, hx⟩ := hg
    obtain ⟨its, rv, p, hz⟩ := I.list hq
    obtain ⟨f0, f1, f2, f3, f4, f5⟩ := hf it (by simp)
    have hl := rv.length
    exact wpAny_pyNext_list_end (I.ok.hd hc) st p.isList (by simp; omega) fun h' eb => ⟨rfl, I.turned (t' := s.toks) (fun b o hb e => eb b o hb e) f0 f1 f3 f4 f5⟩
  self := fun _ _ _ _ _ st h => wpAny_pyIter_listiter st h
theorem turn_range {P : Program} {w : World} {K : PySem.W.Frag} {tg : Expr} (it : Addr) (lo : Int) (n : Nat) : Turn P w K tg (Itr lo n) [it] it (fun i h => IsRangeIter h it (lo + (i : Nat) * 1) ((n : Int) - (i : Nat)) 1) where
  mem := by simp
  obj := fun i h st b hb => by
    have e : b = it := by simpa using hb
    subst e
    exact ⟨_, st, fun v z => by
      have z' : Data.fields _ = Data.cell v := z
      cases z'⟩
  keep := fun i h h' st k => k it (by simp) _ st
  item := by
    intro X hP hw hK hc i pins s σ H E I hf st hg
    subst hP hw hK
    obtain ⟨f0, f1, f2, f3, f4, f5⟩ := hf it (by simp)
    have W := Walks.range (prog := X.prog) (w := X.w) (I.ok.hd hc) it lo 1 n
    refine W.item i s _ _ hg st fun v h' tk hv st' kk => ?_
    obtain ⟨t, rfl⟩ := hv
    have I1 : Inv X pins σ H { s with heap := h', toks := tk } := I.turned (fun b o hb e => kk b o (by simpa using hb) e) f0 f1 f3 f4 f5
    refine ⟨_, rfl, go_of (s := { s with heap := h', toks := tk }) (n := "range_iterator") st' rfl rfl (by decide) ⟨.int (lo + i), H, I1, ⟨t, ?_⟩, ⟨rfl, rfl⟩, st', fun b hb => (hf b hb).1⟩⟩
    rw [Int.mul_one]
  done := by
    intro X hP hw hK hc i pins s σ H E I hf st hg
    subst hP hw hK
    obtain ⟨f0, f1, f2, f3, f4, f5⟩ := hf it (by simp)
    exact wpAny_pyNext_range_end (I.ok.hd hc) st (by have : n ≤ i := hg; omega) fun h' eb => ⟨rfl, I.turned (t' := s.toks) (fun b o hb e => eb b o hb e) f0 f1 f3 f4 f5⟩
  self := fun _ _ _ _ _ st h => wpAny_pyIter_rangeiter st h
end L2

namespace L2
open PySem PySem.Spec PyProof.Rows
section
variable {X : Cx} {tg : Expr}
def iList (K : PySem.W.Frag) (tl : TE) : TI := fun σ H R => tl σ H fun x H1 => ∃ a, x = .ref a ∧ (∃ xs, SqL K H1 a xs) ∧ R (Itl K a) H1
theorem pi_list {l : Expr} {tl : TE} (hl : PE X l tl) : PI X tg l (iList X.K tl) := by
  intro pins s σ H R I h
  refine thn (hl pins s σ H _ I h) fun v s1 ⟨x, H1, I1, r1, q1⟩ => ?_
  obtain ⟨a, e, ⟨xs, hq⟩, q⟩ := q1
  subst e
  cases r1
  obtain ⟨its, rv, p, hz⟩ := I1.list hq
  refine wpAny_pyIter_list p.isList ?_
  refine ⟨s1.heap.objs.size, [s1.heap.objs.size], _, _, H1, rfl, I1.kept (t' := s1.toks) fun b o e => Heap.get?_push_of_some _ e, turn_list a _, ⟨_, Heap.get?_push_size _ rfl, rfl, rfl⟩, fun b hb => ?_, q⟩
  have e : b = s1.heap.objs.size := by simpa using hb
  subst e
  exact I1.fpOk (Nat.le_refl _) (I1.hok.fresh (Nat.le_refl _))
/-- a range object just made, walked -/
theorem range_it {pins : List (Addr × Obj)} {σ : St} {H : Hp} {s : Shared} {R : It → Hp → Prop} {E : Value → Shared → Prop} {lo hi : Int} {t u v : Tok} {tk : Nat} (I : Inv X pins σ H s) (h1 : -(2 ^ 62) ≤ lo) (h2 : lo < 2 ^ 62) (h3 : -(2 ^ 62) ≤ hi) (h4 : hi < 2 ^ 62)
    (q : R (Itr lo (hi - lo).toNat) H) : wpAny (model X.prog X.w) X.A (pyIter (.ref s.heap.objs.size)) (PIE X pins σ tg R) E { s with heap := s.heap.push { cls := .type "range", data := .fields #[.int lo t, .int hi u, .int 1 v] }, toks := tk } := by
  refine wpAny_pyIter_range (IsRange.new ..) (small_one h1 h2 h3 h4) ?_
  have I1 : Inv X pins σ H { s with heap := s.heap.push { cls := .type "range", data := .fields #[.int lo t, .int hi u, .int 1 v] }, toks := tk } := I.kept fun b o e => Heap.get?_push_of_some _ e
  refine ⟨(s.heap.push { cls := .type "range", data := .fields #[.int lo t, .int hi u, .int 1 v] }).objs.size, [(s.heap.push { cls := .type "range", data := .fields #[.int lo t, .int hi u, .int 1 v] }).objs.size], _, _, H, rfl,
    I1.kept (t' := tk) fun b o e => Heap.get?_push_of_some _ e, turn_range _ lo (hi - lo).toNat, ?_, fun b hb => ?_, q⟩
  · have e1 : lo + ((0 : Nat) : Int) * 1 = lo := by simp
    have e2 : (((hi - lo).toNat : Nat) : Int) - ((0 : Nat) : Int) = Builtin.Range.rangeSize lo hi 1 := by rw [rangeSize_one]; split <;> omega
    show IsRangeIter _ _ (lo + ((0 : Nat) : Int) * 1) ((((hi - lo).toNat : Nat) : Int) - ((0 : Nat) : Int)) 1
    rw [e1, e2]
    exact Heap.get?_push_size _ rfl
  · have e : b = (s.heap.push { cls := .type "range", data := .fields #[.int lo t, .int hi u, .int 1 v] }).objs.size := by simpa using hb
    subst e
    exact I1.fpOk (Nat.le_refl _) (I1.hok.fresh (Nat.le_refl _))
def iRng1 (ta : TA) : TI := fun σ H R => ta σ H fun vs H1 => ∃ j : Int, vs = [.int j] ∧ -(2 ^ 62) ≤ j ∧ j < 2 ^ 62 ∧ R (Itr 0 j.toNat) H1
theorem pi_range1 {a : Expr} {ta : TA} {p pos : Pos} (hg : Gl X "range") (hm : X.mg "range" = none) (ha : PA X [a] ta) (hs : starEach [a] X.env = [(false, eval a X.env)] := by rfl) : PI X tg (.Call (.Name "range" p) [a] [] pos) (iRng1 ta) := by
  intro pins s σ H R I h
  refine Call_ (ld_blt I hg hm boot_range (PyProof.Rows.callWith_type1 (thn (ha pos pins s σ H _ I h) fun us s1 ⟨vs, H1, I1, r1, q1⟩ => ?_) hs rfl))
  obtain ⟨j, e, q1, q2, q⟩ := q1
  subst e
  cases r1 with
  | cons r rr =>
    cases rr
    obtain ⟨t, rfl⟩ := r
    exact call_range_1 (range_it I1 (by omega) (by omega) q1 q2 (by simpa using q))
/-! ### for -/
/-- W: the invariant by the turn and a measure; N: what the body is to reach -/
def tFor (wi : TI) (g : TG) (tb : TS) : TS := fun D σ H => wi σ H fun J H1 => ∃ W : Nat → Nat → St → Hp → Prop, (∃ m, W 0 m σ H1) ∧ ∀ i m σ H, W i m σ H →
  (J.stop i H ∧ D.nx σ H) ∨ (J.go i H ∧ ∃ N : St → Hp → Prop, (∀ σ' H', N σ' H' → ∃ m', m' < m ∧ W (i + 1) m' σ' H') ∧ ∀ x H', J.yld i H x H' → g x σ H' fun σ2 H2 => tb { D with nx := N, ct := N, bk := D.nx } σ2 H2)
/-- the records at fp as they stand -/
def pinsAt (fp : List Addr) (h : Heap) : List (Addr × Obj) := fp.filterMap fun b => (h.get? b).map fun o => (b, o)
theorem mem_pinsAt {fp : List Addr} {h : Heap} {b : Addr} {o : Obj} (hb : b ∈ fp) (e : h.get? b = some o) : (b, o) ∈ pinsAt fp h := List.mem_filterMap.mpr ⟨b, hb, by rw [e]; rfl⟩
theorem of_pinsAt {fp : List Addr} {h : Heap} {p : Addr × Obj} (hp : p ∈ pinsAt fp h) : p.1 ∈ fp ∧ h.get? p.1 = some p.2 := by
  obtain ⟨b, hb, e⟩ := List.mem_filterMap.mp hp
  cases q : h.get? b with
  | none => rw [q] at e; cases e
  | some o =>
    rw [q] at e
    have e' : (b, o) = p := Option.some.inj e
    subst e'
    exact ⟨hb, q⟩
theorem Inv.pinned {pins : List (Addr × Obj)} {σ : St} {H : Hp} {s : Shared} {fp : List Addr} (I : Inv X pins σ H s) (hf : ∀ b ∈ fp, FpOk X pins H b) (ho : ∀ b ∈ fp, ∃ o, s.heap.get? b = some o ∧ ∀ v, o.data ≠ .cell v) : Inv X (pins ++ pinsAt fp s.heap) σ H s :=
  I.pins_of fun p hp => (List.mem_append.mp hp).elim (fun z => I.pin p (List.mem_append_right _ z)) fun z => by
    obtain ⟨hb, e⟩ := of_pinsAt z
    obtain ⟨f0, f1, f2, _⟩ := hf p.1 hb
    obtain ⟨o, e', d⟩ := ho p.1 hb
    rw [e] at e'; cases e'
    exact ⟨e, f0, f1, f2, d⟩
theorem Inv.unpinned {pins pl : List (Addr × Obj)} {σ : St} {H : Hp} {s : Shared} (I : Inv X (pins ++ pl) σ H s) : Inv X pins σ H s := I.pins_of fun p hp => I.pin p (List.mem_append_right _ (List.mem_append_left _ hp))
theorem ps_for {iter : Expr} {body : List Stmt} {wi : TI} {g : TG} {tb : TS} {pos : Pos} (hp : PassesOwn (model X.prog X.w) X.A X.env X.xe) (hc : X.calm = true) (hi : PI X tg iter wi) (hg : PG X tg g) (hb : PSs X body tb)
    (hs : ∀ x, foldedSetIterable iter X.env x = pure x := by intro _; rfl) : PS X (.For tg iter body [] pos) (tFor wi g tb) := by
  intro pins s σ H D I h
  refine wpAny_For (thn (hi pins s σ H _ I h) fun v s1 h1 => thn h1 fun itv s2 h2 => ?_) hs
  obtain ⟨it, fp, tn, J, H2, e, I2, T, st2, f2, W, ⟨m0, w0⟩, turn⟩ := h2
  subst e
  -- what stays true of the iterator's objects through the loop
  have stat : ∀ {H' : Hp}, (∀ b ∈ fp, H' b = none) → ∀ b ∈ fp, FpOk X pins H' b := fun hn b hb => ⟨hn b hb, (f2 b hb).2⟩
  refine codeAny_forLoop_any (fun n s' => ∃ i σ' H', Inv X pins σ' H' s' ∧ tn i s'.heap ∧ (∀ b ∈ fp, H' b = none) ∧ W i n σ' H') ?_ m0 ⟨0, σ, H2, I2, st2, fun b hb => (f2 b hb).1, w0⟩
  rintro n s3 ⟨i, σ3, H3, I3, st3, fr3, w3⟩
  rcases turn i n σ3 H3 w3 with ⟨stop, qn⟩ | ⟨go, N, hN, step⟩
  · refine wpAny_passesOwn hp (thn (T.done X rfl rfl rfl hc i pins s3 σ3 H3 X.xe I3 (stat fr3) st3 stop) fun r s4 ⟨hr, I4⟩ => ?_)
    subst hr
    exact wpAny_execs_nil ⟨σ3, H3, I4, qn⟩
  · refine wpAny_passesOwn hp (thn (T.item X rfl rfl rfl hc i pins s3 σ3 H3 X.xe I3 (stat fr3) st3 go) fun r s4 ⟨u, hr, h4⟩ => ?_)
    subst hr
    refine wpAny_passesOwn hp (thn h4 fun _ s5 ⟨x, H5, I5, r5, y5, st5, fr5⟩ => ?_)
    have I5' := I5.pinned (stat fr5) (T.obj _ _ st5)
    refine wpAny_passesOwn hp (thn (hg _ s5 σ3 H5 x u _ I5' r5 (step x H5 y5)) fun _ s6 ⟨σ6, H6, I6, q6⟩ => ?_)
    refine wpAny_passesOwn hp (thn (hb _ s6 σ6 H6 _ I6 q6) fun f s7 q7 => ?_)
    have again : ∀ {σ7 : St} {H7 : Hp}, Inv X (pins ++ pinsAt fp s5.heap) σ7 H7 s7 → N σ7 H7 → ∃ m, m < n ∧ ∃ i σ' H', Inv X pins σ' H' s7 ∧ tn i s7.heap ∧ (∀ b ∈ fp, H' b = none) ∧ W i m σ' H' := fun {σ7 H7} I7 n7 => by
      obtain ⟨m', hm, w7⟩ := hN σ7 H7 n7
      refine ⟨m', hm, i + 1, σ7, H7, I7.unpinned, T.keep _ _ _ st5 fun b hb o e => (I7.pin (b, o) (List.mem_append_right _ (List.mem_append_right _ (mem_pinsAt hb e)))).1, fun b hb => ?_, w7⟩
      obtain ⟨o, e, d⟩ := T.obj _ _ st5 b hb
      exact (I7.pin (b, o) (List.mem_append_right _ (List.mem_append_right _ (mem_pinsAt hb e)))).2.1
    cases f with
    | next => obtain ⟨σ7, H7, I7, n7⟩ := q7; exact again I7 n7
    | cont => obtain ⟨σ7, H7, I7, n7⟩ := q7; exact again I7 n7
    | brk => obtain ⟨σ7, H7, I7, q7⟩ := q7; exact ⟨σ7, H7, I7.unpinned, q7⟩
    | ret v => obtain ⟨x7, σ7, H7, I7, r7, q7⟩ := q7; exact ⟨x7, σ7, H7, I7.unpinned, r7, q7⟩
end

end L2

namespace L2
open PySem PySem.Spec PyProof.Rows

abbrev R2 := V → V → Hp → VK → Prop
/-- a two-place operation on values: f is binaryOp op, inplaceOp op or compareOp op -/
def OpR (X : Cx) (f : Value → Value → Sem Value) (r : R2) : Prop :=
  ∀ (pins : List (Addr × Obj)) (s : Shared) (σ : St) (H : Hp) (x y : V) (v u : Value) (Q : VK), Inv X pins σ H s → RelV x v → RelV y u → r x y H Q →
    wpAny (model X.prog X.w) X.A (f v u) (EP X pins σ Q) X.xe s
/-- a call of a value that is known (a builtin, a type) with values -/
def CallR (X : Cx) (f : Value) (r : List V → Hp → VK → Prop) : Prop :=
  ∀ (pins : List (Addr × Obj)) (s : Shared) (σ : St) (H : Hp) (xs : List V) (us : List Value) (Q : VK), Inv X pins σ H s → Vals xs us → r xs H Q →
    wpAny (model X.prog X.w) X.A (call f us) (EP X pins σ Q) X.xe s
def tOp (r : R2) (ta tb : TE) : TE := fun σ H Q => ta σ H fun x H1 => tb σ H1 fun y H2 => r x y H2 Q
/-- ints in, under C, and a value out -/
def rI (C : Int → Int → Prop) (g : Int → Int → V) : R2 := fun x y H Q => ∃ i j, x = .int i ∧ y = .int j ∧ C i j ∧ Q (g i j) H
def rI0 (g : Int → Int → V) : R2 := fun x y H Q => ∃ i j, x = .int i ∧ y = .int j ∧ Q (g i j) H
section
variable {X : Cx} {a b c : Expr} {ta tb tc : TE} {pos : Pos}

theorem binT (ha : PE X a ta) (hb : PE X b tb) {pins : List (Addr × Obj)} {s : Shared} {σ : St} {H : Hp} {R : V → V → Hp → Prop} (I : Inv X pins σ H s)
    (h : ta σ H fun x H1 => tb σ H1 fun y H2 => R x y H2) {Q : Value → Shared → Prop} {f : Value → Value → Sem Value}
    (hf : ∀ v u s2 x y H2, Inv X pins σ H2 s2 → RelV x v → RelV y u → R x y H2 → wpAny (model X.prog X.w) X.A (f v u) Q X.xe s2) :
    wpAny (model X.prog X.w) X.A (eval a X.env) (fun v s₁ => wpAny (model X.prog X.w) X.A (eval b X.env) (fun u s₂ => wpAny (model X.prog X.w) X.A (f v u) Q X.xe s₂) X.xe s₁) X.xe s := by
  refine thn (ha pins s σ H _ I h) fun v s1 ⟨x, H1, I1, r1, q1⟩ => ?_
  refine thn (hb pins s1 σ H1 _ I1 q1) fun u s2 ⟨y, H2, I2, r2, q2⟩ => ?_
  exact hf v u s2 x y H2 I2 r1 r2 q2

theorem pe_op {op : Operator} {r : R2} (ho : OpR X (binaryOp op) r) (ha : PE X a ta) (hb : PE X b tb) : PE X (.BinOp a op b pos) (tOp r ta tb) := by
  intro pins s σ H Q I h
  exact wpAny_BinOp (binT ha hb I h fun v u s2 x y H2 I2 rx ry q => ho pins s2 σ H2 x y v u Q I2 rx ry q)
/-! ### ints -/
theorem opI {f : Value → Value → Sem Value} {C : Int → Int → Prop} {g : Int → Int → Int}
    (rule : ∀ (i j : Int) (t u : Tok) (s : Shared) (Q : Value → Shared → Prop) (E : Value → Shared → Prop), C i j → Q (.int (g i j) s.toks) { s with toks := s.toks + 1 } → wpAny (model X.prog X.w) X.A (f (.int i t) (.int j u)) Q E s) :
    OpR X f (rI C fun i j => .int (g i j)) := by
  intro pins s σ H x y v u Q I rx ry h
  obtain ⟨i, j, rfl, rfl, hc, q⟩ := h
  obtain ⟨t, rfl⟩ := rx
  obtain ⟨t', rfl⟩ := ry
  exact rule i j t t' s _ _ hc ⟨.int (g i j), H, I.tok _, ⟨_, rfl⟩, q⟩
theorem opI0 {f : Value → Value → Sem Value} {g : Int → Int → Int}
    (rule : ∀ (i j : Int) (t u : Tok) (s : Shared) (Q : Value → Shared → Prop) (E : Value → Shared → Prop), Q (.int (g i j) s.toks) { s with toks := s.toks + 1 } → wpAny (model X.prog X.w) X.A (f (.int i t) (.int j u)) Q E s) :
    OpR X f (rI0 fun i j => .int (g i j)) := by
  intro pins s σ H x y v u Q I rx ry h
  obtain ⟨i, j, rfl, rfl, q⟩ := h
  obtain ⟨t, rfl⟩ := rx
  obtain ⟨t', rfl⟩ := ry
  exact rule i j t t' s _ _ ⟨.int (g i j), H, I.tok _, ⟨_, rfl⟩, q⟩
theorem opB0 {f : Value → Value → Sem Value} {g : Int → Int → Bool}
    (rule : ∀ (i j : Int) (t u : Tok) (s : Shared) (Q : Value → Shared → Prop) (E : Value → Shared → Prop), Q (.bool (g i j)) s → wpAny (model X.prog X.w) X.A (f (.int i t) (.int j u)) Q E s) :
    OpR X f (rI0 fun i j => .bl (g i j)) := by
  intro pins s σ H x y v u Q I rx ry h
  obtain ⟨i, j, rfl, rfl, q⟩ := h
  obtain ⟨t, rfl⟩ := rx
  obtain ⟨t', rfl⟩ := ry
  exact rule i j t t' s _ _ ⟨.bl (g i j), H, I, rfl, q⟩

def CDiv (i j : Int) : Prop := 0 < j ∧ j < 1073741824
def CPow (i j : Int) : Prop := 0 ≤ j ∧ j ≤ 1000000 ∧ i.natAbs < 2 ^ 64
def CMul (i j : Int) : Prop := (-(2 ^ 64) < i ∧ i < 2 ^ 64) ∨ (-(2 ^ 64) < j ∧ j < 2 ^ 64)
theorem CMul.ok {i j : Int} (h : CMul i j) : IntMulOk i j := by
  rcases h with ⟨h1, h2⟩ | ⟨h1, h2⟩
  · exact .of_left (intBits_le_64 h1 h2)
  · exact .of_right (intBits_le_64 h1 h2)
theorem op_add : OpR X (binaryOp .Add) (rI0 fun i j => .int (i + j)) := opI0 fun _ _ _ _ _ _ _ q => add_int q
theorem op_sub : OpR X (binaryOp .Sub) (rI0 fun i j => .int (i - j)) := opI0 fun _ _ _ _ _ _ _ q => sub_int q
theorem op_mul : OpR X (binaryOp .Mult) (rI CMul fun i j => .int (i * j)) := opI fun _ _ _ _ _ _ _ hc q => mul_int q hc.ok
/-- // by a positive divisor -/
theorem op_fdiv : OpR X (binaryOp .FloorDiv) (rI CDiv fun i j => .int (i / j)) := opI fun i j _ _ _ _ _ hc q => by
  have h1 : (0 : Int) < j := hc.1
  have h2 : j < 1073741824 := hc.2
  exact floordiv_int (by omega) (by rw [Int.fdiv_eq_ediv_of_nonneg i (by omega)]; exact q) (.inl (PyProof.noPylong_small (by omega)))
/-- % by a positive divisor of any size -/
theorem op_mod : OpR X (binaryOp .Mod) (rI (fun _ j => 0 < j) fun i j => .int (i % j)) := opI fun i j _ _ _ _ _ hc q => by
  have h1 : (0 : Int) < j := hc
  exact mod_int' (by omega) (by rw [Int.fmod_eq_emod_of_nonneg i (by omega)]; exact q)
theorem op_pow : OpR X (binaryOp .Pow) (rI CPow fun i j => .int (i ^ j.toNat)) := opI fun _ _ _ _ _ _ _ hc q => pow_int_small hc.1 hc.2.1 hc.2.2 q
end

section
variable {X : Cx} {a b c : Expr} {ta tb tc : TE} {pos : Pos}
theorem fin_bl {pins : List (Addr × Obj)} {σ : St} {H : Hp} {s : Shared} {Q : VK} {k k' : Bool} (I : Inv X pins σ H s) (q : Q (.bl k) H) (e : k = k') : EP X pins σ Q (.bool k') s := by
  subst e
  exact ⟨.bl k, H, I, rfl, q⟩
theorem op_lt : OpR X (compareOp .Lt) (rI0 fun i j => .bl (decide (i < j))) := opB0 fun _ _ _ _ _ _ _ q => lt_int q
theorem op_le : OpR X (compareOp .LtE) (rI0 fun i j => .bl (decide (i ≤ j))) := opB0 fun _ _ _ _ _ _ _ q => le_int q
/-- is None, is not None: the right side a value none -/
theorem op_isN : OpR X (compareOp .Is) (fun x y H Q => y = .non ∧ Q (.bl (decide (x = .non))) H) := by
  intro pins s σ H x y v u Q I rx ry h
  obtain ⟨rfl, q⟩ := h
  cases ry
  refine is_none_gen (fin_bl I q ?_)
  cases x <;> first
    | (cases rx; rfl)
    | (obtain ⟨t, rfl⟩ := rx; rfl)
/-- two rules for one operation: by cases -/
theorem OpR.or {f : Value → Value → Sem Value} {r r' : R2} (h : OpR X f r) (h' : OpR X f r') : OpR X f (fun x y H Q => r x y H Q ∨ r' x y H Q) := by
  intro pins s σ H x y v u Q I rx ry q
  rcases q with q | q
  · exact h pins s σ H x y v u Q I rx ry q
  · exact h' pins s σ H x y v u Q I rx ry q

theorem nomark (b : Expr) {op : CmpOp} (h : op ≠ .In := by decide) (h2 : op ≠ .NotIn := by decide) : behindInMarks op b = false := by
  have e1 : (op == CmpOp.In) = false := by cases op <;> first | rfl | exact absurd rfl h
  have e2 : (op == CmpOp.NotIn) = false := by cases op <;> first | rfl | exact absurd rfl h2
  cases b <;> simp [behindInMarks, e1, e2]
/-- a comparison as a value; hm: nomark b, or (for in, not in) by with_unfolding_all rfl -/
theorem pe_cmpR {op : CmpOp} {r : R2} (ho : OpR X (compareOp op) r) (ha : PE X a ta) (hb : PE X b tb) (hm : behindInMarks op b = false) : PE X (.Compare a [op] [b] pos) (tOp r ta tb) := by
  intro pins s σ H Q I h
  exact wpAny_Compare1 (binT ha hb I h fun v u s2 x y H2 I2 rx ry q => ho pins s2 σ H2 x y v u Q I2 rx ry q) hm
/-- a reading of a value as a test -/
def tTest (t : TE) : TT := fun σ H Q => t σ H fun x H' => ∃ k, x = .bl k ∧ Q k H'
theorem pt_cmpR {op : CmpOp} {r : R2} (ho : OpR X (compareOp op) r) (ha : PE X a ta) (hb : PE X b tb) (hm : behindInMarks op b = false) : PT X (.Compare a [op] [b] pos) (tTest (tOp r ta tb)) := by
  intro pins s σ H Q I h
  refine wpAny_isTrue_Compare1 (thn (ha pins s σ H _ I h) fun v s1 ⟨x, H1, I1, r1, q1⟩ => thn (hb pins s1 σ H1 _ I1 q1) fun u s2 ⟨y, H2, I2, r2, q2⟩ =>
    thn (ho pins s2 σ H2 x y v u _ I2 r1 r2 q2) fun c s3 ⟨z, H3, I3, r3, k, e, q3⟩ => ?_) hm
  subst e
  cases r3
  exact wpAny_truthy_bool ⟨H3, I3, q3⟩
/-- a op1 b op2 c -/
def tChain (r r' : R2) (ta tb tc : TE) : TE := fun σ H Q => ta σ H fun x H1 => tb σ H1 fun y H2 => r x y H2 fun z H3 => ∃ k, z = .bl k ∧
  (if k = true then tc σ H3 fun w' H4 => r' y w' H4 Q else Q (.bl false) H3)
theorem pt_chain {op op' : CmpOp} {r r' : R2} (ho : OpR X (compareOp op) r) (ho' : OpR X (compareOp op') r') (ha : PE X a ta) (hb : PE X b tb) (hc : PE X c tc)
    (hm : lastMarks [op, op'] [b, c] = false := by with_unfolding_all rfl) : PT X (.Compare a [op, op'] [b, c] pos) (tTest (tChain r r' ta tb tc)) := by
  intro pins s σ H Q I h
  refine isTrue_chain (thn (ha pins s σ H _ I h) fun v s1 ⟨x, H1, I1, r1, q1⟩ => test_link (thn (hb pins s1 σ H1 _ I1 q1) fun u s2 ⟨y, H2, I2, r2, q2⟩ =>
    thn (ho pins s2 σ H2 x y v u _ I2 r1 r2 q2) fun d s3 ⟨z, H3, I3, r3, k, e, q3⟩ => ?_)) hm
  subst e
  cases r3
  refine wpAny_truthy_bool ?_
  cases k with
  | false =>
    obtain ⟨k', e', q'⟩ := q3
    cases e'
    exact ite_ff ⟨H3, I3, q'⟩
  | true =>
    refine ite_tt (test_last (thn (hc pins s3 σ H3 _ I3 q3) fun w' s4 ⟨z', H4, I4, r4, q4⟩ => thn (ho' pins s4 σ H4 y z' u w' _ I4 r2 r4 q4) fun d' s5 ⟨z2, H5, I5, r5, k2, e2, q5⟩ => ?_))
    subst e2
    cases r5
    exact wpAny_truthy_bool ⟨H5, I5, q5⟩

theorem line63 : (sizeLine : Nat) < 2 ^ 63 := by rw [sizeLine_eq]; decide
/-! ### scalar builtins, by CallR -/
theorem vals1 {x : V} {us : List Value} (r : Vals [x] us) : ∃ u, us = [u] ∧ RelV x u := by
  cases r with
  | cons r1 r2 => cases r2; exact ⟨_, rfl, r1⟩
theorem vals2 {x y : V} {us : List Value} (r : Vals [x, y] us) : ∃ u w', us = [u, w'] ∧ RelV x u ∧ RelV y w' := by
  cases r with
  | cons r1 r2 =>
    cases r2 with
    | cons r3 r4 => cases r4; exact ⟨_, _, rfl, r1, r3⟩
end
end L2

namespace L2
open PySem PySem.Spec PyProof.Rows

/-! ### an instance, its attributes a map -/
structure ObjM (h : Heap) (x dx C : Addr) (mA : Str → Option Value) : Prop where
  obj : h.get? x = some (PySem.W.instObj C dx)
  ns : h.Ns1 dx mA
  ne : dx ≠ x

theorem lookIn_ns {h : Heap} {dx : Addr} {mA : Str → Option Value} (n : h.Ns1 dx mA) : ∃ od, h.get? dx = some od ∧ ∀ name, PySem.W.lookIn name od = some (mA name) := by
  obtain ⟨o, es, ep, ho, hd, hk, _, hm⟩ := n
  refine ⟨o, ho, fun name => ?_⟩
  have e := hm name
  unfold nsFind findBy at e
  rw [← Array.find?_toList] at e
  unfold PySem.W.lookIn
  rw [hd]
  dsimp only
  split
  · rename_i y q
    rw [q] at e
    exact congrArg some e
  · rename_i q
    rw [q] at e
    have a : es.toList.any (·.refKey) = false := by
      rw [List.any_eq_false]
      intro y hy
      obtain ⟨z, t, hkey⟩ := hk y (Array.mem_toList_iff.mp hy)
      simp [DictEntry.refKey, hkey]
    have a' : ¬ es.toList.any (·.refKey) = true := by rw [a]; exact Bool.false_ne_true
    rw [if_neg a']
    exact congrArg some e

theorem ObjM.look {h : Heap} {x dx C : Addr} {mA : Str → Option Value} (I : ObjM h x dx C mA) : ∃ od, PySem.W.InstAt h x (PySem.W.instObj C dx) C (some od) ∧ ∀ name, PySem.W.lookIn name od = some (mA name) :=
  let ⟨od, ho, hl⟩ := lookIn_ns I.ns
  ⟨od, ⟨I.obj, rfl, rfl, ho⟩, hl⟩

section
variable {prog : Program} {w : World} {A : Around} {E : Value → Shared → Prop} {s : Shared} {K : PySem.W.Frag} {x dx C f : Addr} {mA : Str → Option Value} {name : Str} {v : Value}

theorem get_map {expr : Bool} {Q : Value → Shared → Prop} (X : K.In s.heap) (I : ObjM s.heap x dx C mA) (hg : PySem.W.plainGet K C name = true) (hh : PySem.W.hasDictIn K C = true)
    (ha : PySem.W.findIn K (.ref C) name = some none) (hv : mA name = some v) (hv' : PySem.W.handedIn v = true) (h : Q v { s with toks := s.toks + 1 }) :
    wpAny (model prog w) A (getAttr (.ref x) name expr) Q E s := by
  obtain ⟨od, J, hl⟩ := I.look
  exact PySem.W.get_value X J (PySem.W.plainGet_of hg).1 (PySem.W.findObj_own hh ha rfl (by rw [hl, hv])) hv' h

theorem get_meth {pl : Sem Bool} {Q : Value × List Value → Shared → Prop} (X : K.In s.heap) (I : ObjM s.heap x dx C mA) (hg : PySem.W.plainGet K C name = true)
    (hf : PySem.W.findIn K (.ref C) name = some (some (.ref f))) (ht : PySem.W.isFn K (.ref f) = true) (hv : mA name = none) (h : Q (.ref f, [.ref x]) s) :
    wpAny (model prog w) A (getMethod (.ref x) name pl) Q E s := by
  obtain ⟨od, J, hl⟩ := I.look
  exact PySem.W.method_fn X J (PySem.W.plainGet_of hg).1 (PySem.W.plainGet_of hg).2 hf (beq_iff_eq.mp ht) (by show (PySem.W.lookIn name od).map (·.isSome) = some false; rw [hl, hv]; rfl) h

theorem set_map {ns : List Str} {Q : Unit → Shared → Prop} (X : K.In s.heap) (I : ObjM s.heap x dx C mA)
    (hs : PySem.W.findIn K (.ref C) "__setattr__" = some (some (.builtin "object.__setattr__"))) (hp : PySem.W.plainOver K C = true) (ht : PySem.W.takerIn K C name = some none) (hh : PySem.W.hasDictIn K C = true)
    (hw : PySem.Within mA ns) (hsz : ns.length ≤ sizeLine)
    (h : ∀ h', ObjM h' x dx C (fun y => if y = name then some v else mA y) → Heap.SameBut dx s.heap h' → Q () { s with heap := h', toks := s.toks + 2 }) :
    wpAny (model prog w) A (setAttr (.ref x) name v) Q E s := by
  obtain ⟨od, J, hl⟩ := I.look
  refine PySem.W.set_plain X J hs (PySem.W.osa_open (s := { s with toks := s.toks + 1 }) (r := none) X J hp ht fun b => ?_)
  obtain ⟨cd, hc, hd'⟩ := PySem.W.any_some hh
  have hx : s.heap.get? x = some ⟨.ref C, some dx, .plain, #[]⟩ := I.obj
  refine wpAny_bind (wpAny_pure (wpAny_bind (wpAny_bind (wpAny_loadPart hx (wpAny_bind (PySem.W.Looks.here (s := { s with toks := s.toks + 1 }) (PySem.W.looks_clsIn X hc) ?_))))))
  rw [hd']
  refine wpAny_pure (a := some dx) (wpAny_bind (wpAny_pure (wpAny_bind ?_)))
  refine wpAny_nsSet1 (s := { s with toks := s.toks + 1 }) I.ns fun h' hn2 hs2 => ?_
  obtain ⟨oD, esD, epD, hoD, hdD, hcD⟩ := hn2.count (PySem.Within.cons name v hw)
  refine wpAny_bind (wpAny_lookBehind hoD (by rw [hdD]; exact pastItsLine_dict (Nat.le_trans hcD (by rw [List.length_cons]; omega))) ?_)
  exact wpAny_pure (h _ ⟨(hs2.2 _ (Ne.symm I.ne)).trans I.obj, hn2, I.ne⟩ hs2)

/-- C(..): the dict at the heap's end, the instance behind it; then its __init__ -/
theorem make_map {R : Result → Shared → Prop} {vs : List Value} {kw : List (Str × Value)} (X : K.In s.heap) (hm : PySem.W.makesIn K C = true)
    (hi : PySem.W.findIn K (.ref C) "__init__" = some (some (.ref f))) (hf : PySem.W.typeIn K (.ref f) = some (.type "function"))
    (h : codeAny (model prog w) (A.under (.builtin "type.__call__" ⟨.ref C :: vs, kw⟩)) (.call (.ref f) ⟨.ref (s.heap.objs.size + 1) :: vs, kw⟩) (PySem.W.InitBack (s.heap.objs.size + 1) R)
      { s with heap := (s.heap.push PySem.W.emptyDict).push (PySem.W.instObj C s.heap.objs.size) }) :
    codeAny (model prog w) A (.call (.ref C) ⟨vs, kw⟩) R s := by
  obtain ⟨hh, g, d, t, os⟩ := s
  exact PySem.W.make_core (PySem.W.makes_of X hm) (PySem.W.looks_findIn X hi) (fun self => PySem.W.bind_fn X self hf) (.inl rfl) h
end

/-! ### the attributes as a list of pairs -/
def putF (f : Str) (v : V) : List (Str × V) → List (Str × V)
  | [] => [(f, v)]
  | (g, x) :: r => if g = f then (g, v) :: r else (g, x) :: putF f v r
theorem lookup_putF (f g : Str) (v : V) : ∀ fs : List (Str × V), (putF f v fs).lookup g = if g = f then some v else fs.lookup g
  | [] => by
    show List.lookup g [(f, v)] = _
    by_cases h : g = f
    · have hb : (g == f) = true := beq_iff_eq.mpr h
      simp only [List.lookup, hb, if_pos h]
    · have hb : (g == f) = false := beq_eq_false_iff_ne.mpr h
      simp only [List.lookup, hb, if_neg h]
  | (k, x) :: r => by
    have ih := lookup_putF f g v r
    rw [show putF f v ((k, x) :: r) = (if k = f then (k, v) :: r else (k, x) :: putF f v r) from rfl]
    by_cases hk : k = f
    · rw [if_pos hk]
      by_cases h : g = k
      · have hb : (g == k) = true := beq_iff_eq.mpr h
        simp only [List.lookup, hb, if_pos (h.trans hk)]
      · have hb : (g == k) = false := beq_eq_false_iff_ne.mpr h
        simp only [List.lookup, hb, if_neg (fun e : g = f => h (e.trans hk.symm))]
    · rw [if_neg hk]
      by_cases h : g = k
      · have hb : (g == k) = true := beq_iff_eq.mpr h
        simp only [List.lookup, hb, if_neg (fun e : g = f => hk (h.symm.trans e))]
      · have hb : (g == k) = false := beq_eq_false_iff_ne.mpr h
        simp only [List.lookup, hb]
        exact ih
theorem keys_putF (f : Str) (v : V) : ∀ fs : List (Str × V), f ∈ (putF f v fs).map (·.1) ∧ ∀ g, g ∈ fs.map (·.1) → g ∈ (putF f v fs).map (·.1)
  | [] => ⟨by simp [putF], fun g h => by simp at h⟩
  | (k, x) :: r => by
    obtain ⟨i1, i2⟩ := keys_putF f v r
    rw [show putF f v ((k, x) :: r) = (if k = f then (k, v) :: r else (k, x) :: putF f v r) from rfl]
    by_cases hk : k = f
    · rw [if_pos hk]
      subst hk
      exact ⟨by simp, fun g h => by simpa using h⟩
    · rw [if_neg hk]
      refine ⟨?_, fun g h => ?_⟩
      · rw [List.map_cons]
        exact List.mem_cons_of_mem _ i1
      · rw [List.map_cons] at h ⊢
        rcases List.mem_cons.mp h with e | e
        · exact List.mem_cons.mpr (.inl e)
        · exact List.mem_cons_of_mem _ (i2 g e)
theorem length_putF (f : Str) (v : V) : ∀ fs : List (Str × V), (putF f v fs).length ≤ fs.length + 1
  | [] => by simp [putF]
  | (k, x) :: r => by
    have ih := length_putF f v r
    rw [show putF f v ((k, x) :: r) = (if k = f then (k, v) :: r else (k, x) :: putF f v r) from rfl]
    by_cases hk : k = f
    · rw [if_pos hk, List.length_cons, List.length_cons]; omega
    · rw [if_neg hk, List.length_cons, List.length_cons]; omega

theorem RelO.some_of {v : V} {o : Option Value} (r : RelO (some v) o) : ∃ u, o = some u ∧ RelV v u := by
  cases o with
  | none => exact (show False from r).elim
  | some u => exact ⟨u, rfl, r⟩
theorem RelO.none_of {o : Option Value} (r : RelO none o) : o = none := by
  cases o with
  | none => rfl
  | some u => exact (show False from r).elim
theorem handed_of {v : V} {u : Value} (r : RelV v u) : PySem.W.handedIn u = true := by
  cases v with
  | non => cases (show u = Value.none from r); rfl
  | bl b => cases (show u = Value.bool b from r); rfl
  | int i => obtain ⟨t, e⟩ := (show ∃ t, u = Value.int i t from r); cases e; rfl
  | str x => obtain ⟨t, e⟩ := (show ∃ t, u = Value.str x t from r); cases e; rfl
  | byt b => obtain ⟨t, e⟩ := (show ∃ t, u = Value.bytes b t from r); cases e; rfl
  | flt b => obtain ⟨t, e⟩ := (show ∃ t, u = Value.float b t from r); cases e; rfl
  | ref a => cases (show u = Value.ref a from r); rfl
  | ty n => cases (show u = Value.type n from r); rfl

section
variable {P : Program} {w : World} {H H' : Hp} {h h' : Heap} {a C dx : Addr} {fs fs' : List (Str × V)}
theorem ins_get (hok : HOk P w H h) (e : H a = some (.ins C dx fs)) : ∃ mA, ObjM h a dx C mA ∧ (∀ f, RelO (fs.lookup f) (mA f)) ∧ PySem.Within mA (fs.map (·.1)) ∧ fs.length ≤ 1000 ∧ H dx = some (.own a) := by
  obtain ⟨d, z, ne, ob, mA, n, r, q⟩ := (show ObjOk P w H h a (.ins C dx fs) from hok a _ e)
  exact ⟨mA, ⟨ob, n, ne⟩, r, q, z, d⟩
end

/-! ### what of the text a class must have -/
structure Cls (K : PySem.W.Frag) (C : Addr) : Prop where
  pg : PySem.W.plainGet K C Str.empty = true
  hd : PySem.W.hasDictIn K C = true
  po : PySem.W.plainOver K C = true
  sa : PySem.W.findIn K (.ref C) "__setattr__" = some (some (.builtin "object.__setattr__"))
theorem Cls.get {K : PySem.W.Frag} {C : Addr} (c : Cls K C) (f : Str) : PySem.W.plainGet K C f = true := c.pg
/-- no class of it has the name -/
def NoAttr (K : PySem.W.Frag) (C : Addr) (f : Str) : Prop := PySem.W.findIn K (.ref C) f = some none
theorem NoAttr.taker {K : PySem.W.Frag} {C : Addr} {f : Str} (n : NoAttr K C f) : PySem.W.takerIn K C f = some none := by
  unfold PySem.W.takerIn
  rw [show PySem.W.findIn K (.ref C) f = some none from n]
  rfl
/-- a method: a plain def of the class or of one above it -/
structure Meth (K : PySem.W.Frag) (C : Addr) (m : Str) (f : Addr) : Prop where
  at_ : PySem.W.findIn K (.ref C) m = some (some (.ref f))
  fn : PySem.W.isFn K (.ref f) = true
  kp : PySem.W.keepIn K (.ref f) = true

section
variable {X : Cx} {pins : List (Addr × Obj)} {σ : St} {H : Hp} {s : Shared} {a C dx : Addr} {fs : List (Str × V)} {f : Str} {v : V} {A : Around} {E : Value → Shared → Prop}

theorem getattr_ok {b : Bool} {Q : Value → Shared → Prop} (I : Inv X pins σ H s) (e : H a = some (.ins C dx fs)) (c : Cls X.K C) (n : NoAttr X.K C f) (l : fs.lookup f = some v)
    (h : ∀ u s', Inv X pins σ H s' → RelV v u → Q u s') : wpAny (model X.prog X.w) A (getAttr (.ref a) f b) Q E s := by
  obtain ⟨mA, O, r, _, _, _⟩ := ins_get I.hok e
  obtain ⟨u, hu, ru⟩ := RelO.some_of (v := v) (o := mA f) (by rw [← l]; exact r f)
  exact get_map I.kIn O (c.get f) c.hd n hu (handed_of ru) (h u _ (I.tok _) ru)

theorem getmeth_ok {m : Str} {g : Addr} {pl : Sem Bool} {Q : Value × List Value → Shared → Prop} (I : Inv X pins σ H s) (e : H a = some (.ins C dx fs)) (c : Cls X.K C) (k : Meth X.K C m g) (l : fs.lookup m = none)
    (h : Q (.ref g, [.ref a]) s) : wpAny (model X.prog X.w) A (getMethod (.ref a) m pl) Q E s := by
  obtain ⟨mA, O, r, _, _, _⟩ := ins_get I.hok e
  have hn : mA m = none := RelO.none_of (by rw [← l]; exact r m)
  exact get_meth I.kIn O (c.get m) k.at_ k.fn hn h

theorem setattr_ok {y : V} {u : Value} {Q : Unit → Shared → Prop} (I : Inv X pins σ H s) (e : H a = some (.ins C dx fs)) (c : Cls X.K C) (n : NoAttr X.K C f) (hl : fs.length < 1000) (ry : RelV y u)
    (h : ∀ s', Inv X pins σ (upd H a (.ins C dx (putF f y fs))) s' → Q () s') : wpAny (model X.prog X.w) A (setAttr (.ref a) f u) Q E s := by
  obtain ⟨mA, O, r, wi, _, ho⟩ := ins_get I.hok e
  have hz : (fs.map (·.1)).length ≤ sizeLine := by rw [List.length_map, sizeLine_eq]; omega
  refine set_map I.kIn O c.sa c.po n.taker c.hd wi hz fun h' O' sb => h _ ?_
  have hd : ∃ o, h'.get? dx = some o := let ⟨o, _, _, e', _⟩ := O'.ns; ⟨o, e'⟩
  refine I.write (x := a) (e := dx) (by rw [e]; exact True.intro) (.inr ho) (fun b q hb z => (sb.2 b hb).trans z) hd ?_
  refine ⟨by rw [upd_ne O.ne]; exact ho, ?_, O.ne, O'.obj, _, O'.ns, fun g => ?_, fun g hg => ?_⟩
  · have := length_putF f y fs; omega
  · show RelO ((putF f y fs).lookup g) (if g = f then some u else mA g)
    rw [lookup_putF]
    by_cases q : g = f
    · rw [if_pos q, if_pos q]; exact ry
    · rw [if_neg q, if_neg q]; exact r g
  · by_cases q : g = f
    · rw [q]; exact (keys_putF f y fs).1
    · refine (keys_putF f y fs).2 g (wi g fun z => hg ?_)
      show (if g = f then some u else mA g) = none
      rw [if_neg q]; exact z

/-- a new instance, tracked, without attributes -/
theorem Inv.made (I : Inv X pins σ H s) : Inv X pins σ (upd (upd H s.heap.objs.size (.own (s.heap.objs.size + 1))) (s.heap.objs.size + 1) (.ins C s.heap.objs.size []))
    { s with heap := (s.heap.push PySem.W.emptyDict).push (PySem.W.instObj C s.heap.objs.size) } := by
  have e1 : (s.heap.push PySem.W.emptyDict).get? s.heap.objs.size = some PySem.W.emptyDict := Heap.get?_push_size s.heap rfl
  have e2 : ((s.heap.push PySem.W.emptyDict).push (PySem.W.instObj C s.heap.objs.size)).get? (s.heap.objs.size + 1) = some (PySem.W.instObj C s.heap.objs.size) := by
    have := Heap.get?_push_size (s.heap.push PySem.W.emptyDict) (o := PySem.W.instObj C s.heap.objs.size) rfl
    rwa [Heap.size_push] at this
  have e3 : (s.heap.push PySem.W.emptyDict).Ns s.heap.objs.size (fun _ => none) := ⟨PySem.W.emptyDict, #[], _, e1, rfl, (fun e he => absurd he (by simp)), fun _ => rfl⟩
  have I1 := I.laid (a := s.heap.objs.size) (o := .own (s.heap.objs.size + 1)) (h' := s.heap.push PySem.W.emptyDict) (t' := s.toks) (fun b u q => Heap.get?_push_of_some _ q) (Nat.le_refl _) ⟨_, e1⟩
  refine I1.laid (a := s.heap.objs.size + 1) (o := .ins C s.heap.objs.size []) (t' := s.toks) (fun b u q => Heap.get?_push_of_some _ q) (Nat.le_of_eq (Heap.size_push _ _)) ?_
  have ne : s.heap.objs.size ≠ s.heap.objs.size + 1 := Nat.ne_of_lt (Nat.lt_succ_self _)
  refine ⟨by rw [upd_ne ne, upd_same], Nat.zero_le _, ne, e2, fun _ => none, (Heap.Ns1.of_empty e3).at fun o q => Heap.get?_push_of_some _ q, fun _ => True.intro, fun y hy => absurd rfl hy⟩

/-- e.f where nothing but the object is asked: through attributeBase (super) and the last hold -/
theorem attr_of {prog : Program} {w : World} {env : Env} {e : Expr} {f : Str} {pos : Pos} {s : Shared} {Q : Value → Shared → Prop} (hb : attributeBase e f env (eval e env) = eval e env)
    (h : wpAny (model prog w) A (eval e env) (fun o s₁ => wpAny (model prog w) A (getAttr o f true) Q E s₁) E s) : wpAny (model prog w) A (eval (.Attribute e f pos) env) Q E s :=
  Attribute_any_ h (by rw [arm_eval_Attribute, hb])
end

/-! ### readings and rules -/
/-- e.f, an attribute of the instance -/
def tFld (K : PySem.W.Frag) (ta : TE) (f : Str) : TE := fun σ H Q => ta σ H fun x H1 => ∃ a C dx fs v, x = .ref a ∧ H1 a = some (.ins C dx fs) ∧ Cls K C ∧ NoAttr K C f ∧ fs.lookup f = some v ∧ Q v H1
/-- e.f = value -/
def sFld (K : PySem.W.Frag) (ta tv : TE) (f : Str) : TS := fun D σ H => tv σ H fun y H1 => ta σ H1 fun x H2 => ∃ a C dx fs, x = .ref a ∧ H2 a = some (.ins C dx fs) ∧ Cls K C ∧ NoAttr K C f ∧ fs.length < 1000 ∧
  D.nx σ (upd H2 a (.ins C dx (putF f y fs)))
/-- an augmented operator on two values -/
def InOp (X : Cx) (op : Operator) (rd : V → V → Hp → VK → Prop) : Prop :=
  ∀ (pins : List (Addr × Obj)) (s : Shared) (σ : St) (H : Hp) (x y : V) (u v : Value) (Q : VK), Inv X pins σ H s → RelV x u → RelV y v → rd x y H Q → wpAny (model X.prog X.w) X.A (inplaceOp op u v) (EP X pins σ Q) X.xe s
/-- e.f op= value -/
def sFldAug (K : PySem.W.Frag) (ta tv : TE) (rd : V → V → Hp → VK → Prop) (f : Str) : TS := fun D σ H => ta σ H fun x H1 => ∃ a C dx fs v, x = .ref a ∧ H1 a = some (.ins C dx fs) ∧ Cls K C ∧ NoAttr K C f ∧ fs.lookup f = some v ∧
  tv σ H1 fun y H2 => rd v y H2 fun z H3 => ∃ dx' fs', H3 a = some (.ins C dx' fs') ∧ fs'.length < 1000 ∧ D.nx σ (upd H3 a (.ins C dx' (putF f z fs')))

section
variable {X : Cx} {o e value : Expr} {f : Str} {pos pos' tpos : Pos} {ta tv : TE}
theorem pe_fld (he : PE X e ta) (hb : attributeBase e f X.env (eval e X.env) = eval e X.env) : PE X (.Attribute e f pos) (tFld X.K ta f) := by
  intro pins s σ H Q I h
  refine attr_of hb (thn (he pins s σ H _ I h) fun u s1 ⟨x, H1, I1, rx, a, C, dx, fs, v, ex, ea, c, n, l, q⟩ => ?_)
  subst ex
  obtain rfl : u = Value.ref a := rx
  exact getattr_ok I1 ea c n l fun u' s2 I2 ru => ⟨v, H1, I2, ru, q⟩
theorem ps_fld (ha : PE X o ta) (hv : PE X value tv) (hs : swapsWith value (some (.Attribute o f pos')) pos.line X.env = pure false) : PS X (.Assign [.Attribute o f pos'] value pos) (sFld X.K ta tv f) := by
  intro pins s σ H D I h
  refine plainObj_wpAny_Assign_Attribute (thn (hv pins s σ H _ I h) fun u s1 ⟨y, H1, I1, ry, q⟩ => thn (ha pins s1 σ H1 _ I1 q) fun ov s2 ⟨x, H2, I2, rx, a, C, dx, fs, ex, ea, c, n, l, q2⟩ => ?_) hs
  subst ex
  obtain rfl : ov = Value.ref a := rx
  exact setattr_ok I2 ea c n l ry fun s3 I3 => ⟨σ, _, I3, q2⟩
theorem ps_fldaug {op : Operator} {rd : V → V → Hp → VK → Prop} (ha : PE X o ta) (hv : PE X value tv) (hop : InOp X op rd) : PS X (.AugAssign (.Attribute o f tpos) op value pos) (sFldAug X.K ta tv rd f) := by
  intro pins s σ H D I h
  refine wpAny_AugAssign_AttributeAny (thn (ha pins s σ H _ I h) fun ov s1 ⟨x, H1, I1, rx, a, C, dx, fs, v, ex, ea, c, n, l, q⟩ => ?_)
  subst ex
  obtain rfl : ov = Value.ref a := rx
  refine getattr_ok I1 ea c n l fun u s2 I2 ru => thn (hv pins s2 σ H1 _ I2 q) fun w3 s3 ⟨y, H2, I3, ry, q3⟩ => thn (hop pins s3 σ H2 v y u w3 _ I3 ru ry q3) fun w4 s4 ⟨z, H3, I4, rz, dx', fs', ea', l', q4⟩ => ?_
  exact setattr_ok I4 ea' c n l' rz fun s5 I5 => ⟨σ, _, I5, q4⟩
def rAdd : V → V → Hp → VK → Prop := fun x y H Q => ∃ i j, x = .int i ∧ y = .int j ∧ Q (.int (i + j)) H
theorem in_add : InOp X .Add rAdd := by
  rintro pins s σ H x y u v Q I rx ry ⟨i, j, rfl, rfl, q⟩
  obtain ⟨t, rfl⟩ := (show ∃ t, u = Value.int i t from rx)
  obtain ⟨t', rfl⟩ := (show ∃ t', v = Value.int j t' from ry)
  exact PyProof.Rows.iadd_int ⟨.int (i + j), H, I.tok _, ⟨_, rfl⟩, q⟩
end

/-! ### isinstance -/
section
variable {X : Cx} {pins : List (Addr × Obj)} {σ : St} {H : Hp} {s : Shared} {A : Around} {E : Value → Shared → Prop} {Q : Value → Shared → Prop} {c : Value} {b : Bool}
end
end L2

namespace L2
open PySem PySem.Spec PyProof.Rows

/-! ### room -/
structure Room (k : Nat) (A : Around) : Prop where
  hd : A.handled = none
  dp : A.depth + 3 * k + 5 < recursionLimit
  un : A.units + 16 * k + 200 < cLine
theorem Room.mono {j k : Nat} {A : Around} (r : Room k A) (h : j ≤ k) : Room j A := ⟨r.hd, by have := r.dp; omega, by have := r.un; omega⟩
theorem Room.deeper {k : Nat} {A : Around} (r : Room (k + 1) A) (env : Env) : Room k (A.deeper env) :=
  ⟨r.hd, by have := r.dp; show A.depth + 1 + 3 * k + 5 < _; omega, by have := r.un; show A.units + 3 + 16 * k + 200 < _; omega⟩
theorem Room.in1 {k : Nat} {A : Around} (r : Room (k + 1) A) : Room k A.in1 :=
  ⟨r.hd, by have := r.dp; show A.depth + 3 * k + 5 < _; omega, by have := r.un; show A.units + 1 + 16 * k + 200 < _; omega⟩
theorem make_depth {A : Around} {C : Addr} {us : List Value} {kw : List (Str × Value)} : (A.under (.builtin "type.__call__" ⟨.ref C :: us, kw⟩)).depth = A.depth + 1 := by
  first | rfl | simp [Around.under, Code.weight, Code.isCreation, Code.isGuard, Code.isCaller, Code.frames, Code.isFrame, guardIds]
theorem make_units {A : Around} {C : Addr} {us : List Value} {kw : List (Str × Value)} : (A.under (.builtin "type.__call__" ⟨.ref C :: us, kw⟩)).units = A.units + 1 := by
  first | rfl | simp [Around.under, Code.cUnits, Code.frames, Code.isFrame]
theorem Room.make {k : Nat} {A : Around} (r : Room (k + 1) A) (C : Addr) (us : List Value) (kw : List (Str × Value)) : Room k (A.under (.builtin "type.__call__" ⟨.ref C :: us, kw⟩)) :=
  ⟨r.hd, by have := r.dp; rw [make_depth]; omega, by have := r.un; rw [make_units]; omega⟩
theorem Room.depth {k : Nat} {A : Around} (r : Room k A) : A.depth < recursionLimit := by have := r.dp; omega
theorem Room.units {k : Nat} {A : Around} (r : Room k A) : A.units + 64 < cLine := by have := r.un; omega
/-! ### argument lists and displays -/
def tNil : TA := fun _ H Q => Q [] H
def tCons (ta : TE) (tr : TA) : TA := fun σ H Q => ta σ H fun x H1 => tr σ H1 fun xs H2 => Q (x :: xs) H2
section
variable {X : Cx} {e : Expr} {es : List Expr} {te : TE} {t : TA} {pos : Pos}
theorem pa_nil : PA X [] tNil := fun _ _ _ _ H Q I h => Calls.spliced_nil ⟨[], H, I, .nil, h⟩
theorem pa_cons (ha : PE X e te) (hr : PA X es t) (hs : starEach (e :: es) X.env = (false, eval e X.env) :: starEach es X.env := by rfl) : PA X (e :: es) (tCons te t) := by
  intro pos pins s σ H Q I h
  rw [hs]
  show wpAny _ _ (spliced ((false, eval e X.env) :: backTo pos (starEach es X.env))) _ _ s
  refine Calls.spliced_cons (thn (ha pins s σ H _ I h) fun u s1 ⟨x, H1, I1, r1, q1⟩ => ?_)
  exact thn (hr pos pins s1 σ H1 _ I1 q1) fun us s2 ⟨xs, H2, I2, r2, q2⟩ => ⟨x :: xs, H2, I2, .cons r1 r2, q2⟩

/-- a tuple, a list of written items -/
def tTup (t : TA) : TE := fun σ H Q => t σ H fun xs H1 => xs.length ≤ sizeLine ∧ ∀ p, H1 p = none → Q (.ref p) (upd H1 p (.tup xs))
def tLst (t : TA) : TE := fun σ H Q => t σ H fun xs H1 => xs.length ≤ sizeLine ∧ ∀ p, H1 p = none → Q (.ref p) (upd H1 p (.lst xs))
theorem pe_tup {x1} (h : PA X es t) : PE X (.Tuple es x1 pos) (tTup t) := by
  intro pins s σ H Q I hq
  refine wpAny_Tuple_spliced (thn (h pos pins s σ H _ I hq) fun us s1 ⟨xs, H1, I1, r, z, q⟩ => ⟨by rw [← r.length]; exact z, ?_⟩)
  have hf : H1 s1.heap.objs.size = none := I1.hok.fresh (Nat.le_refl _)
  refine ⟨.ref s1.heap.objs.size, upd H1 s1.heap.objs.size (.tup xs), I1.laid (t' := s1.toks) (fun b u e => Heap.get?_push_of_some _ e) (Nat.le_refl _) ?_, rfl, q _ hf⟩
  exact ⟨z, us, r, ⟨_, Heap.get?_push_size _ rfl, rfl, _, rfl⟩⟩
theorem pe_lst (h : PA X es t) : PE X (.List es pos) (tLst t) := by
  intro pins s σ H Q I hq
  refine wpAny_List_spliced (thn (h pos pins s σ H _ I hq) fun us s1 ⟨xs, H1, I1, r, z, q⟩ => ⟨by rw [← r.length]; exact z, ?_⟩)
  have hf : H1 s1.heap.objs.size = none := I1.hok.fresh (Nat.le_refl _)
  refine ⟨.ref s1.heap.objs.size, upd H1 s1.heap.objs.size (.lst xs), I1.laid (t' := s1.toks) (fun b u e => Heap.get?_push_of_some _ e) (Nat.le_refl _) ?_, rfl, q _ hf⟩
  exact ⟨z, us, 0, r, Heap.get?_push_size _ rfl⟩
end

/-! ### what a def promises -/
/-- a def's promise: the bound arguments in the parameters' order, the heap, the wanted end, the wanted exception -/
abbrev Sp := List V → Hp → VK → XK → Prop
/-- how an exception lies behind a call (file 08 gives it): the callers' frames, abstract heap and state ahead of the call, the wish, the exception, the state -/
abbrev CXT := List Env → Hp → Shared → XK → Value → Shared → Prop

/-- the state at a call -/
structure Env0 (P : Program) (w : World) (K : PySem.W.Frag) (mg : Str → Option Value) (base : Heap) (A : Around) (outer : List Env) (s : Shared) (H : Hp) : Prop where
  frames : A.frames = some outer
  mod : Mod K mg base
  bs : ∀ b o, base.get? b = some o → s.heap.get? b = some o ∧ H b = none
  bsz : base.objs.size ≤ s.heap.objs.size
  funs : s.heap.FunFrames base outer
  frf : ∀ b ∈ frs outer, H b = none
  hok : HOk P w H s.heap
  bare : AllBare s.gens
/-- a call's end -/
def CE (outer : List Env) (P : Program) (w : World) (H : Hp) (s : Shared) (Q : VK) (u : Value) (s' : Shared) : Prop :=
  ∃ v H', s'.os = s.os ∧ AllBare s'.gens ∧ Un (frs outer) [] H H' s.heap s'.heap ∧ HOk P w H' s'.heap ∧ RelV v u ∧ Q v H'
def CR (CX : CXT) (outer : List Env) (P : Program) (w : World) (H : Hp) (s : Shared) (Q : VK) (E : XK) (r : Result) (s' : Shared) : Prop :=
  match r with
  | .ok (.ret u) => CE outer P w H s Q u s'
  | .ok _ => False
  | .error e => CX outer H s E e s'
structure FnOk (P : Program) (w : World) (K : PySem.W.Frag) (mg : Str → Option Value) (base : Heap) (CX : CXT) (k : Nat) (f : Addr) (fd : FuncData) (ps : List Str) (sp : Sp) : Prop where
  len : ∀ vs H Q E, sp vs H Q E → vs.length = ps.length
  run : ∀ (A : Around) (outer : List Env) (s : Shared) (H : Hp) (args : Args) (us : List Value) (vs : List V) (Q : VK) (E : XK), Room k A → Env0 P w K mg base A outer s H → BindsTo s fd args (ps.zip us) → Vals vs us → sp vs H Q E →
    codeAny (model P w) A (.call (.ref f) args) (CR CX outer P w H s Q E) s
theorem FnOk.mono {P : Program} {w : World} {K : PySem.W.Frag} {mg : Str → Option Value} {base : Heap} {CX : CXT} {j k : Nat} {f : Addr} {fd : FuncData} {ps : List Str} {sp : Sp} (F : FnOk P w K mg base CX j f fd ps sp) (h : j ≤ k) :
    FnOk P w K mg base CX k f fd ps sp := ⟨F.len, fun A outer s H args us vs Q E hr => F.run A outer s H args us vs Q E (hr.mono h)⟩
/-- a weaker promise -/
theorem FnOk.imp {P : Program} {w : World} {K : PySem.W.Frag} {mg : Str → Option Value} {base : Heap} {CX : CXT} {k : Nat} {f : Addr} {fd : FuncData} {ps : List Str} {sp sp' : Sp} (F : FnOk P w K mg base CX k f fd ps sp)
    (h : ∀ vs H Q E, sp' vs H Q E → sp vs H Q E) : FnOk P w K mg base CX k f fd ps sp' :=
  ⟨fun vs H Q E q => F.len vs H Q E (h _ _ _ _ q), fun A outer s H args us vs Q E hr he hb hv hs => F.run A outer s H args us vs Q E hr he hb hv (h _ _ _ _ hs)⟩

theorem Env0.make {P : Program} {w : World} {K : PySem.W.Frag} {mg : Str → Option Value} {base : Heap} {A : Around} {outer : List Env} {s : Shared} {H : Hp} (e : Env0 P w K mg base A outer s H) (C : Addr) (us : List Value) (kw : List (Str × Value)) :
    Env0 P w K mg base (A.under (.builtin "type.__call__" ⟨.ref C :: us, kw⟩)) outer s H := ⟨by first | exact e.frames | (simpa [Around.under, Code.envs, Code.isFrame, pushEnvs] using e.frames), e.mod, e.bs, e.bsz, e.funs, e.frf, e.hok, e.bare⟩
theorem Env0.in1 {P : Program} {w : World} {K : PySem.W.Frag} {mg : Str → Option Value} {base : Heap} {A : Around} {outer : List Env} {s : Shared} {H : Hp} (e : Env0 P w K mg base A outer s H) :
    Env0 P w K mg base A.in1 outer s H := ⟨e.frames, e.mod, e.bs, e.bsz, e.funs, e.frf, e.hok, e.bare⟩

section
variable {X : Cx} {pins : List (Addr × Obj)} {σ : St} {H : Hp} {s s' : Shared}
/-- from a body: what a callee wants -/
theorem Inv.env0 (I : Inv X pins σ H s) : Env0 X.prog X.w X.K X.mg X.base X.A X.stack s H :=
  ⟨I.ok.frames, I.ok.mod, I.bs, Nat.le_trans I.ok.bsz I.sz, I.stack, I.stkFree, I.hok, I.bare⟩
/-- behind a call -/
theorem Inv.after {Q : VK} {u : Value} (I : Inv X pins σ H s) (h : CE X.stack X.prog X.w H s Q u s') : EP X pins σ Q u s' := by
  obtain ⟨v, H', os, bare, un, hok, r, q⟩ := h
  obtain ⟨hh, g, d, t, os'⟩ := s'
  obtain rfl : os' = s.os := os
  exact ⟨v, H', I.call (h' := hh) (g' := g) (d' := d) (t' := t) (ch := []) un hok bare (fun b z => absurd z (by simp)), r, q⟩
end

/-! ### calls -/
/-- f(..): the written arguments, then the defaults dvs; E: what is wanted of an exception -/
def tCall (sp : Sp) (dvs : List V) (E : XK) (t : TA) : TE := fun σ H Q => t σ H fun vs H1 => sp (vs ++ dvs) H1 Q E
/-- o.m(..) of an instance of the class at C -/
def tMeth (C : Addr) (m : Str) (sp : Sp) (dvs : List V) (E : XK) (ta : TE) (t : TA) : TE := fun σ H Q => ta σ H fun x H1 => ∃ a dx fs, x = .ref a ∧ H1 a = some (.ins C dx fs) ∧ fs.lookup m = none ∧
  t σ H1 fun vs H2 => sp (x :: (vs ++ dvs)) H2 Q E
/-- how the parameters are bound: us the positional arguments, kw the keywords' values by name, ds the defaults that fill up -/
def Binds (K : PySem.W.Frag) (fd : FuncData) (ps : List Str) (ds : List Value) : Prop :=
  ∀ (s : Shared) (us : List Value), K.In s.heap → (us ++ ds).length = ps.length → BindsTo s fd ⟨us, []⟩ (ps.zip (us ++ ds))
/-- every parameter is given -/
theorem Binds.all {K : PySem.W.Frag} {fd : FuncData} {ps : List Str} (h : ∀ us : List Value, us.length = ps.length → bindArgs fd ⟨us, []⟩ = pure (ps.zip us)) : Binds K fd ps [] := fun s us _ hl => by
  rw [List.append_nil] at hl ⊢
  exact .of_eq (h us hl)

/-- an exception of a callee reaches what this body wants of exceptions -/
def Passes (CX : CXT) (X : Cx) (E : XK) : Prop := ∀ (pins : List (Addr × Obj)) (σ : St) (H : Hp) (s : Shared) (e : Value) (s' : Shared), Inv X pins σ H s → CX X.stack H s E e s' → X.xe e s'

section
variable {X : Cx} {CX : CXT} {k : Nat} {f C : Addr} {fd : FuncData} {ps : List Str} {sp : Sp} {dvs : List V} {ds : List Value} {E : XK} {x m : Str} {p pos apos : Pos} {e o : Expr} {es : List Expr} {ta : TE} {t : TA}

/-- the callee runs -/
theorem run_fn {pins : List (Addr × Obj)} {σ : St} {H : Hp} {s : Shared} {Q : VK} {us : List Value} {vs : List V} (F : FnOk X.prog X.w X.K X.mg X.base CX k f fd ps sp) (hr : Room k X.A) (hb : Binds X.K fd ps ds) (hd : Vals dvs ds) (hx : Passes CX X E)
    (I : Inv X pins σ H s) (r : Vals vs us) (h : sp (vs ++ dvs) H Q E) : wpAny (model X.prog X.w) X.A (call (.ref f) us) (EP X pins σ Q) X.xe s := by
  have r2 : Vals (vs ++ dvs) (us ++ ds) := r.append hd
  have hl : (us ++ ds).length = ps.length := by rw [← r2.length]; exact F.len _ _ _ _ h
  refine wpAny_call (codeAny_mono (F.run X.A X.stack s H ⟨us, []⟩ (us ++ ds) (vs ++ dvs) Q E hr I.env0 (hb s us I.kIn hl) r2 h) fun r s' hq => ?_)
  cases r with
  | error e => exact hx pins σ H s e s' I hq
  | ok fl =>
    cases fl with
    | ret u => exact I.after hq
    | next => exact False.elim hq
    | brk => exact False.elim hq
    | cont => exact False.elim hq

theorem pe_call (F : FnOk X.prog X.w X.K X.mg X.base CX k f fd ps sp) (hr : Room k X.A) (hg : Gl X x) (hm : X.mg x = some (.ref f)) (hk : PySem.W.keepIn X.K (.ref f) = true) (hb : Binds X.K fd ps ds) (hd : Vals dvs ds) (hx : Passes CX X E)
    (ha : PA X (e :: es) t) (hdb : (x == ("__debug__" : Str)) = false := by decide) (he : starEach (e :: es) X.env = (false, eval e X.env) :: starEach es X.env := by rfl) (hpl : (backTo pos (starEach es X.env)).any (·.1) = false := by rfl) :
    PE X (.Call (.Name x p) (e :: es) [] pos) (tCall sp dvs E t) := by
  intro pins s σ H Q I h
  refine wpAny_Call_Name_kw (ld_glob I hg hm ?_ hdb)
  refine PySem.W.callWith_K (h₀ := X.base) I.ok.mod.kin hk (thn (ha pos pins s σ H _ I h) fun us s1 ⟨vs, H1, I1, r, q⟩ => ⟨I1.kIn, ?_⟩) he hpl
  exact run_fn F hr hb hd hx I1 r q
/-- o.m(e, ..) -/
theorem pe_meth {pl : Sem Bool} (he : PE X o ta) (c : Cls X.K C) (hm : Meth X.K C m f) (F : FnOk X.prog X.w X.K X.mg X.base CX k f fd ps sp) (hr : Room k X.A) (hb : Binds X.K fd ps ds) (hd : Vals dvs ds) (hx : Passes CX X E) (ha : PA X (e :: es) t)
    (hst : starEach (e :: es) X.env = (false, eval e X.env) :: starEach es X.env := by rfl) (hpl : (backTo pos (starEach es X.env)).any (·.1) = false := by rfl)
    (ht : eval (.Call (.Attribute o m apos) (e :: es) [] pos) X.env = (do
      let ov ← eval o X.env
      standAt apos.atName
      let (f, first) ← holding [ov] (getMethod ov m pl)
      callWith pos f first (backTo pos (starEach (e :: es) X.env)) (backToKw pos (keywordEach [] X.env))) := by rfl) :
    PE X (.Call (.Attribute o m apos) (e :: es) [] pos) (tMeth C m sp dvs E ta t) := by
  intro pins s σ H Q I h
  refine PySem.W.methodCall_KW (pl := pl) (thn (he pins s σ H _ I h) fun u s1 ⟨x, H1, I1, rx, a, dx, fs, ex, ea, l, q⟩ => ?_) ht
  subst ex
  obtain rfl : u = Value.ref a := rx
  refine getmeth_ok I1 ea c hm l ?_
  refine PySem.W.callWith_K (first := [.ref a]) (h₀ := X.base) I.ok.mod.kin hm.kp (thn (ha pos pins s1 σ H1 _ I1 q) fun us s2 ⟨vs, H2, I2, r, q2⟩ => ⟨I2.kIn, ?_⟩) hst hpl
  exact run_fn (us := .ref a :: us) (vs := .ref a :: vs) F hr hb hd hx I2 (.cons rfl r) q2
/-- o.m() -/
theorem pe_meth0 {pl : Sem Bool} (he : PE X o ta) (c : Cls X.K C) (hm : Meth X.K C m f) (F : FnOk X.prog X.w X.K X.mg X.base CX k f fd ps sp) (hr : Room k X.A) (hb : Binds X.K fd ps ds) (hd : Vals dvs ds) (hx : Passes CX X E)
    (ht : eval (.Call (.Attribute o m apos) [] [] pos) X.env = (do
      let ov ← eval o X.env
      standAt apos.atName
      let (f, first) ← holding [ov] (getMethod ov m pl)
      callWith pos f first (backTo pos (starEach [] X.env)) (backToKw pos (keywordEach [] X.env))) := by rfl) :
    PE X (.Call (.Attribute o m apos) [] [] pos) (tMeth C m sp dvs E ta tNil) := by
  intro pins s σ H Q I h
  refine PySem.W.methodCall_KW (pl := pl) (thn (he pins s σ H _ I h) fun u s1 ⟨x, H1, I1, rx, a, dx, fs, ex, ea, l, q⟩ => ?_) ht
  subst ex
  obtain rfl : u = Value.ref a := rx
  refine getmeth_ok I1 ea c hm l ?_
  exact PySem.W.callWith_K0 (first := [.ref a]) I1.kIn hm.kp (run_fn (us := [.ref a]) (vs := [.ref a]) F hr hb hd hx I1 (.cons rfl .nil) q)

/-- what a class must have to be made -/
structure Mk (K : PySem.W.Frag) (C f : Addr) : Prop where
  makes : PySem.W.makesIn K C = true
  init : PySem.W.findIn K (.ref C) "__init__" = some (some (.ref f))
  fn : PySem.W.isFn K (.ref f) = true
  kp : PySem.W.keepIn K (.ref C) = true

end

section
variable {X : Cx} {CX : CXT} {k : Nat} {f C : Addr} {fd : FuncData} {ps ks : List Str} {sp : Sp} {E : XK} {x m : Str} {p pos apos kpos : Pos} {e o : Expr} {es : List Expr} {kws : List Keyword} {te ta : TE} {t tk : TA} {nm : Option Str}
variable {g : List Value → List Value → List Value} {gV : List V → List V → List V}
end

/-! ### a def's body keeps its promise -/
/-- names: the parameters first -/
structure FnScope (N P : List Str) (sc : Scope) : Prop where
  kind : sc.kind = .function
  co : sc.isCoroutine = false
  gen : sc.isGenerator = false
  nd : N.Nodup
  pre : N.take P.length = P
  par : ∀ x ∈ P, sc.names.lookup x = some .local ∨ sc.names.lookup x = some .cell
  nofree : ∀ y ∈ sc.names, y.2 ≠ .free

theorem bindL_out {kindOf : Str → Option NameKind} {x : Str} : ∀ {binds : List (Str × Value)} {m : Str → Option Value}, (∀ v, (x, v) ∉ binds) → bindL kindOf binds m x = m x
  | [], _, _ => rfl
  | (n, v) :: r, m, h => by
    unfold bindL
    rw [bindL_out fun w hw => h w (List.mem_cons_of_mem _ hw)]
    split
    · have : x ≠ n := by rintro rfl; exact h v List.mem_cons_self
      simp [this]
    · rfl
theorem bindC_out {kindOf : Str → Option NameKind} {x : Str} : ∀ {binds : List (Str × Value)} {m : Str → Option Value}, (∀ v, (x, v) ∉ binds) → bindC kindOf binds m x = m x
  | [], _, _ => rfl
  | (n, v) :: r, m, h => by
    unfold bindC
    rw [bindC_out fun w hw => h w (List.mem_cons_of_mem _ hw)]
    split
    · rfl
    · have : x ≠ n := by rintro rfl; exact h v List.mem_cons_self
      simp [this]
theorem bindL_get {kindOf : Str → Option NameKind} {x : Str} {v : Value} : ∀ {P : List Str} {vs : List Value} {i : Nat} {m : Str → Option Value}, P.Nodup → P[i]? = some x → vs[i]? = some v → kindOf x = some .local →
    bindL kindOf (P.zip vs) m x = some v
  | [], _, _, _, _, h, _, _ => by simp at h
  | _ :: _, [], _, _, _, _, h, _ => by simp at h
  | p :: P, w :: vs, 0, m, nd, h1, h2, hk => by
    simp at h1 h2; subst h1; subst h2
    show bindL kindOf ((p, w) :: P.zip vs) m p = _
    unfold bindL
    rw [bindL_out fun v hv => (List.nodup_cons.mp nd).1 (List.of_mem_zip hv).1, if_pos hk]
    simp
  | p :: P, w :: vs, i + 1, m, nd, h1, h2, hk => by
    show bindL kindOf ((p, w) :: P.zip vs) m x = _
    unfold bindL
    exact bindL_get (i := i) (List.nodup_cons.mp nd).2 (by simpa using h1) (by simpa using h2) hk
theorem bindC_get {kindOf : Str → Option NameKind} {x : Str} {v : Value} : ∀ {P : List Str} {vs : List Value} {i : Nat} {m : Str → Option Value}, P.Nodup → P[i]? = some x → vs[i]? = some v → kindOf x ≠ some .local →
    bindC kindOf (P.zip vs) m x = some v
  | [], _, _, _, _, h, _, _ => by simp at h
  | _ :: _, [], _, _, _, _, h, _ => by simp at h
  | p :: P, w :: vs, 0, m, nd, h1, h2, hk => by
    simp at h1 h2; subst h1; subst h2
    show bindC kindOf ((p, w) :: P.zip vs) m p = _
    unfold bindC
    rw [bindC_out fun v hv => (List.nodup_cons.mp nd).1 (List.of_mem_zip hv).1, if_neg hk]
    simp
  | p :: P, w :: vs, i + 1, m, nd, h1, h2, hk => by
    show bindC kindOf ((p, w) :: P.zip vs) m x = _
    unfold bindC
    exact bindC_get (i := i) (List.nodup_cons.mp nd).2 (by simpa using h1) (by simpa using h2) hk

/-- the names' values at the entry -/
def start (N : List Str) (vs : List V) : St := vs.map some ++ List.replicate (N.length - vs.length) none

/-- the context of a def's body, at its entry; an exception leaves the frame, then lies as CX says -/
def cxOf (CX : CXT) (P : Program) (w : World) (K : PySem.W.Frag) (mg : Str → Option Value) (base : Heap) (N : List Str) (qual : Str) (scope : Scope) (f : Addr) (cd : Value) (A : Around) (outer : List Env) (s : Shared) (H : Hp) (E : XK) : Cx where
  prog := P
  w := w
  K := K
  mg := mg
  base := base
  A := A.deeper (envOfC qual scope s.heap.objs.size f cd)
  N := N
  s₀ := s
  H₀ := H
  env := envOfC qual scope s.heap.objs.size f cd
  outer := outer
  stack := envOfC qual scope s.heap.objs.size f cd :: outer
  ex := []
  calm := true
  fn := fun _ => true
  pn := []
  xe := fun e s' => wpAny (model P w) (A.deeper (envOfC qual scope s.heap.objs.size f cd)) (leaving (envOfC qual scope s.heap.objs.size f cd) e) (fun _ s'' => CX outer H s E e s'') (fun e' s'' => CX outer H s E e' s'') s'

theorem cell_has {sc : Scope} {n : Nat} {x : Str} (h : sc.names.lookup x = some .cell) : ∃ c, (cellsFrom n sc.names []).lookup x = some c := by
  have q := PySem.W.cellsFrom_some sc.names n [] (.inl h)
  exact Option.isSome_iff_exists.mp q

theorem inv_start {CX : CXT} {P : Program} {w : World} {K : PySem.W.Frag} {mg : Str → Option Value} {base : Heap} {N ps : List Str} {qual : Str} {scope : Scope} {f : Addr} {cd : Value} {A : Around} {outer : List Env} {s s1 : Shared} {H : Hp} {E : XK} {us : List Value} {vs : List V}
    (S : FnScope N ps scope) (hd : A.handled = none) (e0 : Env0 P w K mg base A outer s H) (hl : vs.length = ps.length) (r : Vals vs us)
    (x : InCallC s s.heap.objs.size (bindL (envOfC qual scope s.heap.objs.size f cd).kindOf (ps.zip us) fun _ => none) (cellsFrom (s.heap.objs.size + 1) scope.names []) (bindC (envOfC qual scope s.heap.objs.size f cd).kindOf (ps.zip us) fun _ => none) s1) :
    Inv (cxOf CX P w K mg base N qual scope f cd A outer s H E) [] (start N vs) H s1 := by
  have hpl : ps.length ≤ N.length := by have := congrArg List.length S.pre; rw [List.length_take] at this; omega
  obtain ⟨h1, tk, rfl, hk⟩ := x.done
  have noA : ∀ b : Addr, b ∉ (cxOf CX P w K mg base N qual scope f cd A outer s H E).ex := fun b z => absurd (show b ∈ ([] : List Addr) from z) (by simp)
  refine ⟨⟨e0.mod, S.kind, rfl, rfl, Nat.le_refl _, fun y z c h1 h2 => ?_, fun y hy => ?_, fun y c _ h => ?_, fun _ => hd, Around.frames_deeper e0.frames, .inr ⟨rfl, rfl⟩, fun b z => absurd z (noA b), e0.bs, e0.bsz, fun b _ _ => noA b, fun b z => absurd z (noA b), e0.funs, e0.frf⟩,
    rfl, e0.bare, Un.kept hk, ⟨_, x.toInCall.ns, fun i y v h1 h2 h3 => ?_⟩, fun y c h => ⟨_, x.cell y c h⟩, e0.hok.fresh (Nat.le_refl _), fun y c h => ?_, fun p hp => absurd (show p ∈ ([] : List (Addr × Obj)) from hp) (by simp), e0.hok.kept hk, ?_⟩
  · exact name_of_addr x.apart (PySem.mem_of_lookup h1) (PySem.mem_of_lookup h2)
  · have hy : scope.names.lookup y = some .cell ∨ scope.names.lookup y = some .free := hy
    rcases hy with hy | hy
    · exact cell_has hy
    · exact absurd rfl (S.nofree _ (PySem.mem_of_lookup hy))
  · exact Nat.le_of_lt (x.above y c (PySem.mem_of_lookup h))
  · have hi : i < vs.length := by
      unfold start at h2
      by_cases hi : i < vs.length
      · exact hi
      · rw [List.getElem?_append_right (by simpa using hi)] at h2
        rw [List.getElem?_replicate] at h2
        split at h2 <;> cases h2
    have ha : vs[i]? = some v := by
      unfold start at h2
      rw [List.getElem?_append_left (by simpa using hi), List.getElem?_map] at h2
      cases e : vs[i]? with
      | none => rw [e] at h2; cases h2
      | some a => rw [e] at h2; cases h2; rfl
    obtain ⟨u, hu, rv⟩ := r.get ha
    have hp : ps[i]? = some y := by
      rw [← S.pre, List.getElem?_take_of_lt (by omega)]; exact h1
    have ndP : ps.Nodup := by rw [← S.pre]; exact S.nd.sublist (List.take_sublist _ _)
    refine ⟨u, rv, ?_⟩
    rcases S.par y (List.mem_of_getElem? hp) with k | k
    · exact .inl ⟨k, bindL_get ndP hp hu k⟩
    · obtain ⟨c, e⟩ := cell_has (n := s.heap.objs.size + 1) k
      refine .inr ⟨.inl k, c, e, ?_⟩
      have q := x.cell y c e
      rw [bindC_get ndP hp hu (by show scope.names.lookup y ≠ _; rw [k]; decide)] at q
      exact q
  · exact e0.hok.fresh (Nat.le_of_lt (x.above y c (PySem.mem_of_lookup h)))
  · unfold start
    show _ = N.length
    rw [List.length_append, List.length_map, List.length_replicate]
    omega

/-- THE RULE: a def (or a method) of the text, by its body. The body's reading t is chosen for each entry; it is run at the parameters' values -/
theorem fn_of {CX : CXT} {P : Program} {w : World} {K : PySem.W.Frag} {mg : Str → Option Value} {base : Heap} {k : Nat} {f : Addr} {name qual : Str} {params : Arguments} {body : List Stmt} {scope : Scope} {dV kV doc pm cdv ct oc : Value} {an od : Option Addr}
    {osl : Array (Option Value)} {N ps : List Str} {sp : Sp} (lk : K.lookup f = some ⟨oc, od, .func (PySem.W.fnOf name qual params body scope dV kV doc pm an cdv ct), osl⟩) (hcd : PySem.W.codeIn K cdv qual = true) (S : FnScope N ps scope)
    (len : ∀ vs H Q E, sp vs H Q E → vs.length = ps.length)
    (hbody : ∀ (A : Around) (outer : List Env) (s : Shared) (H : Hp) (vs : List V) (Q : VK) (E : XK), Room k (A.deeper (envOfC qual scope s.heap.objs.size f cdv)) → sp vs H Q E →
      ∃ t, PSs (cxOf CX P w K mg base N qual scope f cdv A outer s H E) body t ∧ t { nx := fun _ H' => Q .non H', rt := Q } (start N vs) H) :
    FnOk P w K mg base CX (k + 1) f (PySem.W.fnOf name qual params body scope dV kV doc pm an cdv ct) ps sp := by
  refine ⟨len, fun A outer s H args us vs Q E hr e0 hb r hsp => ?_⟩
  have hl := len _ _ _ _ hsp
  have KX : K.In s.heap := e0.mod.kin.keeps fun b o e => (e0.bs b o e).1
  have lim : s.heap.NoLimit := e0.mod.nolimit.keeps fun b o e => (e0.bs b o e).1
  have hkind : ∀ y ∈ ps.zip us, scope.names.lookup y.1 = some .local ∨ (scope.names.lookup y.1 = some .cell ∧ ((cellsFrom (s.heap.objs.size + 1) scope.names []).lookup y.1).isSome = true) := fun ⟨n, v⟩ hy => by
    rcases S.par n (List.of_mem_zip hy).1 with q | q
    · exact .inl q
    · exact .inr ⟨q, PySem.W.cellsFrom_some _ _ _ (.inl q)⟩
  refine codeAny_call_function hr.depth (KX _ _ lk) rfl S.co S.gen rfl (PySem.W.codeRec_of KX hcd) (hb _ _ _ _ ?_)
  refine wpAny_newFunctionEnv_cells S.kind hkind fun env he s1 x => ?_
  subst he
  refine ⟨lim.keeps x.toInCall.keep, codeAny_func ?_⟩
  obtain ⟨t, ht, hq⟩ := hbody A outer s H vs Q E (hr.deeper _) hsp
  have I : Inv (cxOf CX P w K mg base N qual scope f cdv A outer s H E) [] (start N vs) H s1 := inv_start S hr.hd e0 hl r x
  refine wpAny_mono (ht [] s1 (start N vs) H _ I hq) (fun fl s' hs => ?_) fun e s' hs => hs
  have fin : ∀ {σ' : St} {H' : Hp} {v : V} {u : Value}, Inv (cxOf CX P w K mg base N qual scope f cdv A outer s H E) [] σ' H' s' → RelV v u → Q v H' → CE outer P w H s Q u s' :=
    fun {σ' H' v u} J rv q => ⟨v, H', J.os, J.bare, J.base, J.hok, rv, q⟩
  cases fl with
  | ret u =>
    obtain ⟨v, σ', H', J, rv, q⟩ := hs
    exact fin J rv q
  | next =>
    obtain ⟨σ', H', J, q⟩ := hs
    exact fin (v := V.non) (u := Value.none) J rfl q
  | brk =>
    obtain ⟨_, _, _, q⟩ := hs
    exact False.elim q
  | cont =>
    obtain ⟨_, _, _, q⟩ := hs
    exact False.elim q
end L2

namespace L2
open PySem PySem.Spec PyProof.Rows
section
variable {X : Cx} {x : Str} {p pos : Pos} {e : Expr} {es : List Expr} {t : TA} {id T : String} {r : List V → Hp → VK → Prop}

def tCB (r : List V → Hp → VK → Prop) (t : TA) : TE := fun σ H Q => t σ H fun vs H1 => r vs H1 Q
/-- f(e, ..), f a built-in function -/
theorem pe_callB (hc : CallR X (.builtin id) r) (hg : Gl X x) (hm : X.mg x = none) (hv : bootBuiltins x = some (.builtin id)) (ha : PA X (e :: es) t) (hn : x ≠ "__name__" := by decide) (hdb : (x == ("__debug__" : Str)) = false := by decide)
    (he : starEach (e :: es) X.env = (false, eval e X.env) :: starEach es X.env := by rfl) (hpl : (backTo pos (starEach es X.env)).any (·.1) = false := by rfl) : PE X (.Call (.Name x p) (e :: es) [] pos) (tCB r t) := by
  intro pins s σ H Q I h
  refine wpAny_Call_Name_kw (ld_blt I hg hm hv ?_ hn hdb)
  exact PyProof.Rows.callWith_builtin1 (thn (ha pos pins s σ H _ I h) fun us s1 ⟨vs, H1, I1, r1, q1⟩ => hc pins s1 σ H1 vs us Q I1 r1 q1) he hpl
/-- T(e, ..), T a built-in type -/
theorem pe_callTy (hc : CallR X (.type T) r) (hg : Gl X x) (hm : X.mg x = none) (hv : bootBuiltins x = some (.type T)) (ha : PA X (e :: es) t) (hn : x ≠ "__name__" := by decide) (hdb : (x == ("__debug__" : Str)) = false := by decide)
    (he : starEach (e :: es) X.env = (false, eval e X.env) :: starEach es X.env := by rfl) (hpl : (backTo pos (starEach es X.env)).any (·.1) = false := by rfl) : PE X (.Call (.Name x p) (e :: es) [] pos) (tCB r t) := by
  intro pins s σ H Q I h
  refine wpAny_Call_Name_kw (ld_blt I hg hm hv ?_ hn hdb)
  exact PyProof.Rows.callWith_type1 (thn (ha pos pins s σ H _ I h) fun us s1 ⟨vs, H1, I1, r1, q1⟩ => hc pins s1 σ H1 vs us Q I1 r1 q1) he hpl
end
end L2

namespace HT
open PySem PyProof.Rows

section
open PySem.SeqAt
open PySem.AutoSeq1 (wpAny_loadPart')
open PySem.MeetsSeq PySem.MeetsSeq2 PySem.MeetsSeq3

end

section
variable {prog : Program} {w : World} {A : Around} {E : Value → Shared → Prop} {s : Shared}

/-- t + u, t not empty -/
theorem cat_tup {t b : Addr} {vs ws : List Value} {Q : Value → Shared → Prop} (ht : IsTup s.heap t vs.toArray) (hb : IsTup s.heap b ws.toArray) (hv : vs ≠ [])
    (h1 : ws = [] → Q (.ref t) s) (h2 : ws ≠ [] → Q (.ref s.heap.objs.size) { s with heap := s.heap.push { cls := .type "tuple", data := .seq (vs ++ ws).toArray } })
    (hsz : vs.length + ws.length ≤ sizeLine) : wpAny (model prog w) A (binaryOp .Add (.ref t) (.ref b)) Q E s := by
  obtain ⟨⟨cls, dd, data, sl⟩, ho, hc, n, hd⟩ := id ht
  obtain ⟨⟨cls2, dd2, data2, sl2⟩, ho2, hc2, n2, hd2⟩ := id hb
  simp only at hc hd hc2 hd2
  subst hc hd hc2 hd2
  have e : vs.toArray ++ ws.toArray = (vs ++ ws).toArray := by simp
  by_cases hw : ws = []
  · exact concat_meets ⟨_, ho, rfl⟩ ⟨_, ho2, rfl⟩ noFill_tuple_add seq_tuple_add PySem.F.slot_tuple_add PySem.F.entry_tuple_add (PySem.F.args_tuple_add_2 _ _)
      (tuple_addW1 t b vs.toArray ws.toArray n n2 dd dd2 sl sl2 (by simpa using hv) (by simp [hw])) ⟨ho, ho2, h1 hw⟩
  · refine concat_meets ⟨_, ho, rfl⟩ ⟨_, ho2, rfl⟩ noFill_tuple_add seq_tuple_add PySem.F.slot_tuple_add PySem.F.entry_tuple_add (PySem.F.args_tuple_add_2 _ _)
      (tuple_addW2 t b vs.toArray ws.toArray n n2 dd dd2 sl sl2 (by simpa using hv) (by simpa using hw) (by rw [List.size_toArray, List.size_toArray]; exact hsz)) ⟨ho, ho2, ?_⟩
    rw [e]
    exact h2 hw

/-! ### t[a:b], not the whole -/
/-- a slice's bound as a place among n (d where it is left out) -/
def sIx (n d : Nat) : Option Int → Nat
  | none => d
  | some v => if v < 0 then (v + (n : Int)).toNat else min v.toNat n
theorem sIx_nat (n d k : Nat) : sIx n d (some (k : Int)) = min k n := by
  show (if (k : Int) < 0 then ((k : Int) + (n : Int)).toNat else min (k : Int).toNat n) = min k n
  rw [if_neg (by omega), Int.toNat_natCast]
theorem sIx_le (n d : Nat) (hd : d ≤ n) (o : Option Int) : sIx n d o ≤ n := by
  cases o with
  | none => exact hd
  | some v =>
    show (if v < 0 then (v + (n : Int)).toNat else min v.toNat n) ≤ n
    by_cases hv : v < 0
    · rw [if_pos hv]; omega
    · rw [if_neg hv]; exact Nat.min_le_right _ _
theorem clip_eq (v : Int) (n d : Nat) : (if v < 0 then max (v + (n : Int)) 0 else min v (n : Int)) = ((sIx n d (some v) : Nat) : Int) := by
  show (if v < 0 then max (v + (n : Int)) 0 else min v (n : Int)) = (((if v < 0 then (v + (n : Int)).toNat else min v.toNat n) : Nat) : Int)
  by_cases hv : v < 0
  · simp only [if_pos hv]; omega
  · simp only [if_neg hv]; omega
theorem adjust_gen (lo hi : Option Int) (n : Nat) : Builtin.Slice.sliceAdjust lo hi 1 (n : Int) = (((sIx n 0 lo : Nat) : Int), ((sIx n n hi : Nat) : Int)) := by
  have h1 : ¬ ((1 : Int) < 0) := by omega
  unfold Builtin.Slice.sliceAdjust
  simp only [h1, if_false]
  refine Prod.ext ?_ ?_
  · cases lo with
    | none => rfl
    | some v => exact clip_eq v n 0
  · cases hi with
    | none => rfl
    | some v => exact clip_eq v n n
theorem places_gen (i j : Nat) : Builtin.Slice.slicePlaces (i : Int) (j : Int) 1 = j - i := by
  unfold Builtin.Slice.slicePlaces
  have h1 : (1 : Int) > 0 := by omega
  simp only [h1, if_true, Int.ediv_one]
  split <;> omega
theorem slicePart_ {v : Value} {o : Option Int} {Q : Option Int → Shared → Prop} (p : IsPart v o) (h : Q o s) : wpAny (model prog w) A (Builtin.Slice.slicePartIndex v) Q E s := by
  cases p with
  | none => exact slicePart_none h
  | int i t => exact slicePart_int h
theorem sliceApplied_gen {sl : Addr} {vl vu : Value} {lo hi : Option Int} {n : Nat} {Q : Int × Int × Nat → Shared → Prop} (hs : s.heap.IsSliceOf sl vl vu .none) (pl : IsPart vl lo) (pu : IsPart vu hi)
    (h : Q (((sIx n 0 lo : Nat) : Int), 1, sIx n n hi - sIx n 0 lo) s) : wpAny (model prog w) A (Builtin.Slice.sliceApplied (.ref sl) (pure (n : Int))) Q E s := by
  obtain ⟨os, hos, hcs, hds⟩ := id hs
  unfold Builtin.Slice.sliceApplied Builtin.Slice.sliceFields
  refine wpAny_bind (wpAny_bind (wpAny_field hos hds (x := vl) rfl (wpAny_bind (wpAny_field hos hds (x := vu) rfl (wpAny_bind (wpAny_field hos hds (x := .none) rfl (wpAny_pure ?_)))))))
  refine wpAny_bind (slicePart_none ?_)
  show wpAny _ _ (if ((1 : Int) == 0) = true then _ else _) _ _ s
  rw [if_neg (by decide)]
  refine wpAny_bind (slicePart_ pl (wpAny_bind (slicePart_ pu (wpAny_bind (wpAny_pure ?_)))))
  show wpAny _ _ (match Builtin.Slice.sliceAdjust lo hi 1 (n : Int) with | (lo, hi) => pure (lo, (1 : Int), Builtin.Slice.slicePlaces lo hi 1)) _ _ s
  rw [adjust_gen lo hi n]
  show wpAny _ _ (pure (((sIx n 0 lo : Nat) : Int), (1 : Int), Builtin.Slice.slicePlaces ((sIx n 0 lo : Nat) : Int) ((sIx n n hi : Nat) : Int) 1)) _ _ s
  rw [places_gen]
  exact wpAny_pure h
theorem pick_gen (xs : Array Value) (i k : Nat) : ((List.range k).filterMap fun (m : Nat) => xs[((i : Int) + (m : Int) * 1).toNat]?).toArray = ((xs.toList.drop i).take k).toArray := by
  have e : (fun (m : Nat) => xs[((i : Int) + (m : Int) * 1).toNat]?) = fun m => xs[i + m]? := by
    funext m
    have : ((i : Int) + (m : Int) * 1).toNat = i + m := by omega
    rw [this]
  rw [e]
  have := pick_run xs i k
  rw [List.filterMap_map] at this
  have e2 : ((fun x => xs[x]?) ∘ fun x => i + x) = fun m => xs[i + m]? := rfl
  rw [e2] at this
  rw [this]

theorem getItem_tuple_cut {t sl : Addr} {items : Array Value} {vl vu : Value} {lo hi : Option Int} {Q : Value → Shared → Prop} (ht : IsTup s.heap t items) (hs : s.heap.IsSliceOf sl vl vu .none) (pl : IsPart vl lo) (pu : IsPart vu hi)
    (hw : ¬ (sIx items.size 0 lo = 0 ∧ sIx items.size items.size hi = items.size))
    (h : Q (.ref s.heap.objs.size) { s with heap := s.heap.push { cls := .type "tuple", data := .seq ((items.toList.drop (sIx items.size 0 lo)).take (sIx items.size items.size hi - sIx items.size 0 lo)).toArray } })
    (hsz : items.size ≤ sizeLine) : wpAny (model prog w) A (getItem (.ref t) (.ref sl)) Q E s := by
  have htake : sizeOk (.seq ((items.toList.drop (sIx items.size 0 lo)).take (sIx items.size items.size hi - sIx items.size 0 lo)).toArray) := by
    show ((items.toList.drop (sIx items.size 0 lo)).take (sIx items.size items.size hi - sIx items.size 0 lo)).toArray.size ≤ sizeLine
    rw [List.size_toArray, List.length_take, List.length_drop, Array.length_toList]
    omega
  have hj : sIx items.size items.size hi ≤ items.size := sIx_le _ _ (Nat.le_refl _) hi
  obtain ⟨os, hos, hcs, hds⟩ := id hs
  have hTs : s.TypeIs (.ref sl) "slice" := ⟨os, hos, hcs⟩
  unfold getItem
  try with_reducible refine wpAny_holding ?_
  first | refine wpAny_bind (wpAny_pure ?_) | skip
  refine wpAny_bind (wpAny_sequenceKey ht.typeIs (by decide) ?_)
  refine wpAny_bind (wpAny_callSpecial?_slot (name := Str.ofString "__getitem__") ht.typeIs PyProof.Rows.slot_tuple_getitem
    (wpAny_call_entry PyProof.Rows.slot_tuple_getitem ht.typeIs entry_tuple_getitem ?_ (args_tuple_getitem _ _)))
  show wpAny _ _ (Builtin.Tuple.tupleItemsOf (.ref t) >>= _) _ _ s
  refine wpAny_bind (tupleItemsOf_ ht ?_)
  refine wpAny_bind (wpAny_typeOf hTs ?_)
  rw [if_pos (by decide)]
  refine wpAny_bind (sliceApplied_gen hs pl pu ?_)
  have hno : ¬ ((((sIx items.size 0 lo : Nat) : Int) == 0 && (1 : Int) == 1 && (sIx items.size items.size hi - sIx items.size 0 lo) == items.size) = true) := by
    intro q
    rw [Bool.and_eq_true, Bool.and_eq_true] at q
    have q1 : ((sIx items.size 0 lo : Nat) : Int) = 0 := eq_of_beq q.1.1
    have q2 : sIx items.size items.size hi - sIx items.size 0 lo = items.size := eq_of_beq q.2
    exact hw ⟨by omega, by omega⟩
  show wpAny _ _ (if (((sIx items.size 0 lo : Nat) : Int) == 0 && (1 : Int) == 1 && (sIx items.size items.size hi - sIx items.size 0 lo) == items.size) = true then _ else _) _ _ s
  rw [if_neg hno, pick_gen]
  first
    | exact wpAny_bind (m := Builtin.Tuple.tupleExact _) (wpAny_newObj_type (wpAny_pure ⟨_, rfl, wpAny_pure h⟩) htake)
    | exact wpAny_bind (m := Builtin.Tuple.tupleExact _) (wpAny_newObj_type (wpAny_bind (wpAny_pure (wpAny_pure ⟨_, rfl, wpAny_pure h⟩))) htake)
    | exact wpAny_bind (wpAny_bind (m := Builtin.Tuple.tupleExact _) (wpAny_newObj_type (wpAny_pure (wpAny_pure ⟨_, rfl, wpAny_pure h⟩)) htake))
    | exact wpAny_bind (wpAny_bind (m := Builtin.Tuple.tupleExact _) (wpAny_newObj_type (wpAny_pure ⟨_, rfl, wpAny_pure h⟩) htake))
end
end HT

namespace L2
open PySem PySem.Spec PyProof.Rows

/-! ### the parts of a slice -/
abbrev TO := St → Hp → (Option Int → Hp → Prop) → Prop
/-- a slice's part (left out, or an int) -/
def PO (X : Cx) (e : Option Expr) (t : TO) : Prop :=
  ∀ (pins : List (Addr × Obj)) (s : Shared) (σ : St) (H : Hp) (Q : Option Int → Hp → Prop), Inv X pins σ H s → t σ H Q →
    wpAny (model X.prog X.w) X.A (evalPart e X.env) (fun u s' => ∃ o H', Inv X pins σ H' s' ∧ IsPart u o ∧ Q o H') X.xe s
def tPart (t : TE) : TO := fun σ H Q => t σ H fun x H1 => ∃ i, x = .int i ∧ Q (some i) H1

section
variable {X : Cx} {e : Expr} {te : TE} {lo hi : Option Expr} {tl th : TO} {pos p2 : Pos}

theorem po_some (h : PE X e te) : PO X (some e) (tPart te) := by
  intro pins s σ H Q I hw
  rw [evalPart_some]
  refine thn (h pins s σ H _ I hw) fun u s1 ⟨x, H1, I1, r1, q1⟩ => ?_
  obtain ⟨i, rfl, q⟩ := q1
  obtain ⟨t, rfl⟩ := r1
  exact ⟨some i, H1, I1, .int i t, q⟩

/-- what a slice of a value is, by values: the slice object stands at sl -/
def SlR (X : Cx) (r : V → Option Int → Option Int → Hp → VK → Prop) : Prop :=
  ∀ (pins : List (Addr × Obj)) (s : Shared) (σ : St) (H : Hp) (x : V) (v vl vu : Value) (lo hi : Option Int) (sl : Addr) (Q : VK), Inv X pins σ H s → RelV x v → s.heap.IsSliceOf sl vl vu .none → IsPart vl lo → IsPart vu hi → r x lo hi H Q →
    ∃ T id, typeLookup (.type T) "__getitem__" = pure (some (.builtin id)) ∧ s.TypeIs v T ∧ wpAny (model X.prog X.w) X.A (getItem v (.ref sl)) (EP X pins σ Q) X.xe s
theorem SlR.or {r r' : V → Option Int → Option Int → Hp → VK → Prop} (h : SlR X r) (h' : SlR X r') : SlR X (fun x lo hi H Q => r x lo hi H Q ∨ r' x lo hi H Q) := by
  intro pins s σ H x v vl vu lo hi sl Q I rx hs pl pu q
  rcases q with q | q
  · exact h pins s σ H x v vl vu lo hi sl Q I rx hs pl pu q
  · exact h' pins s σ H x v vl vu lo hi sl Q I rx hs pl pu q
def tSl (r : V → Option Int → Option Int → Hp → VK → Prop) (te : TE) (tl th : TO) : TE := fun σ H Q => te σ H fun x H1 => tl σ H1 fun l H2 => th σ H2 fun u H3 => r x l u H3 Q
/-- a[lo:hi], any a -/
theorem pe_slice {r : V → Option Int → Option Int → Hp → VK → Prop} (hr : SlR X r) (he : PE X e te) (hl : PO X lo tl) (hu : PO X hi th) : PE X (.Subscript e (.Slice lo hi none p2) pos) (tSl r te tl th) := by
  intro pins s σ H Q I h
  refine Subscript_ (thn (he pins s σ H _ I h) fun v s1 ⟨x, H1, I1, r1, q1⟩ => ?_)
  refine wpAny_Slice (thn (hl pins s1 σ H1 _ I1 q1) fun vl s2 ⟨l, H2, I2, pl, q2⟩ => thn (hu pins s2 σ H2 _ I2 q2) fun vu s3 ⟨u, H3, I3, pu, q3⟩ => ?_)
  rw [evalPart_none]
  refine wpAny_pure ?_
  have I4 : Inv X pins σ H3 { s3 with heap := s3.heap.push { cls := .type "slice", data := .fields #[vl, vu, .none] } } := I3.kept (t' := s3.toks) fun b ob q => Heap.get?_push_of_some _ q
  obtain ⟨T, id, hT, ht, hg⟩ := hr pins { s3 with heap := s3.heap.push { cls := .type "slice", data := .fields #[vl, vu, .none] } } σ H3 x v vl vu l u s3.heap.objs.size Q I4 r1 (Heap.IsSliceOf.new ..) pl pu q3
  show wpAny (model X.prog X.w) X.A (subscriptTail e (.Slice lo hi none p2) v (.ref s3.heap.objs.size)) (EP X pins σ Q) X.xe { s3 with heap := s3.heap.push { cls := .type "slice", data := .fields #[vl, vu, .none] } }
  exact tail_any (ops := [.ref s3.heap.objs.size, v]) ht hT hg (by with_unfolding_all rfl)

/-- the items of xs[lo:hi] -/
def cutV (xs : List V) (lo hi : Option Int) : List V := (xs.drop (HT.sIx xs.length 0 lo)).take (HT.sIx xs.length xs.length hi - HT.sIx xs.length 0 lo)
theorem cutV_length (xs : List V) (lo hi : Option Int) : (cutV xs lo hi).length ≤ xs.length := by
  unfold cutV
  rw [List.length_take, List.length_drop]
  omega
/-- t[lo:hi], not the whole of it (the whole would be t itself) -/
def rSlT (K : PySem.W.Frag) : V → Option Int → Option Int → Hp → VK → Prop := fun x lo hi H Q => ∃ a xs, x = .ref a ∧ SqT K H a xs ∧
  ¬ (HT.sIx xs.length 0 lo = 0 ∧ HT.sIx xs.length xs.length hi = xs.length) ∧ ∀ p, H p = none → Q (.ref p) (upd H p (.tup (cutV xs lo hi)))
theorem sl_tup : SlR X (rSlT X.K) := by
  intro pins s σ H x v vl vu lo hi sl Q I rx hs pl pu h
  obtain ⟨a, xs, rfl, hx, hw, q⟩ := h
  cases rx
  obtain ⟨its, r, ht, hz⟩ := I.tuple hx
  have hlen : its.toArray.size = xs.length := by rw [List.size_toArray]; exact r.length.symm
  refine ⟨"tuple", _, PyProof.Rows.slot_tuple_getitem.lookup, ht.typeIs, ?_⟩
  refine HT.getItem_tuple_cut ht hs pl pu (by rw [hlen]; exact hw) ?_ (by rw [hlen]; exact hz)
  rw [hlen]
  refine ⟨.ref s.heap.objs.size, _, I.laid (t' := s.toks) (o := .tup (cutV xs lo hi)) (fun b ob q => Heap.get?_push_of_some _ q) (Nat.le_refl _) ?_, rfl, q _ (I.hok.fresh (Nat.le_refl _))⟩
  exact ⟨Nat.le_trans (cutV_length xs lo hi) hz, _, (r.drop (HT.sIx xs.length 0 lo)).take (HT.sIx xs.length xs.length hi - HT.sIx xs.length 0 lo), IsTup.new _ _⟩

/-- t + u, t not empty: u empty gives t itself -/
def rCatT (K : PySem.W.Frag) : R2 := fun x y H Q => ∃ a b xs ys, x = .ref a ∧ y = .ref b ∧ SqT K H a xs ∧ SqT K H b ys ∧ xs ≠ [] ∧ xs.length + ys.length ≤ sizeLine ∧
  (ys = [] → Q (.ref a) H) ∧ (ys ≠ [] → ∀ p, H p = none → Q (.ref p) (upd H p (.tup (xs ++ ys))))
theorem Vals.nil_iff {xs : List V} {us : List Value} (r : Vals xs us) : us = [] ↔ xs = [] := by
  cases r with
  | nil => simp
  | cons _ _ => simp
theorem op_catT : OpR X (binaryOp .Add) (rCatT X.K) := by
  intro pins s σ H x y v u Q I rx ry h
  obtain ⟨a, b, xs, ys, rfl, rfl, ha, hb, hx, hz, q1, q2⟩ := h
  cases rx
  cases ry
  obtain ⟨its, r1, p1, _⟩ := I.tuple ha
  obtain ⟨its2, r2, p2, _⟩ := I.tuple hb
  refine HT.cat_tup p1 p2 (fun z => hx (r1.nil_iff.mp z)) (fun z => ⟨.ref a, H, I, rfl, q1 (r2.nil_iff.mp z)⟩) (fun z => ?_) (by rw [← r1.length, ← r2.length]; exact hz)
  refine ⟨.ref s.heap.objs.size, _, I.laid (t' := s.toks) (o := .tup (xs ++ ys)) (fun b ob q => Heap.get?_push_of_some _ q) (Nat.le_refl _) ?_, rfl, q2 (fun w => z (r2.nil_iff.mpr w)) _ (I.hok.fresh (Nat.le_refl _))⟩
  exact ⟨by rw [List.length_append]; exact hz, _, r1.append r2, IsTup.new _ _⟩
end
end L2

namespace L2
open PySem PySem.Spec PyProof.Rows

/-! ### places -/
/-- the place that an index of any sign means -/
def ixN (n : Nat) (i : Int) : Option Nat := if 0 ≤ i then (if i < n then some i.toNat else none) else if -(n : Int) ≤ i then some (i + n).toNat else none
def atI {α : Type} (xs : List α) (i : Int) : Option α := (ixN xs.length i).bind fun j => xs[j]?
theorem ixN_seq {n : Nat} {i : Int} {j : Nat} (h : ixN n i = some j) : seqIndex? i n = some j ∧ j < n ∧ -(n : Int) ≤ i ∧ i < n := by
  unfold ixN at h
  by_cases h0 : 0 ≤ i
  · rw [if_pos h0] at h
    by_cases h1 : i < n
    · rw [if_pos h1] at h
      have e : i.toNat = j := Option.some.inj h
      exact ⟨by rw [seqIndex_of h0 h1, e], by omega, by omega, h1⟩
    · rw [if_neg h1] at h; cases h
  · rw [if_neg h0] at h
    by_cases h1 : -(n : Int) ≤ i
    · rw [if_pos h1] at h
      have e : (i + n).toNat = j := Option.some.inj h
      exact ⟨by rw [seqIndex_neg (by omega) h1, e], by omega, h1, by omega⟩
    · rw [if_neg h1] at h; cases h
theorem atI_get {α : Type} {xs : List α} {i : Int} {v : α} (h : atI xs i = some v) : ∃ j, seqIndex? i xs.length = some j ∧ xs[j]? = some v ∧ j < xs.length ∧ -(xs.length : Int) ≤ i ∧ i < xs.length := by
  unfold atI at h
  cases e : ixN xs.length i with
  | none => rw [e] at h; cases h
  | some j =>
    rw [e] at h
    obtain ⟨h1, h2, h3, h4⟩ := ixN_seq e
    exact ⟨j, h1, h, h2, h3, h4⟩
theorem atI_nat {α : Type} {xs : List α} {j : Nat} {v : α} (h : xs[j]? = some v) : atI xs (j : Int) = some v := by
  have hj : j < xs.length := (List.getElem?_eq_some_iff.mp h).1
  have e : ixN xs.length (j : Int) = some j := by
    unfold ixN
    rw [if_pos (by omega), if_pos (by omega)]; simp
  unfold atI; rw [e]; exact h
/-! ### what may be subscripted -/
/-- what stands as an index of a plain subscript -/
def PlainIx (b : Expr) : Prop := ∀ o i, subscripted b false o i = operate [o, i] (getItem o i)
/-- a subscript by values -/
def IxR (X : Cx) (r : R2) : Prop :=
  ∀ (value slice : Expr) (pins : List (Addr × Obj)) (s : Shared) (σ : St) (H : Hp) (x y : V) (v u : Value) (Q : VK), Inv X pins σ H s → RelV x v → RelV y u → r x y H Q →
    subscripted slice false v u = operate [v, u] (getItem v u) → wpAny (model X.prog X.w) X.A (subscriptTail value slice v u) (EP X pins σ Q) X.xe s
/-- a call of a builtin's method by values: the receiver, the arguments -/
def MtR (X : Cx) (id : String) (r : V → List V → Hp → VK → Prop) : Prop :=
  ∀ (pins : List (Addr × Obj)) (s : Shared) (σ : St) (H : Hp) (x : V) (xs : List V) (v : Value) (us : List Value) (Q : VK), Inv X pins σ H s → RelV x v → Vals xs us → r x xs H Q →
    wpAny (model X.prog X.w) X.A (call (.builtin id) (v :: us)) (EP X pins σ Q) X.xe s
section
variable {X : Cx} {a b : Expr} {ta tb : TE} {pos : Pos}
theorem IxR.or {r r' : R2} (h : IxR X r) (h' : IxR X r') : IxR X (fun x y H Q => r x y H Q ∨ r' x y H Q) := by
  intro value slice pins s σ H x y v u Q I rx ry q hs
  rcases q with q | q
  · exact h value slice pins s σ H x y v u Q I rx ry q hs
  · exact h' value slice pins s σ H x y v u Q I rx ry q hs
theorem MtR.or {id : String} {r r' : V → List V → Hp → VK → Prop} (h : MtR X id r) (h' : MtR X id r') : MtR X id (fun x xs H Q => r x xs H Q ∨ r' x xs H Q) := by
  intro pins s σ H x xs v us Q I rx rs q
  rcases q with q | q
  · exact h pins s σ H x xs v us Q I rx rs q
  · exact h' pins s σ H x xs v us Q I rx rs q
/-- a[b] -/
theorem pe_ix {r : R2} (hr : IxR X r) (ha : PE X a ta) (hb : PE X b tb) (hs : PlainIx b) : PE X (.Subscript a b pos) (tOp r ta tb) := by
  intro pins s σ H Q I h
  exact Subscript_ (binT ha hb I h fun v u s2 x y H2 I2 rx ry q => hr a b pins s2 σ H2 x y v u Q I2 rx ry q (hs _ _))

def rIxL (K : PySem.W.Frag) : R2 := fun x y H Q => ∃ p xs i v, x = .ref p ∧ y = .int i ∧ SqL K H p xs ∧ atI xs i = some v ∧ Q v H
def rIxT (K : PySem.W.Frag) : R2 := fun x y H Q => ∃ p xs i v, x = .ref p ∧ y = .int i ∧ SqT K H p xs ∧ atI xs i = some v ∧ Q v H
theorem ix_list : IxR X (rIxL X.K) := by
  intro value slice pins s σ H x y v u Q I rx ry h hs
  obtain ⟨p, xs, i, z, rfl, rfl, hq, he, q⟩ := h
  cases rx
  obtain ⟨t, rfl⟩ := ry
  obtain ⟨its, r, pl, hz⟩ := I.list hq
  obtain ⟨j, h1, h2, h3, h4, h5⟩ := atI_get he
  obtain ⟨w, ew, rw'⟩ := r.get h2
  have hl := r.length
  have hn := line63
  have fin : EP X pins σ Q w s := ⟨z, H, I, rw', q⟩
  by_cases h0 : 0 ≤ i
  · have hj : i.toNat = j := by
      rw [seqIndex_of h0 h5] at h1
      exact Option.some.inj h1
    exact item_listR pl.isList h0 (by omega) (by rw [hj]; simpa using ew) fin hs
  · have hj : (i + (its.toArray.size : Int)).toNat = j := by
      rw [seqIndex_neg (by omega) h4] at h1
      rw [List.size_toArray, ← hl]
      exact Option.some.inj h1
    exact subscriptTail_builtinR (x := w) pl.isList.typeIs slot_list_getitem.lookup
      (wpAny_getItem_list_neg (Q := fun r s' => r = w ∧ EP X pins σ Q r s') pl.isList (by omega) (by rw [List.size_toArray] <;> omega) (by omega) (by rw [hj]; simpa using ew) ⟨rfl, fin⟩) hs
theorem ix_tup : IxR X (rIxT X.K) := by
  intro value slice pins s σ H x y v u Q I rx ry h hs
  obtain ⟨p, xs, i, z, rfl, rfl, hq, he, q⟩ := h
  cases rx
  obtain ⟨t, rfl⟩ := ry
  obtain ⟨its, r, pl, hz⟩ := I.tuple hq
  obtain ⟨j, h1, h2, h3, h4, h5⟩ := atI_get he
  obtain ⟨w, ew, rw'⟩ := r.get h2
  have hl := r.length
  have hn := line63
  have fin : EP X pins σ Q w s := ⟨z, H, I, rw', q⟩
  exact subscriptTail_builtinR (x := w) pl.typeIs slot_tuple_getitem.lookup
    (getItem_tuple (j := j) (Q := fun r s' => r = w ∧ EP X pins σ Q r s') pl (by omega) (by omega) (by rw [List.size_toArray, ← hl]; exact h1) (by simpa using ew) ⟨rfl, fin⟩) hs
/-! ### xs[i] = v, any sign -/
/-- the list's object behind a store -/
theorem mapSeq_set (its : List Value) (n j : Nat) (u : Value) : Obj.mapSeq (·.setIfInBounds j u) { cls := .type "list", data := .seq its.toArray n } = { cls := .type "list", data := .seq (its.set j u).toArray n } := by
  simp [Obj.mapSeq]
theorem Inv.lst {pins : List (Addr × Obj)} {σ : St} {H : Hp} {s : Shared} {p : Addr} {xs : List V} (I : Inv X pins σ H s) (h : H p = some (.lst xs)) :
    ∃ (its : List Value) (n : Nat), Vals xs its ∧ s.heap.get? p = some { cls := .type "list", data := .seq its.toArray n } ∧ xs.length ≤ sizeLine := by
  obtain ⟨z, its, n, r, e⟩ := I.hok p _ h
  exact ⟨its, n, r, e, z⟩
/-- the list at p is written by an update of its object -/
theorem Inv.lstUpd {pins : List (Addr × Obj)} {σ : St} {H : Hp} {s : Shared} {p : Addr} {xs ys : List V} {its its' : List Value} {n n' : Nat} {f : Obj → Obj} (I : Inv X pins σ H s) (h : H p = some (.lst xs))
    (ho : s.heap.get? p = some { cls := .type "list", data := .seq its.toArray n }) (hf : f { cls := .type "list", data := .seq its.toArray n } = { cls := .type "list", data := .seq its'.toArray n' }) (r : Vals ys its') (hz : ys.length ≤ sizeLine) (t : Nat) :
    Inv X pins σ (upd H p (.lst ys)) { s with heap := s.heap.update p f, toks := t } := by
  have e : (s.heap.update p f).get? p = some { cls := .type "list", data := .seq its'.toArray n' } := by
    rw [Heap.get?_update_self f ho (by rw [hf] <;> rfl), hf]
  refine I.write (x := p) (e := p) (by rw [h]; trivial) (.inl rfl) (fun b u hb q => (Heap.get?_update_other _ _ (Ne.symm hb)).trans q) ⟨_, e⟩ ?_
  exact ⟨hz, its', n', r, e⟩
def rSetL : V → V → V → Hp → (Hp → Prop) → Prop := fun o i v H Q => ∃ p xs k j, o = .ref p ∧ i = .int k ∧ H p = some (.lst xs) ∧ ixN xs.length k = some j ∧ Q (upd H p (.lst (xs.set j v)))
theorem set_list : PSet X rSetL := by
  intro pins s σ H o i v ov iv u Q I ro ri rv h
  obtain ⟨p, xs, k, j, rfl, rfl, hp, hj, q⟩ := h
  cases ro
  obtain ⟨t, rfl⟩ := ri
  obtain ⟨its, n, r, ho, hz⟩ := I.lst hp
  obtain ⟨h1, h2, h3, h4⟩ := ixN_seq hj
  have hl := r.length
  have hn := line63
  have I' : Inv X pins σ (upd H p (.lst (xs.set j v))) { s with heap := s.heap.update p (Obj.mapSeq (·.setIfInBounds j u)) } :=
    I.lstUpd hp ho (mapSeq_set its n j u) (r.set rv j) (by rw [List.length_set]; exact hz) s.toks
  by_cases h0 : 0 ≤ k
  · have hk : k.toNat = j := by
      rw [seqIndex_of h0 h4] at h1
      exact Option.some.inj h1
    exact PySem.W.ki_setAt ho h0 (by omega) (by rw [List.size_toArray, ← hl]; exact h4) (by rw [hk]; exact ⟨_, I', q⟩)
  · have hk : (k + (its.toArray.size : Int)).toNat = j := by
      rw [seqIndex_neg (by omega) h3] at h1
      rw [List.size_toArray, ← hl]
      exact Option.some.inj h1
    exact PySem.W.ki_setBack ho (by omega) (by rw [List.size_toArray, ← hl]; exact h3) (by omega) (by rw [hk]; exact ⟨_, I', q⟩)

/-! ### slices -/
theorem slice_bounds (lo hi : Option Int) (n : Nat) : (sliceBounds lo hi none n).1 = ((HT.sIx n 0 lo : Nat) : Int) ∧ (sliceBounds lo hi none n).2.1 = ((HT.sIx n n hi : Nat) : Int) ∧ (sliceBounds lo hi none n).2.2 = 1 := by
  refine ⟨?_, ?_, rfl⟩
  · cases lo with
    | none => simp [sliceBounds, HT.sIx]
    | some i =>
      simp only [sliceBounds, HT.sIx, Option.getD_none, show (1 : Int) > 0 by decide, if_true]
      by_cases h : i < 0
      · simp only [h, if_true] <;> omega
      · simp only [h, if_false] <;> omega
  · cases hi with
    | none => simp [sliceBounds, HT.sIx]
    | some i =>
      simp only [sliceBounds, HT.sIx, Option.getD_none, show (1 : Int) > 0 by decide, if_true]
      by_cases h : i < 0
      · simp only [h, if_true] <;> omega
      · simp only [h, if_false] <;> omega
theorem slicePick_cut (its : List Value) (lo hi : Option Int) : slicePick its.toArray lo hi none = ((its.drop (HT.sIx its.length 0 lo)).take (HT.sIx its.length its.length hi - HT.sIx its.length 0 lo)).toArray := by
  obtain ⟨h1, h2, h3⟩ := slice_bounds lo hi its.toArray.size
  unfold slicePick
  rw [h1, h2, h3]
  simp only [sliceRange_one, pick_run, List.size_toArray] <;> rfl
/-- xs[lo:hi] of a list: a new list -/
def rSlL (K : PySem.W.Frag) : V → Option Int → Option Int → Hp → VK → Prop := fun x lo hi H Q => ∃ a xs, x = .ref a ∧ SqL K H a xs ∧ ∀ p, H p = none → Q (.ref p) (upd H p (.lst (cutV xs lo hi)))
theorem sl_list : SlR X (rSlL X.K) := by
  intro pins s σ H x v vl vu lo hi sl Q I rx hs pl pu h
  obtain ⟨a, xs, rfl, hx, q⟩ := h
  cases rx
  obtain ⟨its, r, ht, hz⟩ := I.list hx
  have hlen := r.length
  refine ⟨"list", _, slot_list_getitem.lookup, ht.isList.typeIs, ?_⟩
  refine wpAny_getItem_list_slice ht.isList hs pl pu .none (by simp) ?_ (by rw [List.size_toArray] <;> omega)
  rw [slicePick_cut, ← hlen]
  refine ⟨.ref s.heap.objs.size, _, I.laid (t' := s.toks) (o := .lst (cutV xs lo hi)) (fun b ob q => Heap.get?_push_of_some _ q) (Nat.le_refl _) ?_, rfl, q _ (I.hok.fresh (Nat.le_refl _))⟩
  exact ⟨Nat.le_trans (cutV_length xs lo hi) hz, _, 0, (r.drop (HT.sIx xs.length 0 lo)).take (HT.sIx xs.length xs.length hi - HT.sIx xs.length 0 lo), Heap.get?_push_size _ rfl⟩

/-! ### len, list(x), tuple(x) of any list or tuple that is read -/
theorem call_len_seq : CallR X (.builtin "len") (fun xs H Q => ∃ p ys, xs = [.ref p] ∧ (SqL X.K H p ys ∨ SqT X.K H p ys) ∧ Q (.int ys.length) H) := by
  intro pins s σ H xs us Q I r h
  obtain ⟨p, ys, rfl, hq, q⟩ := h
  obtain ⟨u, rfl, rx⟩ := vals1 r
  cases rx
  have hn := line63
  rcases hq with hq | hq
  · obtain ⟨its, r', pl, hz⟩ := I.list hq
    have hlen := r'.length
    exact Calls.call_len_list pl.isList (by simp only [List.size_toArray] <;> omega) ⟨.int ys.length, H, I.tok _, ⟨s.toks + 1, by rw [List.size_toArray, hlen]⟩, q⟩
  · obtain ⟨its, r', pl, hz⟩ := I.tuple hq
    have hlen := r'.length
    exact len_tuple pl (by simp only [List.size_toArray] <;> omega) ⟨.int ys.length, H, I.tok _, ⟨s.toks + 1, by rw [List.size_toArray, hlen]⟩, q⟩
theorem CallR.or {f : Value} {r r' : List V → Hp → VK → Prop} (h : CallR X f r) (h' : CallR X f r') : CallR X f (fun xs H Q => r xs H Q ∨ r' xs H Q) := by
  intro pins s σ H xs us Q I rs q
  rcases q with q | q
  · exact h pins s σ H xs us Q I rs q
  · exact h' pins s σ H xs us Q I rs q
theorem call_tuple_of : CallR X (.type "tuple") (fun xs H Q => ∃ p ys, xs = [.ref p] ∧ ((SqL X.K H p ys ∧ ∀ l, H l = none → Q (.ref l) (upd H l (.tup ys))) ∨ (SqT X.K H p ys ∧ Q (.ref p) H))) := by
  intro pins s σ H xs us Q I r h
  obtain ⟨p, ys, rfl, h⟩ := h
  obtain ⟨u, rfl, rx⟩ := vals1 r
  cases rx
  rcases h with ⟨hq, q⟩ | ⟨hq, q⟩
  · obtain ⟨its, r', pl, hz⟩ := I.list hq
    have hlen := r'.length
    refine call_tuple_list pl.isList (fun h' kp => ?_) (by simp only [List.size_toArray] <;> omega)
    have I1 : Inv X pins σ H { s with heap := h' } := I.kept (t' := s.toks) kp
    have I2 : Inv X pins σ (upd H h'.objs.size (.tup ys)) { s with heap := h'.push { cls := .type "tuple", data := .seq its.toArray } } :=
      I1.laid (t' := s.toks) (fun b o e => Heap.get?_push_of_some _ e) (Nat.le_refl _) (show ObjOk X.prog X.w _ _ _ (.tup ys) from ⟨hz, its, r', IsTup.new _ _⟩)
    exact ⟨.ref h'.objs.size, _, I2, rfl, q _ (I1.hok.fresh (Nat.le_refl _))⟩
  · obtain ⟨its, r', pl, hz⟩ := I.tuple hq
    exact call_tuple_same pl ⟨.ref p, H, I, rfl, q⟩

/-! ### the call of a builtin's method: o.m(..) -/
/-- the value is of that builtin type -/
def tyV (K : PySem.W.Frag) (T : String) (x : V) (H : Hp) : Prop := match x with
  | .str _ => T = "str"
  | .int _ => T = "int"
  | .ref p => (T = "list" ∧ ∃ xs, SqL K H p xs) ∨ (T = "tuple" ∧ ∃ o, K.lookup p = some o ∧ o.cls = .type "tuple" ∧ o.dict = none) ∨
      (T = "dict" ∧ ((∃ kvs, H p = some (.dK kvs)) ∨ ∃ kvs, H p = some (.dT kvs))) ∨ (T = "set" ∧ ∃ S n, H p = some (.set S n))
  | _ => False
theorem tyV_is {pins : List (Addr × Obj)} {σ : St} {H : Hp} {s : Shared} {T : String} {x : V} {v : Value} (I : Inv X pins σ H s) (r : RelV x v) (ty : tyV X.K T x H) :
    s.TypeIs v T ∧ ∀ a, v = .ref a → ∃ ob, s.heap.get? a = some ob ∧ ob.dict = none := by
  cases x with
  | str z =>
    obtain ⟨t, rfl⟩ := r
    cases (show T = "str" from ty)
    exact ⟨typeIs_str s z t, fun _ e => nomatch e⟩
  | int i =>
    obtain ⟨t, rfl⟩ := r
    cases (show T = "int" from ty)
    exact ⟨typeIs_int s i t, fun _ e => nomatch e⟩
  | ref p =>
    cases r
    rcases ty with ⟨rfl, xs, hq⟩ | ⟨rfl, o, hk, hc, hd⟩ | ⟨rfl, hk⟩ | ⟨rfl, S, n, hk⟩
    · obtain ⟨its, _, pl, _⟩ := I.list hq
      refine ⟨pl.isList.typeIs, fun a e => ?_⟩
      cases e
      obtain ⟨o, n, e, c, hd, _⟩ := pl
      exact ⟨o, e, hd⟩
    · refine ⟨⟨o, I.kIn p o hk, hc⟩, fun a e => ?_⟩
      cases e
      exact ⟨o, I.kIn _ o hk, hd⟩
    · have z : ∃ o, s.heap.get? p = some o ∧ o.ExactDict := by
        rcases hk with ⟨kvs, hk⟩ | ⟨kvs, hk⟩
        · obtain ⟨_, _, _, _, o, _, _, e, ex, _⟩ := I.hok p _ hk
          exact ⟨o, e, ex⟩
        · obtain ⟨_, _, _, _, o, _, _, e, ex, _⟩ := I.hok p _ hk
          exact ⟨o, e, ex⟩
      obtain ⟨o, e, ex⟩ := z
      refine ⟨⟨o, e, ex.1⟩, fun a e2 => ?_⟩
      cases e2
      exact ⟨o, e, ex.2.1⟩
    · obtain ⟨o, _, _, _, e, ex, _⟩ := I.hok p _ hk
      refine ⟨⟨o, e, ex.1⟩, fun a e2 => ?_⟩
      cases e2
      exact ⟨o, e, ex.2.1⟩
  | _ => exact False.elim ty
def tBM (K : PySem.W.Frag) (T : String) (r : V → List V → Hp → VK → Prop) (to : TE) (t : TA) : TE := fun σ H Q => to σ H fun x H1 => tyV K T x H1 ∧ t σ H1 fun xs H2 => r x xs H2 Q
variable {o e : Expr} {es : List Expr} {to : TE} {t : TA} {name : Str} {apos cpos : Pos} {T id : String} {r : V → List V → Hp → VK → Prop}
theorem pe_bm (pa : PlainAttrs T) (slot : Slot T name id) (hty : typeOf (.builtin id) = pure (.type "method_descriptor")) (hm : MtR X id r) (ho : PE X o to) (ha : PA X (e :: es) t)
    (hbase : attributeBase o name X.env (eval o X.env) = eval o X.env := by rfl)
    (hfew : ((backTo cpos (starEach (e :: es) X.env)).all (fun x => !x.1) && (backToKw cpos (keywordEach [] X.env)).all (fun x => x.1.isSome)
      && decide ((e :: es).length + ([] : List Keyword).length + (if ([] : List Keyword).isEmpty then 0 else 1) < 30)) = true := by rfl)
    (hline : (apos.endLine == cpos.line) = true := by rfl) (hs : starEach (e :: es) X.env = (false, eval e X.env) :: starEach es X.env := by rfl) (hplain : (backTo cpos (starEach es X.env)).any (·.1) = false := by rfl) :
    PE X (.Call (.Attribute o name apos) (e :: es) [] cpos) (tBM X.K T r to t) := by
  intro pins s σ H Q I h
  refine wpAny_Call_method_late hbase hfew hline rfl (thn (ho pins s σ H _ I h) fun v s1 ⟨x, H1, I1, r1, ty, q1⟩ => ?_)
  obtain ⟨h1, h2⟩ := tyV_is I1 r1 ty
  refine ⟨T, id, pa, slot, hty, h1, h2, ?_⟩
  have hA := ha cpos pins s1 σ H1 _ I1 q1
  rw [hs] at hA ⊢
  refine Calls.callWith_builtin (by show (false || (backTo cpos (starEach es X.env)).any (·.1)) = false; rw [hplain] <;> rfl) (Calls.evalArgs_plain ?_)
  exact thn hA fun us s2 ⟨vs, H2, I2, r2, q2⟩ => hm pins s2 σ H2 x vs v us Q I2 r1 r2 q2
/- xs.append(e), list.index on a module's tuple .. are MtR facts of 06m -/
end
end L2

namespace L2
open PySem PySem.Spec PyProof.Rows

def MtM (X : Cx) (id : String) (r : V → List V → Hp → VK → Prop) : Prop :=
  ∀ (pins : List (Addr × Obj)) (s : Shared) (σ : St) (H : Hp) (x : V) (xs : List V) (v : Value) (us : List Value) (Q : VK), Inv X pins σ H s → RelV x v → Vals xs us → r x xs H Q →
    wpAny (model X.prog X.w) X.A (call (.builtin id) (v :: us)) (EP X pins σ Q) X.xe s

/-! ### lists of values -/
theorem Vals.one : ∀ {x : V} {us : List Value}, Vals [x] us → ∃ u, us = [u] ∧ RelV x u
  | _, _, .cons r .nil => ⟨_, rfl, r⟩
theorem Vals.two : ∀ {x y : V} {us : List Value}, Vals [x, y] us → ∃ u v, us = [u, v] ∧ RelV x u ∧ RelV y v
  | _, _, _, .cons r (.cons q .nil) => ⟨_, _, rfl, r, q⟩
theorem Vals.zero : ∀ {us : List Value}, Vals [] us → us = []
  | _, .nil => rfl
theorem Vals.rep {xs : List V} {us : List Value} (h : Vals xs us) : ∀ k : Nat, Vals (List.replicate k xs).flatten (List.replicate k us).flatten
  | 0 => .nil
  | k + 1 => by
    rw [List.replicate_succ, List.replicate_succ, List.flatten_cons, List.flatten_cons]
    exact Vals.append h (Vals.rep h k)
section
variable {X : Cx} {pins : List (Addr × Obj)} {σ : St} {H : Hp} {s : Shared} {l b : Addr} {xs ys zs : List V}

/-! ### the two steps: a tracked list is rewritten, a new list is laid -/
theorem Inv.lset {its its' : List Value} {n : Nat} {f : Array Value → Array Value} {t' : Nat} (I : Inv X pins σ H s) (hH : H l = some (.lst xs))
    (e : s.heap.get? l = some { cls := .type "list", data := .seq its.toArray n }) (hf : f its.toArray = its'.toArray) (hv : Vals ys its') (hz : ys.length ≤ sizeLine) :
    Inv X pins σ (upd H l (.lst ys)) { s with heap := s.heap.update l (Obj.mapSeq f), toks := t' } := by
  have q := PySem.IsL.update e f
  rw [hf] at q
  refine I.write (x := l) (e := l) (by rw [hH]; exact trivial) (.inl rfl) (fun b' u hb hu => (Heap.get?_update_other s.heap (Obj.mapSeq f) (Ne.symm hb)).trans hu) ⟨_, q⟩ ?_
  exact ⟨hz, its', _, hv, q⟩
theorem Inv.lnew {its : List Value} {t' : Nat} (I : Inv X pins σ H s) (hv : Vals ys its) (hz : ys.length ≤ sizeLine) :
    Inv X pins σ (upd H s.heap.objs.size (.lst ys)) { s with heap := s.heap.push { cls := .type "list", data := .seq its.toArray }, toks := t' } :=
  I.laid (fun _ _ q => Heap.get?_push_of_some _ q) (Nat.le_refl _) ⟨hz, its, 0, hv, Heap.get?_push_size _ rfl⟩
theorem Inv.fresh (I : Inv X pins σ H s) : H s.heap.objs.size = none := I.hok.fresh (Nat.le_refl _)
theorem Inv.lstM (I : Inv X pins σ H s) (hH : H l = some (.lst xs)) : xs.length ≤ sizeLine ∧ ∃ (its : List Value) (n : Nat), Vals xs its ∧ xs.length = its.length ∧ s.heap.get? l = some { cls := .type "list", data := .seq its.toArray n } := by
  obtain ⟨z, its, n, r, e⟩ := I.hok l _ hH
  exact ⟨z, its, n, r, r.length, e⟩

end

section
variable {X : Cx}

/-! ### methods -/
def rAppend : V → List V → Hp → VK → Prop := fun x vs H Q => ∃ l xs y, x = .ref l ∧ vs = [y] ∧ H l = some (.lst xs) ∧ xs.length < sizeLine ∧ Q .non (upd H l (.lst (xs ++ [y])))
theorem mt_append : MtM X "list.append" rAppend := by
  intro pins s σ H x vs v us Q I rx rv h
  obtain ⟨l, xs, y, rfl, rfl, hH, hz, q⟩ := h
  cases rx
  obtain ⟨u, rfl, ru⟩ := rv.one
  obtain ⟨z, its, n, r, hl, e⟩ := I.lstM hH
  refine call_meets F.slot_list_append ⟨_, e, rfl⟩ F.entry_list_append (F.args_list_append_2 _ _) (PySem.list_append l its.toArray n u (by rw [List.size_toArray]; omega)) ⟨e, ?_⟩
  refine ⟨.non, _, I.lset (its' := its ++ [u]) hH e (by simp) (r.append (.cons ru .nil)) ?_, rfl, q⟩
  rw [List.length_append, List.length_singleton]
  omega

end

/-! ### xs[a:b] = ys -/
section
variable {prog : Program} {w : World} {A : Around} {E : Value → Shared → Prop} {s : Shared}
end

section
variable {X : Cx}
end
end L2

namespace Att
open PySem PySem.W PySem.Calls PyProof.Rows

/-! ### the script -/
theorem ints_of_wellAll {P : Params} {h : Heap} : ∀ (ns : List Int) (vs : List Value), WellAll P h vs (ns.map WData.int) → IntsAre vs ns := by
  intro ns
  induction ns with
  | nil =>
    intro vs w
    rw [List.map_nil] at w
    cases w
    exact .nil
  | cons n ns ih =>
    intro vs w
    rw [List.map_cons] at w
    cases w with
    | cons a b =>
      cases a
      exact .cons _ _ (ih _ b)

theorem script_of {l : OpenLaw} {n : Nat} (hn : l.most = some n) {P : Params} {h : Heap} {args : List WData} {vals : List Value}
    (hpre : l.row.toRowW.claim.pre args = true) (hwl : WellAll P h vals args) :
    ∃ a vs ns, vals = [Value.ref a] ∧ args = [WData.list (ns.map WData.int)] ∧ h.get? a = some { cls := .type "list", data := .seq vs.toArray } ∧ IntsAre vs ns ∧ ns.length ≤ n := by
  have hsh : WShape.hasAll [] args [.list .int] = true := (pre_splitW hpre).1
  have hc : l.pre.holds [] { args := args } = true := (pre_splitW hpre).2
  obtain ⟨d, r, rfl, h1, h2⟩ := hasAllW_cons hsh
  obtain rfl := hasAllW_nil h2
  obtain ⟨xs, rfl, h3⟩ := hasW_list h1
  obtain ⟨ns, rfl⟩ := items_int h3
  have hlen : ns.length ≤ n := by
    unfold OpenLaw.pre at hc
    have h4 : (WTm.not (.lt (.lit (.int (n : Int))) (.len (.arg 0)))).holds [] { args := [.list (ns.map .int)] } = true := by
      have h4 := (holds_andW hc).1
      rw [hn] at h4
      exact h4
    have h5 := condW_of h4 (w_not (w_lt w_lit (w_len_list (w_arg rfl))))
    rw [List.length_map] at h5
    refine Nat.le_of_not_lt fun q => ?_
    have q' : (n : Int) < ((ns.length : Nat) : Int) := by omega
    first
      | (rw [decide_eq_true q'] at h5; exact absurd h5 (by decide))
      | (simp at h5; omega)
  cases hwl with
  | cons w1 w2 =>
    cases w2
    cases w1 with
    | list ho hall => exact ⟨_, _, ns, rfl, rfl, ho, ints_of_wellAll ns _ hall, hlen⟩

theorem post_true (l : OpenLaw) (args : List WData) : l.row.toRowW.claim.post args (.bool true) args = true :=
  postW_of (r := l.row.toRowW) (X := (true == true))
    (show WShape.has [] (.bool true) .bool = true by first | rfl | decide | simp [WShape.has, WShape.arms, WShape.armsAll])
    (show (WTm.eq .res (.lit (.bool true))).value [] { args := args, res := some (.bool true), after := args } = some (.bool (true == true)) from w_eq_bool (w_res rfl) w_lit) rfl

/-- the same from a codeAny of the CALL (for a layer whose function contracts speak of calls) -/
theorem attach_call {l : OpenLaw} {n : Nat} {q : Program} {loose : List Str} {XP : (Str → Option Value) → Heap → Prop} {YP : World → Heap → Prop} {d : DefRec}
    (hn : l.most = some n) (hdf : d.params.defaults = [])
    (call : ∀ (w : World) (s₀ s₁ : Shared) (mg mb : Str → Option Value) (fa : Addr) (o : Obj) (pm cd doc : Value) (a : Addr) (vs : List Value) (ns : List Int),
      Ground q loose [] XP w s₀ mg mb s₁.heap → YP w s₁.heap →
      s₁.heap.get? fa = some o → o.data = .func (docDef d.name d.params d.body d.scope pm cd doc) → s₁.heap.CodeRec cd d.name → mg d.name = some (.ref fa) →
      s₁.heap.get? a = some { cls := .type "list", data := .seq vs.toArray } → IntsAre vs ns → ns.length ≤ n → s₁.gens = #[] →
      codeAny (model l.prog w) callerA (.call (.ref fa) ⟨[.ref a], []⟩) (fun r s' => r = .ok (.ret (.bool true)) ∧ OldK s₁.heap s'.heap ∧ s'.os = s₁.os ∧ AllBare s'.gens) s₁) :
    WalkO q loose XP YP l.row.toRowW d [] (fun f vs => PySem.call f vs) := by
  intro w s₀ s₁ mg mb G Y fa o pm cd doc dV kV ho hd hcd hD hmg hg args vals as hpre hlay hrd hwl hlo
  obtain rfl : dV = .none := Dflts.none hD hdf
  obtain rfl : kV = .none := Dflts.noKw hD
  obtain ⟨a, vs, ns, rfl, rfl, hobj, hints, hlen⟩ := script_of hn hpre hwl
  refine enter_call (codeAny_mono (call w s₀ s₁ mg mb fa o pm cd doc a vs ns G Y ho (fd_plain hd) hcd hmg hobj hints hlen hg) fun r s' hq => ?_)
  obtain ⟨rfl, h2, h3, h4⟩ := hq
  exact ⟨.inl ⟨.bool true, .bool true, [], rfl, fun _ => rfl, .bool true, post_true l _, fun _ => ⟨List.Pairwise.nil, fun _ hm => (nomatch hm)⟩⟩, h2, h3, h4⟩

/-! ### rules over ANY heap (no ledger) from facts about the written part K: the library's own take a ledger (News) for what they write -/
section
variable {prog : Program} {w : World} {A : Around} {E : Value → Shared → Prop} {s : Shared} {K : Frag}

def ledger (h : Heap) (L d : Addr) : List (Addr × Obj) := (List.range h.objs.size).filterMap fun a => if a = L ∨ a = d then none else (h.get? a).map fun o => (a, o)
end
end Att

namespace L2
open PySem PySem.Spec PyProof.Rows

theorem vals_ints : ∀ {vs : List Value} {ns : List Int}, IntsAre vs ns → Vals (ns.map V.int) vs
  | _, _, .nil => .nil
  | _, _, .cons n t h => .cons ⟨t, rfl⟩ (vals_ints h)

/-- nothing is tracked but the script, known to the object (or it is an object of the module) -/
def Only (H : Hp) : Prop := ∀ b, H b = none ∨ ∃ o xs, H b = some (.frz o (.lst xs))

/-- THE HEAD: the law's promise, at the heap behind the top. F, the promise of the law's def, may use that base is part of the heap (so K.In base, base.Ns mainGlobals mg stand in Mod) -/
theorem law_call {P : Program} {w : World} {K : PySem.W.Frag} {mg mb : Str → Option Value} {CX : CXT} {k : Nat} {fa a : Addr} {fd : FuncData} {x : Str} {sp : Sp} {s₁ : Shared} {vs : List Value} {ns : List Int}
    (KX : K.In s₁.heap) (hns : s₁.heap.Ns mainGlobals mg) (hb : s₁.heap.Ns builtinsNs mb) (hbb : ∀ x : Str, x ≠ "__name__" → mb x = bootBuiltins x) (hlim : s₁.heap.NoLimit) (hg : s₁.gens = #[])
    (ha : s₁.heap.get? a = some { cls := .type "list", data := .seq vs.toArray }) (hi : IntsAre vs ns) (hl : ns.length ≤ sizeLine) (hr : Room k callerA)
    (F : ∀ base : Heap, K.In base → base.Ns mainGlobals mg → FnOk P w K mg base CX k fa fd [x] sp) (hbind : ∀ (s : Shared) (u : Value), BindsTo s fd ⟨[u], []⟩ [(x, u)])
    (hsp : ∀ H : Hp, Only H → SqL K H a (ns.map V.int) → sp [.ref a] H (fun v _ => v = .bl true) fun _ _ _ => False)
    (hCX : ∀ H e s', CX [] H s₁ (fun _ _ _ => False) e s' → False) :
    codeAny (model P w) callerA (.call (.ref fa) ⟨[.ref a], []⟩) (fun r s' => r = .ok (.ret (.bool true)) ∧ OldK s₁.heap s'.heap ∧ s'.os = s₁.os ∧ AllBare s'.gens) s₁ := by
  have rv := vals_ints hi
  have lenV := hi.length
  -- from an abstract heap in which nothing but the script may be tracked
  have core : ∀ H : Hp, Only H → SqL K H a (ns.map V.int) → HOk P w H s₁.heap → (∀ b, H b ≠ none → b = a) → (H a ≠ none → K.lookup a = none) →
      codeAny (model P w) callerA (.call (.ref fa) ⟨[.ref a], []⟩) (fun r s' => r = .ok (.ret (.bool true)) ∧ OldK s₁.heap s'.heap ∧ s'.os = s₁.os ∧ AllBare s'.gens) s₁ := by
    intro H hO hS hok hA hK
    have base_of : ∀ {b : Addr} {o : Obj}, s₁.heap.get? b = some o → H b = none → (hidT s₁.heap H).get? b = some o := fun e n => hidT_get e n
    have noA : ∀ {b : Addr} {o : Obj} {es : Array DictEntry} {ep : Nat}, s₁.heap.get? b = some o → o.data = .dict es ep → H b = none := fun {b o es ep} e d => by
      cases q : H b with
      | none => rfl
      | some u =>
        have e' : b = a := hA b (by rw [q]; simp)
        subst e'
        rw [ha] at e; cases e
        have d' : Data.seq vs.toArray _ = Data.dict es ep := d
        cases d'
    have nsK : ∀ {b : Addr} {m : Str → Option Value}, s₁.heap.Ns b m → (hidT s₁.heap H).Ns b m := fun {b m} ⟨o, es, ep, e, d, r⟩ => ⟨o, es, ep, base_of e (noA e d), d, r⟩
    have hKb : K.In (hidT s₁.heap H) := fun b o e => base_of (KX b o e) (by
      cases q : H b with
      | none => rfl
      | some u =>
        have e' : b = a := hA b (by rw [q]; simp)
        subst e'
        rw [hK (by rw [q]; simp)] at e; cases e)
    have hM : Mod K mg (hidT s₁.heap H) := ⟨hKb, nsK hns, ⟨mb, nsK hb, hbb⟩, let ⟨mc, h1, h2⟩ := hlim; ⟨mc, nsK h1, h2⟩⟩
    have e0 : Env0 P w K mg (hidT s₁.heap H) callerA [] s₁ H := ⟨rfl, hM, fun b o e => of_hidT e, Nat.le_of_eq (hidT_size _ _), trivial, fun b hb => absurd (show b ∈ ([] : List Addr) from hb) (by simp), hok, .of_eq hg⟩
    refine codeAny_mono ((F _ hKb (nsK hns)).run callerA [] s₁ H ⟨[.ref a], []⟩ [.ref a] [.ref a] _ _ hr e0 (hbind s₁ (.ref a)) (.cons rfl .nil) (hsp H hO hS)) fun r s' h => ?_
    cases r with
    | error e => exact (hCX H e s' h).elim
    | ok fl =>
      cases fl with
      | next => exact False.elim h
      | brk => exact False.elim h
      | cont => exact False.elim h
      | ret u =>
        obtain ⟨v, H', os, bare, un, hok', r', q⟩ := h
        have q' : v = .bl true := q
        subst q'
        obtain rfl : u = Value.bool true := r'
        refine ⟨rfl, OldK.of_keep fun b o e => ?_, os, bare⟩
        cases q : H b with
        | none => exact un.keep b o e q (by intro z; exact absurd (show b ∈ ([] : List Addr) from z) (by simp)) (by simp)
        | some u =>
          rcases hO b with z | ⟨ob, xs, z⟩
          · rw [q] at z; cases z
          · have z2 := un.frzs b ob _ z
            obtain ⟨e1, _⟩ := hok b _ z
            obtain ⟨e2, _⟩ := hok' b _ z2
            rw [e] at e1; cases e1
            exact e2
  cases hk : K.lookup a with
  | some o =>
    -- the script is one of the module's own objects
    have e := KX a o hk
    rw [ha] at e
    cases e
    refine core (fun _ => none) (fun _ => .inl rfl) (.inr ⟨_, vs.toArray, _, hk, rfl, rfl, rfl, by rw [List.size_toArray, lenV]; exact hl, by simpa using rv⟩) (fun b u z => by have z' : (none : Option HO) = some u := z; cases z') (fun b z => absurd rfl z) fun z => absurd rfl z
  | none =>
    refine core (fun b => if b = a then some (.frz { cls := .type "list", data := .seq vs.toArray } (.lst (ns.map V.int))) else none) (fun b => ?_) (.inl (.inr ⟨{ cls := .type "list", data := .seq vs.toArray }, if_pos rfl⟩)) (fun b u z => ?_) (fun b z => ?_) fun _ => hk
    · by_cases hb : b = a
      · exact .inr ⟨_, _, if_pos hb⟩
      · exact .inl (if_neg hb)
    · by_cases hb : b = a
      · have z' := (if_pos hb).symm.trans z
        cases z'
        subst hb
        exact ⟨ha, by rw [List.length_map]; exact hl, vs, _, rv, ha⟩
      · have z' := (if_neg hb).symm.trans z
        cases z'
    · by_cases hb : b = a
      · exact hb
      · exact absurd (if_neg hb) z
end L2

namespace L2
open PySem PySem.Spec PyProof.Rows

abbrev KOf {K : PySem.W.Frag} {h : Heap} (_ : K.In h) : PySem.W.Frag := K

/-- the goal that k_head leaves (case hc), from the law's promise. F gives the function object fd (K's own) once, then the promise over every base -/
theorem walk_of {l : PySem.W.OpenLaw} {n k : Nat} {q : Program} {loose : List Str} {XP : (Str → Option Value) → Heap → Prop} {YP : World → Heap → Prop} {d : DefRec} {K : Params → PySem.W.Frag} {CX : World → CXT} {sp : World → Sp} {x : Str}
    (hn : l.most = some n) (hn2 : n ≤ sizeLine) (hdf : d.params.defaults = []) (hr : Room k callerA)
    (hY : ∀ (w : World) (h : Heap), YP w h → (K w.params).In h)
    (F : ∀ (w : World) (mg : Str → Option Value) (fa : Addr) (h : Heap), (K w.params).In h → h.Ns mainGlobals mg → mg d.name = some (.ref fa) →
      ∃ fd : FuncData, (∀ (s : Shared) (u : Value), BindsTo s fd ⟨[u], []⟩ [(x, u)]) ∧
        ∀ base : Heap, (K w.params).In base → base.Ns mainGlobals mg → FnOk l.prog w (K w.params) mg base (CX w) k fa fd [x] (sp w))
    (hsp : ∀ (w : World) (H : Hp) (a : Addr) (ns : List Int), ns.length ≤ n → Only H → SqL (K w.params) H a (ns.map V.int) → sp w [.ref a] H (fun v _ => v = .bl true) fun _ _ _ => False)
    (hCX : ∀ (w : World) (H : Hp) (s : Shared) (e : Value) (s' : Shared), CX w [] H s (fun _ _ _ => False) e s' → False) :
    PySem.W.WalkO q loose XP YP l.row.toRowW d [] (fun f vs => PySem.call f vs) := by
  refine Att.attach_call hn hdf fun w s₀ s₁ mg mb fa o pm cd doc a vs ns G Y ho hd hcd hmg hobj hints hlen hg => ?_
  have KX := hY w _ Y
  obtain ⟨fd, hb, hF⟩ := F w mg fa _ KX G.T.g hmg
  exact law_call KX G.T.g G.T.b G.T.builtins G.T.nolimit hg hobj hints (Nat.le_trans hlen hn2) hr hF hb (fun H hO hS => hsp w H a ns hlen hO hS) fun H e s' => hCX w H s₁ e s'
end L2

/- THE LAST THEOREM (shape; LID, My.* are yours):
   My.Adr: a structure of the addresses that your layer names (classes, functions); My.Txt K t: a structure (Prop) of the equations over K;
   My.txt_mk : {K} {implicit addresses ..} (e1 : nsIn K mainGlobals "law" = some (some (.ref f))) (e2 : K.lookup f = some ⟨oc, od, .func (fnOf "law" "law" params body scope dV kV doc pm an cdv ct), sl⟩) (e3 : codeIn K cdv "law" = true) .. : ∃ t, My.Txt K t

set_option maxRecDepth 100000 in
set_option maxHeartbeats 0 in
theorem PySem.Challenge.cw_LID_holds : PySem.Challenge.rw_LID.Holds := by
  w_on; o_law; k_head; (case hw => w_witness2)
  k_fill
  refine L2.walk_of (l := PySem.Challenge.rw_LID) (n := 63) (k := 40) (x := "script") (CX := fun w => ..) (sp := fun _ => My.sp_law) rfl (by decide) rfl ⟨rfl, by decide, by decide⟩ (fun w h Y => PySem.W.kIn_of Y) ?F ?S ?C
  case F =>
    intro w mg fa h KX G hmg
    have T : ∃ t, My.Txt (L2.KOf KX) t := by
      dsimp only [L2.KOf]                          -- K must stand as «<heap const> w.params» for k_is
      refine' My.txt_mk ?e1 ?e2 ?e3 ..
      (case e1 => PySem.W.k_is)                    -- in the order: a name -> its address -> its object -> its parts
      (case e2 => PySem.W.k_is)
      ..
    obtain ⟨t, T⟩ := T
    have e0 := hmg.symm.trans (PySem.W.mg_of KX G T.law)
    cases e0                                       -- fa is the law's own address
    exact ⟨_, fun s u => .of_eq rfl, fun base kb nb => My.law_fn T kb nb⟩     -- if «.of_eq rfl» comes too early: refine' ⟨_, ?b, fun base kb nb => My.law_fn T kb nb⟩; exact fun s u => .of_eq rfl
  case S => exact fun w H a ns hl hO hS => ..
  case C => exact ..
(the tactic k_is has no namespace: write k_is) -/

/-! SHORT WORDS over the layer: a def of the text, its body, what a loop and a test want. -/
namespace L2
open PySem PySem.Spec PyProof.Rows

/-! ### the text by places -/
/-- the j-th statement of a class's body -/
def inClass (s : Stmt) (j : Nat) : Stmt := match s with
  | .ClassDef _ _ _ body _ _ _ _ _ _ _ => body.getD j (.Pass ⟨0, 0, 0, 0⟩)
  | _ => .Pass ⟨0, 0, 0, 0⟩
def defArgs (s : Stmt) : Arguments := match s with
  | .FunctionDef _ a _ _ _ _ _ _ _ _ => a
  | _ => { posonlyargs := [], args := [], vararg := none, kwonlyargs := [], kw_defaults := [], kwarg := none, defaults := [] }
def defBody (s : Stmt) : List Stmt := match s with
  | .FunctionDef _ _ b _ _ _ _ _ _ _ => b
  | _ => []
def defScope (s : Stmt) : Scope := match s with
  | .FunctionDef _ _ _ _ _ _ sc _ _ _ => sc
  | _ => { kind := .function, names := [], isGenerator := false, isCoroutine := false }

/-! ### no exception leaves a def -/
abbrev CX0 : CXT := fun _ _ _ _ _ _ => False
abbrev E0 : XK := fun _ _ _ => False
theorem pass0 {X : Cx} : Passes CX0 X E0 := fun _ _ _ _ _ _ _ h => h.elim

/-! ### a def (or method) of the text as it stands behind the top -/
structure Fun (K : PySem.W.Frag) (x qual : Str) (st : Stmt) (f : Addr) (fd : FuncData) : Prop where
  ex : ∃ (oc : Value) (od : Option Addr) (kV doc pm : Value) (an : Option Addr) (cdv ct : Value) (osl : Array (Option Value)),
    fd = PySem.W.fnOf x qual (defArgs st) (defBody st) (defScope st) .none kV doc pm an cdv ct ∧ K.lookup f = some ⟨oc, od, .func fd, osl⟩ ∧ PySem.W.codeIn K cdv qual = true
  kp : PySem.W.keepIn K (.ref f) = true
section
variable {P : Program} {w : World} {K : PySem.W.Frag} {mg : Str → Option Value} {base : Heap}
/-- THE RULE for a def: its body as a term of rules, and the reading of that term -/
theorem Fun.ok {x qual : Str} {st : Stmt} {f : Addr} {fd : FuncData} {N ps : List Str} {k : Nat} {sp : Sp} (F : Fun K x qual st f fd) (S : FnScope N ps (defScope st)) (len : ∀ vs H Q E, sp vs H Q E → vs.length = ps.length)
    (hbody : ∀ (cdv : Value) (A : Around) (outer : List Env) (s : Shared) (H : Hp) (vs : List V) (Q : VK) (E : XK), Room k (A.deeper (envOfC qual (defScope st) s.heap.objs.size f cdv)) → sp vs H Q E →
      ∃ t, PSs (cxOf CX0 P w K mg base N qual (defScope st) f cdv A outer s H E).nox (defBody st) t ∧ t { nx := fun _ H' => Q .non H', rt := Q } (start N vs) H) : FnOk P w K mg base CX0 (k + 1) f fd ps sp := by
  obtain ⟨oc, od, kV, doc, pm, an, cdv, ct, osl, rfl, lk, hcd⟩ := F.ex
  refine fn_of lk hcd S len fun A outer s H vs Q E hr hsp => ?_
  obtain ⟨t, h, q⟩ := hbody cdv A outer s H vs Q E hr hsp
  exact ⟨t, h.nox, q⟩
/-- how its arguments bind (no defaults): h is «fun _ _ _ _ _ _ us hl => match us, hl with | [_, _], _ => rfl», one _ a parameter -/
theorem Fun.binds {x qual : Str} {st : Stmt} {f : Addr} {fd : FuncData} {ps : List Str} (F : Fun K x qual st f fd)
    (h : ∀ (kV doc pm : Value) (an : Option Addr) (cdv ct : Value) (us : List Value), us.length = ps.length → bindArgs (PySem.W.fnOf x qual (defArgs st) (defBody st) (defScope st) .none kV doc pm an cdv ct) ⟨us, []⟩ = pure (ps.zip us)) : Binds K fd ps [] := by
  obtain ⟨oc, od, kV, doc, pm, an, cdv, ct, osl, rfl, lk, hcd⟩ := F.ex
  exact .all (h kV doc pm an cdv ct)
theorem fun_mk {x qual : Str} {st : Stmt} {f : Addr} {oc : Value} {od an : Option Addr} {osl : Array (Option Value)} {kV doc pm cdv ct : Value} (l : K.lookup f = some ⟨oc, od, .func (PySem.W.fnOf x qual (defArgs st) (defBody st) (defScope st) .none kV doc pm an cdv ct), osl⟩)
    (c : PySem.W.codeIn K cdv qual = true) (k : PySem.W.keepIn K (.ref f) = true) : Fun K x qual st f (PySem.W.fnOf x qual (defArgs st) (defBody st) (defScope st) .none kV doc pm an cdv ct) := ⟨⟨oc, od, kV, doc, pm, an, cdv, ct, osl, rfl, l, c⟩, k⟩
end
theorem hu_of {A : Around} {k : Nat} (hr : Room k A) : A.units + 1 < cLine := Nat.lt_of_le_of_lt (Nat.add_le_add_left (by decide : 1 ≤ 64) _) hr.units
/-! ### expressions in short: the name that stands in the i-th slot -/
section
variable {X : Cx}
end

/-! ### tests -/
theorem iteF {A B : Prop} (h : B) : if false = true then A else B := by
  rw [if_neg Bool.false_ne_true]
  exact h
theorem iteT {A B : Prop} (h : A) : if true = true then A else B := by
  rw [if_pos rfl]
  exact h
/-! ### heaps -/
/-- all that was tracked is as it was -/
def Same (H H' : Hp) : Prop := ∀ b o, H b = some o → H' b = some o
theorem Same.refl (H : Hp) : Same H H := fun _ _ h => h
theorem Same.trans {H H1 H2 : Hp} (a : Same H H1) (b : Same H1 H2) : Same H H2 := fun c o h => b c o (a c o h)
theorem Same.free {H H' : Hp} (e : Same H H') {l : Addr} (h : H' l = Option.none) : H l = Option.none := by
  cases q : H l with
  | none => rfl
  | some o =>
    rw [e l o q] at h
    cases h
theorem Same.seq {K : PySem.W.Frag} {H H' : Hp} {a : Addr} {xs : List V} (e : Same H H') (h : SqL K H a xs) : SqL K H' a xs := by
  rcases h with (h | ⟨o, h⟩) | h
  · exact .inl (.inl (e _ _ h))
  · exact .inl (.inr ⟨o, e _ _ h⟩)
  · exact .inr h

end L2

set_option maxHeartbeats 4000000
namespace L2
open PySem PySem.Spec PyProof.Rows
/-! ### lists of pairs as tables -/
section
variable {κ : Type} [DecidableEq κ]
def valV (kvs : List (κ × V)) (k : κ) : Option V := (kvs.find? fun kv => decide (kv.1 = k)).map (·.2)
/-- in its place, or at the end -/
def putK (kvs : List (κ × V)) (k : κ) (v : V) : List (κ × V) :=
  if (kvs.any fun kv => decide (kv.1 = k)) = true then kvs.map (fun kv => if kv.1 = k then (kv.1, v) else kv) else kvs ++ [(k, v)]
def dropK (kvs : List (κ × V)) (k : κ) : List (κ × V) := kvs.filter fun kv => decide (kv.1 ≠ k)

theorem valV_pos {p : κ × V} {r : List (κ × V)} {k : κ} (e : p.1 = k) : valV (p :: r) k = some p.2 := by simp [valV, List.find?_cons, e]
theorem valV_neg {p : κ × V} {r : List (κ × V)} {k : κ} (e : ¬ p.1 = k) : valV (p :: r) k = valV r k := by simp [valV, List.find?_cons, e]
theorem valV_any (k : κ) : ∀ kvs : List (κ × V), (kvs.any fun kv => decide (kv.1 = k)) = (valV kvs k).isSome
  | [] => rfl
  | p :: r => by
    rw [List.any_cons]
    by_cases e : p.1 = k
    · simp only [valV_pos e, decide_eq_true e, Bool.true_or, Option.isSome_some]
    · rw [valV_neg e, decide_eq_false e, Bool.false_or]; exact valV_any k r
theorem length_putK (kvs : List (κ × V)) (k : κ) (v : V) : (putK kvs k v).length ≤ kvs.length + 1 := by
  unfold putK
  split
  · rw [List.length_map]; omega
  · rw [List.length_append, List.length_cons, List.length_nil]; omega
theorem RelO.isSome_eq {o : Option V} {u : Option Value} (r : RelO o u) : o.isSome = u.isSome := by
  cases o with
  | none => cases u with
    | none => rfl
    | some _ => exact (show False from r).elim
  | some _ => cases u with
    | none => exact (show False from r).elim
    | some _ => rfl
theorem RelO.getD {o : Option V} {u : Option Value} {d : V} {d' : Value} (r : RelO o u) (rd : RelV d d') : RelV (o.getD d) (u.getD d') := by
  cases o with
  | none => cases u with
    | none => exact rd
    | some _ => exact (show False from r).elim
  | some _ => cases u with
    | none => exact (show False from r).elim
    | some _ => exact r

/-- raw tables of the same keys -/
theorem KV.val {kvs : List (κ × V)} {vs : List (κ × Value)} (r : KV kvs vs) (k : κ) : RelO (valV kvs k) (valueAt vs k) := by
  unfold KV at r
  induction r with
  | nil => exact True.intro
  | @cons p q ps qs h t ih =>
    obtain ⟨h1, h2⟩ := h
    by_cases e : p.1 = k
    · have e' : q.1 = k := h1.symm.trans e
      have b : valueAt (q :: qs) k = some q.2 := by simp [valueAt, List.find?_cons, e']
      rw [valV_pos e, b]; exact h2
    · have e' : ¬ q.1 = k := fun z => e (h1.trans z)
      have b : valueAt (q :: qs) k = valueAt qs k := by simp [valueAt, List.find?_cons, e']
      rw [valV_neg e, b]; exact ih
theorem KV.any {kvs : List (κ × V)} {vs : List (κ × Value)} (r : KV kvs vs) (k : κ) : (kvs.any fun kv => decide (kv.1 = k)) = vs.any fun kv => decide (kv.1 = k) := by
  unfold KV at r
  induction r with
  | nil => rfl
  | cons h t ih => rw [List.any_cons, List.any_cons, ih, h.1]
theorem KV.repl {kvs : List (κ × V)} {vs : List (κ × Value)} (r : KV kvs vs) (k : κ) {y : V} {u : Value} (ry : RelV y u) :
    KV (kvs.map fun kv => if kv.1 = k then (kv.1, y) else kv) (vs.map fun kv => if kv.1 = k then (kv.1, u) else kv) := by
  unfold KV at r ⊢
  induction r with
  | nil => exact .nil
  | @cons p q ps qs h t ih =>
    rw [List.map_cons, List.map_cons]
    refine .cons ?_ ih
    obtain ⟨h1, h2⟩ := h
    by_cases e : p.1 = k
    · rw [if_pos e, if_pos (h1.symm.trans e)]; exact ⟨h1, ry⟩
    · rw [if_neg e, if_neg (fun z => e (h1.trans z))]; exact ⟨h1, h2⟩
theorem KV.put {kvs : List (κ × V)} {vs : List (κ × Value)} (r : KV kvs vs) (k : κ) {y : V} {u : Value} (ry : RelV y u) : KV (putK kvs k y) (stored vs k u) := by
  unfold putK stored
  rw [r.any k]
  by_cases e : (vs.any fun kv => decide (kv.1 = k)) = true
  · rw [if_pos e, if_pos e]; exact r.repl k ry
  · rw [if_neg e, if_neg e]; exact Paired.snoc r ⟨rfl, ry⟩
theorem KV.drop {kvs : List (κ × V)} {vs : List (κ × Value)} (r : KV kvs vs) (k : κ) : KV (dropK kvs k) (without vs k) := by
  unfold KV at r ⊢
  unfold dropK without
  induction r with
  | nil => exact .nil
  | @cons p q ps qs h t ih =>
    obtain ⟨h1, h2⟩ := h
    rw [List.filter_cons, List.filter_cons]
    by_cases e : p.1 = k
    · have a : ¬ decide (p.1 ≠ k) = true := by simp [e]
      have b : ¬ decide (q.1 ≠ k) = true := by simp [h1.symm.trans e]
      rw [if_neg a, if_neg b]; exact ih
    · have e' : ¬ q.1 = k := fun z => e (h1.trans z)
      have a : decide (p.1 ≠ k) = true := by simp [e]
      have b : decide (q.1 ≠ k) = true := by simp [e']
      rw [if_pos a, if_pos b]; exact .cons ⟨h1, h2⟩ ih
theorem KV.keys {kvs : List (κ × V)} {vs : List (κ × Value)} (r : KV kvs vs) : kvs.map (·.1) = vs.map (·.1) := by
  unfold KV at r
  induction r with
  | nil => rfl
  | cons h t ih => rw [List.map_cons, List.map_cons, ih, h.1]
theorem KV.length {kvs : List (κ × V)} {vs : List (κ × Value)} (r : KV kvs vs) : kvs.length = vs.length := Paired.length r
end


/-! ### a tracked dict, its keys ints and texts or tuples of these -/
theorem kV_is {P : Program} {w : World} {k : Key} {u : Value} (r : RelV (kV k) u) : (mixKind P w).is k u = true := by
  cases k with
  | inl i => obtain ⟨t, e⟩ := (show ∃ t, u = Value.int i t from r); subst e; exact mixKind_int P w i t
  | inr x => obtain ⟨t, e⟩ := (show ∃ t, u = Value.str x t from r); subst e; exact mixKind_str P w x t
theorem items_are {P : Program} {w : World} : ∀ {ks : List Key} {us : List Value}, Vals (ks.map kV) us → ItemsAre (mixKind P w) ks us
  | [], _, r => by rw [List.map_nil] at r; cases r; exact .nil
  | k :: ks, _, r => by
    rw [List.map_cons] at r
    cases r with
    | cons h t => exact .cons (kV_is h) (items_are t)

/-- raw entries of a dict with tuple keys -/
abbrev KT (H : Hp) : List (List Key × V) → List (List Key × Addr × Value) → Prop := Paired fun p q => p.1 = q.1 ∧ H q.2.1 = some (.tup (p.1.map kV)) ∧ RelV p.2 q.2.2
theorem KT.val {H : Hp} {kvs : List (List Key × V)} {xs : List (List Key × Addr × Value)} (r : KT H kvs xs) (k : List Key) : RelO (valV kvs k) ((atKey xs k).map (·.2)) := by
  induction r with
  | nil => exact True.intro
  | @cons p q ps qs h t ih =>
    obtain ⟨h1, _, h2⟩ := h
    by_cases e : p.1 = k
    · have e' : q.1 = k := h1.symm.trans e
      have b : atKey (q :: qs) k = some q.2 := by simp [atKey, List.find?_cons, e']
      rw [valV_pos e, b]; exact h2
    · have e' : ¬ q.1 = k := fun z => e (h1.trans z)
      have b : atKey (q :: qs) k = atKey qs k := by simp [atKey, List.find?_cons, e']
      rw [valV_neg e, b]; exact ih
theorem KT.repl {H : Hp} {kvs : List (List Key × V)} {xs : List (List Key × Addr × Value)} (r : KT H kvs xs) (k : List Key) {y : V} {u : Value} (ry : RelV y u) :
    KT H (kvs.map fun kv => if kv.1 = k then (kv.1, y) else kv) (xs.map (putAt k u)) := by
  induction r with
  | nil => exact .nil
  | @cons p q ps qs h t ih =>
    rw [List.map_cons, List.map_cons]
    refine .cons ?_ ih
    obtain ⟨h1, h2, h3⟩ := h
    unfold putAt
    by_cases e : p.1 = k
    · rw [if_pos e, if_pos (h1.symm.trans e)]; exact ⟨h1, h2, ry⟩
    · rw [if_neg e, if_neg (fun z => e (h1.trans z))]; exact ⟨h1, h2, h3⟩
theorem KT.put {H : Hp} {kvs : List (List Key × V)} {xs : List (List Key × Addr × Value)} (r : KT H kvs xs) (k : List Key) {b : Addr} {y : V} {u : Value} (hb : H b = some (.tup (k.map kV))) (ry : RelV y u) :
    KT H (putK kvs k y) (storedH xs k b u) := by
  have e : (kvs.any fun kv => decide (kv.1 = k)) = (atKey xs k).isSome := by
    rw [valV_any, (r.val k).isSome_eq, Option.isSome_map]
  unfold putK storedH
  rw [e]
  by_cases q : (atKey xs k).isSome = true
  · rw [if_pos q, if_pos q]; exact r.repl k ry
  · rw [if_neg q, if_neg q]; exact Paired.snoc r ⟨rfl, hb, ry⟩
theorem KT.keeps {H H' : Hp} {kvs : List (List Key × V)} {xs : List (List Key × Addr × Value)} (r : KT H kvs xs) (ht : ∀ b ys, H b = some (.tup ys) → H' b = some (.tup ys)) : KT H' kvs xs :=
  Paired.mapP r fun _ _ z => ⟨z.1, ht _ _ z.2.1, z.2.2⟩

section
variable {P : Program} {w : World} {H : Hp} {h : Heap} {a : Addr}
theorem rd_of {u : HO} (ok : HOk P w H h) (e : Rd H a u) : ObjOk P w H h a u := e.ok ok
theorem dk_rd {kvs : List (Key × V)} (ok : HOk P w H h) (e : Rd H a (.dK kvs)) : kvs.length ≤ sizeLine ∧ (a == sysModules) = false ∧ ∃ vs, KV kvs vs ∧ h.DictOf (mixKind P w) a vs :=
  show ObjOk P w H h a (.dK kvs) from rd_of ok e
theorem dk_of {kvs : List (Key × V)} (ok : HOk P w H h) (e : H a = some (.dK kvs)) : kvs.length ≤ sizeLine ∧ (a == sysModules) = false ∧ ∃ vs, KV kvs vs ∧ h.DictOf (mixKind P w) a vs := dk_rd ok (.inl e)
/-- a tracked tuple of ints and texts is a key -/
theorem key_of {ks : List Key} (ok : HOk P w H h) (e : H a = some (.tup (ks.map kV))) : (tupleKind (mixKind P w)).is h ks a := by
  obtain ⟨_, its, r, o, h1, h2, n, h3⟩ := (show ObjOk P w H h a (.tup (ks.map kV)) from ok a _ e)
  exact ⟨o, its.toArray, n, h1, h2, h3, by simpa using items_are r⟩
theorem dt_rd {kvs : List (List Key × V)} (ok : HOk P w H h) (e : Rd H a (.dT kvs)) : kvs.length ≤ sizeLine ∧ (a == sysModules) = false ∧
    ∃ xs, KT H kvs xs ∧ h.DictOfH (tupleKind (mixKind P w)) a xs := by
  obtain ⟨z, y, xs, r, o, es, ep, h1, h2, h3, h4, h5⟩ := (show ObjOk P w H h a (.dT kvs) from rd_of ok e)
  refine ⟨z, y, xs, r, o, es, ep, h1, h2, h3, h4, fun x hx => ?_, h5⟩
  have all : ∀ {l : List (List Key × V)} {m : List (List Key × Addr × Value)}, KT H l m → ∀ x ∈ m, (tupleKind (mixKind P w)).is h x.1 x.2.1 := by
    intro l m q
    induction q with
    | nil => intro x hx; exact nomatch hx
    | @cons p q ps qs hq t ih =>
      intro x hx
      rcases List.mem_cons.mp hx with e | hx
      · subst e
        exact key_of ok (by rw [← hq.1]; exact hq.2.1)
      · exact ih x hx
  exact all r x hx
theorem dt_of {kvs : List (List Key × V)} (ok : HOk P w H h) (e : H a = some (.dT kvs)) : kvs.length ≤ sizeLine ∧ (a == sysModules) = false ∧
    ∃ xs, KT H kvs xs ∧ h.DictOfH (tupleKind (mixKind P w)) a xs := dt_rd ok (.inl e)
end

/-- what the dict at a holds at the key y -/
def DGet (H : Hp) (a : Addr) (y : V) (r : Option V) : Prop :=
  (∃ kvs k, Rd H a (.dK kvs) ∧ y = kV k ∧ r = valV kvs k) ∨ ∃ kvs k b, Rd H a (.dT kvs) ∧ y = .ref b ∧ H b = some (.tup (k.map kV)) ∧ r = valV kvs k
/-- the heap behind a[y] = v -/
def DPut (H : Hp) (a : Addr) (y v : V) (H' : Hp) : Prop :=
  (∃ kvs k, H a = some (.dK kvs) ∧ y = kV k ∧ kvs.length < sizeLine ∧ H' = upd H a (.dK (putK kvs k v))) ∨
  ∃ kvs k b, H a = some (.dT kvs) ∧ y = .ref b ∧ H b = some (.tup (k.map kV)) ∧ kvs.length < sizeLine ∧ H' = upd H a (.dT (putK kvs k v))
theorem DGet.k {H : Hp} {a : Addr} {kvs : List (Key × V)} {k : Key} (e : H a = some (.dK kvs)) : DGet H a (kV k) (valV kvs k) := .inl ⟨kvs, k, .inl e, rfl, rfl⟩
theorem DGet.t {H : Hp} {a b : Addr} {kvs : List (List Key × V)} {k : List Key} (e : H a = some (.dT kvs)) (eb : H b = some (.tup (k.map kV))) : DGet H a (.ref b) (valV kvs k) := .inr ⟨kvs, k, b, .inl e, rfl, eb, rfl⟩
theorem DPut.k {H : Hp} {a : Addr} {kvs : List (Key × V)} {k : Key} {v : V} (e : H a = some (.dK kvs)) (hl : kvs.length < sizeLine) : DPut H a (kV k) v (upd H a (.dK (putK kvs k v))) := .inl ⟨kvs, k, e, rfl, hl, rfl⟩
theorem DPut.t {H : Hp} {a b : Addr} {kvs : List (List Key × V)} {k : List Key} {v : V} (e : H a = some (.dT kvs)) (eb : H b = some (.tup (k.map kV))) (hl : kvs.length < sizeLine) :
    DPut H a (.ref b) v (upd H a (.dT (putK kvs k v))) := .inr ⟨kvs, k, b, e, rfl, eb, hl, rfl⟩


section
variable {X : Cx} {pins : List (Addr × Obj)} {σ : St} {H : Hp} {s : Shared} {a : Addr} {y v : V} {u r : Value} {o : Option V} {A : Around} {E : Value → Shared → Prop}

theorem Inv.big (I : Inv X pins σ H s) : sysModules < s.heap.objs.size := by
  have h : mainGlobals < s.heap.objs.size := (I.mod.glob.keeps I.bk).lt
  exact Nat.lt_trans (by decide) h

/-- d[y], there -/
theorem d_getItem {Q : Value → Shared → Prop} (hu : A.units + 1 < cLine) (I : Inv X pins σ H s) (g : DGet H a y (some v)) (ry : RelV y u) (h : ∀ w' s', Inv X pins σ H s' → RelV v w' → Q w' s') :
    wpAny (model X.prog X.w) A (getItem (.ref a) u) Q E s := by
  rcases g with ⟨kvs, k, e, ey, l⟩ | ⟨kvs, k, b, e, ey, eb, l⟩
  · subst ey
    obtain ⟨z, hd, vs, rel, dd⟩ := dk_rd I.hok e
    obtain ⟨w', hw, rw'⟩ := RelO.some_of (v := v) (o := valueAt vs k) (by rw [l]; exact rel.val k)
    exact wpAny_getItem_of (kV_is ry) dd.mapOf hw (h w' _ (I.tok _) rw')
  · subst ey
    cases (show u = Value.ref b from ry)
    obtain ⟨z, hd, xs, rel, dd⟩ := dt_rd I.hok e
    obtain ⟨w', hw, rw'⟩ := RelO.some_of (v := v) (o := (atKey xs k).map (·.2)) (by rw [l]; exact rel.val k)
    obtain ⟨p, hp, hp2⟩ := Option.map_eq_some_iff.mp hw
    refine wpAny_getItem_heap (tupleKind_room_in1 hu) (key_of I.hok eb) dd hp ?_
    rw [hp2]
    exact h w' _ (I.tok _) rw'
/-- a dict's object is replaced -/
theorem d_write {h' : Heap} {t' : Nat} {ob : HO} (I : Inv X pins σ H s) (mu : Mut (H a)) (hs : Heap.SameBut a s.heap h') (he : ∃ q, h'.get? a = some q) (new : ObjOk X.prog X.w (upd H a ob) h' a ob) :
    Inv X pins σ (upd H a ob) { s with heap := h', toks := t' } :=
  I.write (x := a) (e := a) mu (.inl rfl) (fun b q hb z => (hs.2 b hb).trans z) he new
theorem dk_new {P : Program} {w : World} {H' : Hp} {h' : Heap} {kvs : List (Key × V)} {vs : List (Key × Value)} (z : kvs.length ≤ sizeLine) (hd : (a == sysModules) = false) (rel : KV kvs vs) (dd : h'.DictOf (mixKind P w) a vs) :
    ObjOk P w H' h' a (.dK kvs) := ⟨z, hd, vs, rel, dd⟩
/-- d[y] = v -/
theorem d_setItem {H' : Hp} {Q : Unit → Shared → Prop} (hu : A.units + 1 < cLine) (I : Inv X pins σ H s) (g : DPut H a y v H') (ry : RelV y u) (rv : RelV v r) (h : ∀ s', Inv X pins σ H' s' → Q () s') :
    wpAny (model X.prog X.w) A (setItem (.ref a) u r) Q E s := by
  rcases g with ⟨kvs, k, e, ey, l, eH⟩ | ⟨kvs, k, b, e, ey, eb, l, eH⟩
  · subst ey eH
    obtain ⟨z, hd, vs, rel, dd⟩ := dk_of I.hok e
    have hz : vs.length ≤ sizeLine := by rw [← rel.length]; exact z
    have hl : (putK kvs k v).length ≤ sizeLine := by have := length_putK kvs k v; omega
    refine wpAny_setItem_pairs (hsz := hz) (kV_is ry) dd fun h' dd' hs => h _ ?_
    have he : ∃ q, h'.get? a = some q := let ⟨q, _, _, hq, _⟩ := dd'; ⟨q, hq⟩
    exact d_write I (by rw [e]; exact True.intro) hs he (dk_new hl hd (rel.put k rv) dd')
  · subst ey eH
    cases (show u = Value.ref b from ry)
    obtain ⟨z, hd, xs, rel, dd⟩ := dt_of I.hok e
    have hz : xs.length ≤ sizeLine := by rw [← Paired.length rel]; exact z
    have hl : (putK kvs k v).length ≤ sizeLine := by have := length_putK kvs k v; omega
    refine wpAny_setItem_heap (hsz := hz) (tupleKind_room_in1 hu) (key_of I.hok eb) dd fun h' dd' hs => h _ ?_
    obtain ⟨q, es, ep, hq, h2, h3, h4, _, h5⟩ := dd'
    refine d_write I (by rw [e]; exact True.intro) hs ⟨q, hq⟩ ⟨hl, hd, _, (rel.put k eb rv).keeps fun c ys ec => ?_, q, es, ep, hq, h2, h3, h4, h5⟩
    rw [upd_ne (ne_of ec e (fun z => nomatch z))]
    exact ec
end

section
variable {X : Cx} {pins : List (Addr × Obj)} {σ : St} {H : Hp} {s : Shared} {a : Addr} {kvs : List (Key × V)} {k : Key} {u : Value} {A : Around} {E : Value → Shared → Prop}
/-- len(d) -/
theorem d_len {Q : Value → Shared → Prop} (I : Inv X pins σ H s) (e : Rd H a (.dK kvs)) (h : ∀ t s', Inv X pins σ H s' → Q (.int kvs.length t) s') : wpAny (model X.prog X.w) A (call (.builtin "len") [.ref a]) Q E s := by
  obtain ⟨z, hd, vs, rel, dd⟩ := dk_rd I.hok e
  refine call_len_dict hd dd (by rw [← rel.length]; rw [sizeLine_eq] at z; omega) ?_
  rw [← rel.length]
  exact h _ _ (I.tok _)
end


theorem dict_typeIs {X : Cx} {pins : List (Addr × Obj)} {σ : St} {H : Hp} {s : Shared} {a : Addr} {y : V} {o : Option V} (I : Inv X pins σ H s) (g : DGet H a y o) : s.TypeIs (.ref a) "dict" := by
  rcases g with ⟨kvs, k, e, _, _⟩ | ⟨kvs, k, b, e, _, _, _⟩
  · obtain ⟨_, _, vs, _, dd⟩ := dk_rd I.hok e
    exact dd.typeIs
  · obtain ⟨_, _, xs, _, dd⟩ := dt_rd I.hok e
    exact dd.typeIs
section
variable {X : Cx} {o i e value : Expr} {pos pos' tpos : Pos} {td ty tv : TE}
end


/-! ### displays -/
theorem dk_empty {P : Program} {w : World} {H : Hp} (h : Heap) (hb : sysModules < h.objs.size) : ObjOk P w H (h.push { cls := .type "dict", data := .dict #[] }) h.objs.size (.dK []) :=
  ⟨Nat.zero_le _, beq_eq_false_iff_ne.mpr (Ne.symm (Nat.ne_of_lt hb)), [], .nil, Heap.DictOf.new h⟩
section
variable {X : Cx} {pos : Pos}
end

/-- the pairs of a display, from the left -/
def tPairs : List (TE × TE) → St → Hp → (List (V × V) → Hp → Prop) → Prop
  | [], _, H, Q => Q [] H
  | (tk, tv) :: r, σ, H, Q => tk σ H fun x H1 => tv σ H1 fun y H2 => tPairs r σ H2 fun ps H3 => Q ((x, y) :: ps) H3
abbrev VV : List (V × V) → List (Value × Value) → Prop := Paired fun p q => RelV p.1 q.1 ∧ RelV p.2 q.2
def PPs (X : Cx) (pos : Pos) (keys : List (Option Expr)) (values : List Expr) (trs : List (TE × TE)) : Prop :=
  ∀ (pins : List (Addr × Obj)) (s : Shared) (σ : St) (H : Hp) (Q : List (V × V) → Hp → Prop), Inv X pins σ H s → tPairs trs σ H Q →
    wpAny (model X.prog X.w) X.A (evalPairs (pairTrees keys values X.env pos)) (fun vs s' => ∃ ps H', Inv X pins σ H' s' ∧ VV ps vs ∧ Q ps H') X.xe s
theorem pps_nil {X : Cx} {pos : Pos} : PPs X pos [] [] [] := fun pins s σ H Q I h => pairTrees_nil_walk ⟨[], H, I, .nil, h⟩
theorem pps_cons {X : Cx} {pos : Pos} {k v : Expr} {ks : List (Option Expr)} {vs : List Expr} {tk tv : TE} {trs : List (TE × TE)} (hk : PE X k tk) (hv : PE X v tv) (hr : PPs X pos ks vs trs) :
    PPs X pos (some k :: ks) (v :: vs) ((tk, tv) :: trs) := fun pins s σ H Q I h =>
  pairTrees_cons_walk (thn (hk pins s σ H _ I h) fun u s1 ⟨x, H1, I1, rx, q1⟩ => thn (hv pins s1 σ H1 _ I1 q1) fun w2 s2 ⟨y, H2, I2, ry, q2⟩ =>
    thn (hr pins s2 σ H2 _ I2 q2) fun ws s3 ⟨ps, H3, I3, rel, q3⟩ => ⟨(x, y) :: ps, H3, I3, .cons ⟨rx, ry⟩ rel, q3⟩)

def mergeK (kvs more : List (Key × V)) : List (Key × V) := more.foldl (fun acc kv => putK acc kv.1 kv.2) kvs
theorem KV.merge : ∀ {more : List (Key × V)} {rs : List (Key × Value)} {kvs : List (Key × V)} {vs : List (Key × Value)}, KV more rs → KV kvs vs → KV (mergeK kvs more) (merged vs rs) := by
  intro more rs kvs vs r
  unfold KV at r
  induction r generalizing kvs vs with
  | nil => intro q; exact q
  | @cons p q ps qs h t ih =>
    intro r0
    have e : KV (putK kvs p.1 p.2) (stored vs q.1 q.2) := by
      have := r0.put p.1 h.2
      rw [← h.1]; exact this
    exact ih e
theorem length_mergeK : ∀ (more kvs : List (Key × V)), (mergeK kvs more).length ≤ kvs.length + more.length
  | [], kvs => by show kvs.length ≤ kvs.length + 0; omega
  | p :: r, kvs => by
    have h1 := length_mergeK r (putK kvs p.1 p.2)
    have h2 := length_putK kvs p.1 p.2
    show (mergeK (putK kvs p.1 p.2) r).length ≤ _
    rw [List.length_cons]; omega
theorem carries_of {P : Program} {w : World} : ∀ {kvs : List (Key × V)} {ws : List (Value × Value)}, VV (kvs.map fun kv => (kV kv.1, kv.2)) ws → ∃ rs, Carries (mixKind P w) ws rs ∧ KV kvs rs
  | [], _, r => by rw [List.map_nil] at r; cases r; exact ⟨[], True.intro, .nil⟩
  | p :: kvs, _, r => by
    rw [List.map_cons] at r
    cases r with
    | @cons a b as bs h t =>
      obtain ⟨rs, c, q⟩ := carries_of (P := P) (w := w) t
      obtain ⟨b1, b2⟩ := b
      exact ⟨(p.1, b2) :: rs, ⟨kV_is h.1, rfl, c⟩, .cons ⟨rfl, h.2⟩ q⟩
section
variable {X : Cx} {pins : List (Addr × Obj)} {σ : St} {H : Hp} {s : Shared} {a : Addr} {y d : V} {u r : Value} {o : Option V} {A : Around} {E : Value → Shared → Prop}
end

section
variable {X : Cx} {o e f : Expr} {apos cpos : Pos} {td ty tx : TE}
end

/-! ### dict(d): a copy -/
section
variable {X : Cx} {pins : List (Addr × Obj)} {σ : St} {H : Hp} {s : Shared} {a : Addr} {kvs : List (Key × V)} {A : Around} {E : Value → Shared → Prop}
end


section
variable {X : Cx} {pins : List (Addr × Obj)} {σ : St} {H : Hp} {s : Shared} {a : Addr} {y : V} {u : Value} {A : Around} {E : Value → Shared → Prop}
end
section
variable {X : Cx}
/-- len of a dict -/
theorem call_lenD : CallR X (.builtin "len") (fun xs H Q => ∃ a kvs, xs = [V.ref a] ∧ H a = some (.dK kvs) ∧ Q (.int kvs.length) H) := by
  intro pins s σ H xs us Q I r h
  obtain ⟨a, kvs, rfl, ha, q⟩ := h
  obtain ⟨u, rfl, ru⟩ := vals1 r
  cases ru
  exact d_len I (.inl ha) fun t s' I' => ⟨.int kvs.length, H, I', ⟨t, rfl⟩, q⟩
end
/-! ### a dict's pairs: keys that differ -/
section
variable {κ : Type} [DecidableEq κ]
end
end L2

/-! ## D: data. Tuples and lists as plain data, mutable things by number; each def is a Lean function. -/
namespace D
open PySem PySem.Spec PyProof.Rows L2

abbrev St := L2.St
inductive DV where
  | non | bl (b : Bool) | int (i : Int) | str (x : Str) | tup (xs : List DV) | lst (xs : List DV) | ref (i : Nat)

/-- a mutable thing of the world -/
inductive OV where
  | lst (xs : List DV)
  | dic (kvs : List (Key × DV))
  | ins (c : Str) (fs : List (Str × DV))

abbrev Hs := List OV
abbrev M := StateT Hs Option

mutual
def RepV (K : PySem.W.Frag) (ρ : List Addr) (B : Addr → Prop) (H : Hp) : DV → V → Prop
  | .non, v => v = .non
  | .bl b, v => v = .bl b
  | .int i, v => v = .int i
  | .str x, v => v = .str x
  | .tup ds, v => ∃ a xs, v = .ref a ∧ ¬ B a ∧ SqT K H a xs ∧ RepL K ρ B H ds xs
  | .lst ds, v => ∃ a xs, v = .ref a ∧ ¬ B a ∧ SqL K H a xs ∧ RepL K ρ B H ds xs
  | .ref i, v => ∃ a, v = .ref a ∧ ρ[i]? = some a
def RepL (K : PySem.W.Frag) (ρ : List Addr) (B : Addr → Prop) (H : Hp) : List DV → List V → Prop
  | [], xs => xs = []
  | d :: ds, xs => ∃ x r, xs = x :: r ∧ RepV K ρ B H d x ∧ RepL K ρ B H ds r
end

def ORep (K : PySem.W.Frag) (ρ : List Addr) (B : Addr → Prop) (H : Hp) (a : Addr) : OV → Prop
  | .lst ds => ∃ xs, H a = some (.lst xs) ∧ RepL K ρ B H ds xs
  | .dic kvs => ∃ xs : List (Key × V), H a = some (.dK xs) ∧ xs.map (·.1) = kvs.map (·.1) ∧ RepL K ρ B H (kvs.map (·.2)) (xs.map (·.2))
  | .ins c fs => ∃ (C dx : Addr) (xs : List (Str × V)), PySem.W.nsIn K mainGlobals c = some (some (.ref C)) ∧ H a = some (.ins C dx xs) ∧ xs.map (·.1) = fs.map (·.1) ∧ RepL K ρ B H (fs.map (·.2)) (xs.map (·.2))

structure Gr (K : PySem.W.Frag) (ρ : List Addr) (B : Addr → Prop) (H : Hp) (ρ' : List Addr) (B' : Addr → Prop) (H' : Hp) : Prop where
  pre : ρ <+: ρ'
  ban : ∀ a, B a → B' a
  new : ∀ a, B' a → B a ∨ (H a = none ∧ K.lookup a = none)
  rnew : ∀ a ∈ ρ', a ∈ ρ ∨ H a = none
  keep : ∀ a o, a ∉ ρ → H a = some o → H' a = some o
  trk : ∀ a, H' a = none → H a = none

structure WOk (K : PySem.W.Frag) (ρ : List Addr) (B : Addr → Prop) (hp : Hs) (H : Hp) : Prop where
  len : ρ.length = hp.length
  nd : ρ.Nodup
  obj : ∀ (i : Nat) (a : Addr) (o : OV), ρ[i]? = some a → hp[i]? = some o → ORep K ρ B H a o
  rb : ∀ a ∈ ρ, B a
  bt : ∀ a, B a → H a ≠ none
  bk : ∀ a, B a → K.lookup a = none

section
variable {K : PySem.W.Frag} {ρ ρ' ρ'' : List Addr} {B B' B'' : Addr → Prop} {H H' H'' : Hp}

theorem Gr.refl : Gr K ρ B H ρ B H := ⟨List.prefix_rfl, fun _ h => h, fun _ h => .inl h, fun _ h => .inl h, fun _ _ _ h => h, fun _ h => h⟩
theorem Gr.trans (a : Gr K ρ B H ρ' B' H') (b : Gr K ρ' B' H' ρ'' B'' H'') : Gr K ρ B H ρ'' B'' H'' where
  pre := a.pre.trans b.pre
  ban := fun x h => b.ban x (a.ban x h)
  new := fun x h => (b.new x h).elim (a.new x) fun z => .inr ⟨a.trk x z.1, z.2⟩
  rnew := fun x h => (b.rnew x h).elim (a.rnew x) fun z => .inr (a.trk x z)
  keep := fun x o hn h => b.keep x o (fun z => (a.rnew x z).elim hn (fun z => by rw [h] at z; cases z)) (a.keep x o hn h)
  trk := fun x h => a.trk x (b.trk x h)

structure Gs (K : PySem.W.Frag) (ρ : List Addr) (B : Addr → Prop) (H : Hp) (ρ' : List Addr) (B' : Addr → Prop) (H' : Hp) : Prop where
  pre : ρ <+: ρ'
  new : ∀ a, B' a → B a ∨ (H a = none ∧ K.lookup a = none)
  keep : ∀ a o, ¬ B a → H a = some o → H' a = some o
  trk : ∀ a, H' a = none → H a = none
theorem Gr.gs (rb : ∀ a ∈ ρ, B a) (g : Gr K ρ B H ρ' B' H') : Gs K ρ B H ρ' B' H' := ⟨g.pre, g.new, fun a o nb h => g.keep a o (fun z => nb (rb a z)) h, g.trk⟩
theorem Gs.refl : Gs K ρ B H ρ B H := ⟨List.prefix_rfl, fun _ h => .inl h, fun _ _ _ h => h, fun _ h => h⟩
theorem Gs.trans (a : Gs K ρ B H ρ' B' H') (b : Gs K ρ' B' H' ρ'' B'' H'') : Gs K ρ B H ρ'' B'' H'' where
  pre := a.pre.trans b.pre
  new := fun x h => (b.new x h).elim (a.new x) fun z => .inr ⟨a.trk x z.1, z.2⟩
  keep := fun x o nb h => b.keep x o (fun z => (a.new x z).elim nb fun q => by rw [h] at q; cases q.1) (a.keep x o nb h)
  trk := fun x h => a.trk x (b.trk x h)
theorem SqT.trk {a : Addr} {xs : List V} (h : SqT K H a xs) : H a ≠ none ∨ ∃ o, K.lookup a = some o := by
  rcases h with (h | ⟨o, h⟩) | ⟨o, _, _, h, _⟩
  · exact .inl (by rw [h]; simp)
  · exact .inl (by rw [h]; simp)
  · exact .inr ⟨o, h⟩
theorem SqL.trk {a : Addr} {xs : List V} (h : SqL K H a xs) : H a ≠ none ∨ ∃ o, K.lookup a = some o := by
  rcases h with (h | ⟨o, h⟩) | ⟨o, _, _, h, _⟩
  · exact .inl (by rw [h]; simp)
  · exact .inl (by rw [h]; simp)
  · exact .inr ⟨o, h⟩
theorem Gs.ok {a : Addr} (g : Gs K ρ B H ρ' B' H') (hb : ¬ B a) (t : H a ≠ none ∨ ∃ o, K.lookup a = some o) : ¬ B' a := fun z =>
  (g.new a z).elim hb fun ⟨n, k⟩ => t.elim (fun q => q n) fun ⟨o, q⟩ => by rw [k] at q; cases q
theorem Gs.sqT {a : Addr} {xs : List V} (g : Gs K ρ B H ρ' B' H') (hr : ¬ B a) (h : SqT K H a xs) : SqT K H' a xs := by
  rcases h with (h | ⟨o, h⟩) | h
  · exact .inl (.inl (g.keep _ _ hr h))
  · exact .inl (.inr ⟨o, g.keep _ _ hr h⟩)
  · exact .inr h
theorem Gs.sqL {a : Addr} {xs : List V} (g : Gs K ρ B H ρ' B' H') (hr : ¬ B a) (h : SqL K H a xs) : SqL K H' a xs := by
  rcases h with (h | ⟨o, h⟩) | h
  · exact .inl (.inl (g.keep _ _ hr h))
  · exact .inl (.inr ⟨o, g.keep _ _ hr h⟩)
  · exact .inr h
theorem pre_get {i : Nat} {a : Addr} (p : ρ <+: ρ') (h : ρ[i]? = some a) : ρ'[i]? = some a := by
  obtain ⟨t, rfl⟩ := p
  rw [List.getElem?_append_left (List.getElem?_eq_some_iff.mp h).1]; exact h

mutual
theorem RepV.gs (g : Gs K ρ B H ρ' B' H') : ∀ (d : DV) (v : V), RepV K ρ B H d v → RepV K ρ' B' H' d v
  | .non, _, h => by unfold RepV at h ⊢; exact h
  | .bl _, _, h => by unfold RepV at h ⊢; exact h
  | .int _, _, h => by unfold RepV at h ⊢; exact h
  | .str _, _, h => by unfold RepV at h ⊢; exact h
  | .ref _, _, h => by
    unfold RepV at h ⊢
    obtain ⟨a, e, h⟩ := h
    exact ⟨a, e, pre_get g.pre h⟩
  | .tup ds, _, h => by
    unfold RepV at h ⊢
    obtain ⟨a, xs, e, nb, sq, rl⟩ := h
    exact ⟨a, xs, e, g.ok nb (SqT.trk sq), g.sqT nb sq, RepL.gs g ds xs rl⟩
  | .lst ds, _, h => by
    unfold RepV at h ⊢
    obtain ⟨a, xs, e, nb, sq, rl⟩ := h
    exact ⟨a, xs, e, g.ok nb (SqL.trk sq), g.sqL nb sq, RepL.gs g ds xs rl⟩
theorem RepL.gs (g : Gs K ρ B H ρ' B' H') : ∀ (ds : List DV) (xs : List V), RepL K ρ B H ds xs → RepL K ρ' B' H' ds xs
  | [], _, h => by unfold RepL at h ⊢; exact h
  | d :: ds, _, h => by
    unfold RepL at h ⊢
    obtain ⟨x, r, e, h1, h2⟩ := h
    exact ⟨x, r, e, RepV.gs g d x h1, RepL.gs g ds r h2⟩
end
theorem RepV.grow (rb : ∀ a ∈ ρ, B a) (g : Gr K ρ B H ρ' B' H') (d : DV) (v : V) (h : RepV K ρ B H d v) : RepV K ρ' B' H' d v := RepV.gs (g.gs rb) d v h
theorem RepL.grow (rb : ∀ a ∈ ρ, B a) (g : Gr K ρ B H ρ' B' H') (ds : List DV) (xs : List V) (h : RepL K ρ B H ds xs) : RepL K ρ' B' H' ds xs := RepL.gs (g.gs rb) ds xs h

theorem RepL.length : ∀ {ds : List DV} {xs : List V}, RepL K ρ B H ds xs → ds.length = xs.length
  | [], _, h => by unfold RepL at h; subst h; rfl
  | d :: ds, _, h => by
    unfold RepL at h
    obtain ⟨x, r, rfl, _, h2⟩ := h
    simp [RepL.length h2]
theorem RepL.get : ∀ {ds : List DV} {xs : List V} {i : Nat} {d : DV}, RepL K ρ B H ds xs → ds[i]? = some d → ∃ x, xs[i]? = some x ∧ RepV K ρ B H d x
  | [], _, _, _, _, e => by simp at e
  | d :: ds, _, 0, _, h, e => by
    unfold RepL at h
    obtain ⟨x, r, rfl, h1, _⟩ := h
    simp at e; subst e
    exact ⟨x, rfl, h1⟩
  | d :: ds, _, i + 1, _, h, e => by
    unfold RepL at h
    obtain ⟨x, r, rfl, _, h2⟩ := h
    obtain ⟨y, h3, h4⟩ := RepL.get h2 (by simpa using e)
    exact ⟨y, by simpa using h3, h4⟩
theorem RepL.nil : RepL K ρ B H [] [] := by unfold RepL; rfl
theorem RepL.cons {d : DV} {x : V} {ds : List DV} {xs : List V} (h : RepV K ρ B H d x) (t : RepL K ρ B H ds xs) : RepL K ρ B H (d :: ds) (x :: xs) := by
  unfold RepL; exact ⟨x, xs, rfl, h, t⟩
theorem RepL.append : ∀ {ds es : List DV} {xs ys : List V}, RepL K ρ B H ds xs → RepL K ρ B H es ys → RepL K ρ B H (ds ++ es) (xs ++ ys)
  | [], _, _, _, h, t => by unfold RepL at h; subst h; exact t
  | d :: ds, _, _, _, h, t => by
    unfold RepL at h
    obtain ⟨x, r, rfl, h1, h2⟩ := h
    exact RepL.cons h1 (RepL.append h2 t)
theorem RepL.one {d : DV} {x : V} (h : RepV K ρ B H d x) : RepL K ρ B H [d] [x] := RepL.cons h RepL.nil
theorem RepL.take : ∀ (n : Nat) {ds : List DV} {xs : List V}, RepL K ρ B H ds xs → RepL K ρ B H (ds.take n) (xs.take n)
  | 0, _, _, _ => by simp; exact RepL.nil
  | _ + 1, [], _, h => by unfold RepL at h; subst h; simp; exact RepL.nil
  | n + 1, d :: ds, _, h => by
    unfold RepL at h
    obtain ⟨x, r, rfl, h1, h2⟩ := h
    exact RepL.cons h1 (RepL.take n h2)
theorem RepL.drop : ∀ (n : Nat) {ds : List DV} {xs : List V}, RepL K ρ B H ds xs → RepL K ρ B H (ds.drop n) (xs.drop n)
  | 0, _, _, h => h
  | _ + 1, [], _, h => by unfold RepL at h; subst h; simp; exact RepL.nil
  | n + 1, d :: ds, _, h => by
    unfold RepL at h
    obtain ⟨x, r, rfl, h1, h2⟩ := h
    exact RepL.drop n h2
/-! a new thing that is no ban (a tuple, a list that is data) -/
theorem Gr.laid {p : Addr} {o : HO} (h : H p = none) : Gr K ρ B H ρ B (upd H p o) where
  pre := List.prefix_rfl
  ban := fun _ h => h
  new := fun _ h => .inl h
  rnew := fun _ h => .inl h
  keep := fun a u _ q => by rw [upd_ne (ne_of_none q h)]; exact q
  trk := fun a q => by
    by_cases e : a = p
    · subst e; rw [upd_same] at q; cases q
    · rw [upd_ne e] at q; exact q
theorem ORep.gs {a : Addr} {o : OV} (g : Gs K ρ B H ρ' B' H') (hk : H' a = H a) (h : ORep K ρ B H a o) : ORep K ρ' B' H' a o := by
  cases o with
  | lst ds =>
    obtain ⟨xs, e, rl⟩ := h
    exact ⟨xs, hk.trans e, RepL.gs g _ _ rl⟩
  | dic kvs =>
    obtain ⟨xs, e, ek, rl⟩ := h
    exact ⟨xs, hk.trans e, ek, RepL.gs g _ _ rl⟩
  | ins c fs =>
    obtain ⟨C, dx, xs, nc, e, ek, rl⟩ := h
    exact ⟨C, dx, xs, nc, hk.trans e, ek, RepL.gs g _ _ rl⟩
/-- the world stays when the numbered things are as they were -/
theorem WOk.laid {hp : Hs} {p : Addr} {o : HO} (W : WOk K ρ B hp H) (h : H p = none) : WOk K ρ B hp (upd H p o) where
  len := W.len
  nd := W.nd
  obj := fun i a u e q => ORep.gs ((Gr.laid h).gs W.rb) (by
    have hb := W.bt a (W.rb a (List.mem_of_getElem? e))
    exact upd_ne (fun z => hb (z ▸ h))) (W.obj i a u e q)
  rb := W.rb
  bt := fun a z q => W.bt a z ((Gr.laid (K := K) (ρ := ρ) (B := B) h).trk a q)
  bk := W.bk
end

/-! ### slots -/
inductive Sl where
  | un | val (d : DV) | acc (ds : List DV)
abbrev En := List Sl

structure Ent where
  ρ : List Addr
  B : Addr → Prop
  H : Hp

structure SOk (K : PySem.W.Frag) (Z : Ent) (env : En) (σ : St) (ρ : List Addr) (B : Addr → Prop) (hp : Hs) (H : Hp) : Prop where
  gr : Gr K Z.ρ Z.B Z.H ρ B H
  zb : ∀ a, Z.B a → Z.H a ≠ none
  wo : WOk K ρ B hp H
  slot : ∀ (i : Nat) (d : DV), env[i]? = some (.val d) → ∃ v, σ[i]? = some (some v) ∧ RepV K ρ B H d v
  accs : ∀ (i : Nat) (ds : List DV), env[i]? = some (.acc ds) → ∃ a xs, σ[i]? = some (some (.ref a)) ∧ H a = some (.lst xs) ∧ Z.H a = none ∧ B a ∧ a ∉ ρ ∧ RepL K ρ B H ds xs
  adis : ∀ (i j : Nat) (ds es : List DV) (a : Addr), env[i]? = some (.acc ds) → env[j]? = some (.acc es) → σ[i]? = some (some (.ref a)) → σ[j]? = some (some (.ref a)) → i = j
  len : σ.length = env.length

theorem SOk.grow {K : PySem.W.Frag} {Z : Ent} {env : En} {σ : St} {ρ ρ' : List Addr} {B B' : Addr → Prop} {hp hp' : Hs} {H H' : Hp} (S : SOk K Z env σ ρ B hp H) (g : Gr K ρ B H ρ' B' H') (W : WOk K ρ' B' hp' H') : SOk K Z env σ ρ' B' hp' H' where
  gr := S.gr.trans g
  zb := S.zb
  wo := W
  slot := fun i d e => let ⟨v, h1, h2⟩ := S.slot i d e; ⟨v, h1, RepV.grow S.wo.rb g d v h2⟩
  accs := fun i ds e => by
    obtain ⟨a, xs, h1, h2, h3, h4, h5, h6⟩ := S.accs i ds e
    refine ⟨a, xs, h1, g.keep a _ h5 h2, h3, g.ban a h4, fun z => ?_, RepL.grow S.wo.rb g ds xs h6⟩
    rcases g.rnew a z with q | q
    · exact h5 q
    · rw [h2] at q; cases q
  adis := S.adis
  len := S.len

/-! ### the judgements -/
abbrev DEx := En → M DV
abbrev DTx := En → M Bool
abbrev DAx := En → M (List DV)
inductive Fl where
  | nx | rt (d : DV) | bk | ct
abbrev DSx := En → M (Fl × En)

/-- what may follow: the value d, the things hp' -/
def Fol (K : PySem.W.Frag) (ρ : List Addr) (B : Addr → Prop) (H : Hp) (d : DV) (hp' : Hs) (Q : VK) : Prop :=
  ∀ v ρ' B' H', Gr K ρ B H ρ' B' H' → WOk K ρ' B' hp' H' → RepV K ρ' B' H' d v → Q v H'
def FolB (K : PySem.W.Frag) (ρ : List Addr) (B : Addr → Prop) (H : Hp) (hp' : Hs) (Q : Hp → Prop) : Prop :=
  ∀ ρ' B' H', Gr K ρ B H ρ' B' H' → WOk K ρ' B' hp' H' → Q H'
def FolL (K : PySem.W.Frag) (ρ : List Addr) (B : Addr → Prop) (H : Hp) (ds : List DV) (hp' : Hs) (Q : List V → Hp → Prop) : Prop :=
  ∀ vs ρ' B' H', Gr K ρ B H ρ' B' H' → WOk K ρ' B' hp' H' → RepL K ρ' B' H' ds vs → Q vs H'

def tD (K : PySem.W.Frag) (f : DEx) : TE := fun σ H Q => ∃ Z env ρ B hp d hp', SOk K Z env σ ρ B hp H ∧ f env hp = some (d, hp') ∧ Fol K ρ B H d hp' Q
def tDT (K : PySem.W.Frag) (f : DTx) : TT := fun σ H Q => ∃ Z env ρ B hp d hp', SOk K Z env σ ρ B hp H ∧ f env hp = some (d, hp') ∧ FolB K ρ B H hp' (Q d)
def tDA (K : PySem.W.Frag) (f : DAx) : TA := fun σ H Q => ∃ Z env ρ B hp ds hp', SOk K Z env σ ρ B hp H ∧ f env hp = some (ds, hp') ∧ FolL K ρ B H ds hp' Q
def DE (X : Cx) (e : Expr) (f : DEx) : Prop := PE X e (tD X.K f)
def DT (X : Cx) (e : Expr) (f : DTx) : Prop := PT X e (tDT X.K f)
def DW (X : Cx) (e : Expr) (f : DTx) : Prop := PW X e (tDT X.K f)
def DA (X : Cx) (es : List Expr) (f : DAx) : Prop := PA X es (tDA X.K f)

def FolS (K : PySem.W.Frag) (Z : Ent) (ρ : List Addr) (B : Addr → Prop) (H : Hp) (fl : Fl) (env' : En) (hp' : Hs) (D : Ends) : Prop :=
  ∀ σ' ρ' B' H', Gs K ρ B H ρ' B' H' → SOk K Z env' σ' ρ' B' hp' H' → match fl with
    | .nx => D.nx σ' H'
    | .bk => D.bk σ' H'
    | .ct => D.ct σ' H'
    | .rt d => ∀ v, RepV K ρ' B' H' d v → D.rt v H'
def tDS (K : PySem.W.Frag) (f : DSx) : TS := fun D σ H => ∃ Z env ρ B hp fl env' hp', SOk K Z env σ ρ B hp H ∧ f env hp = some ((fl, env'), hp') ∧ FolS K Z ρ B H fl env' hp' D
def DS (X : Cx) (st : Stmt) (f : DSx) : Prop := PS X st (tDS X.K f)
def DSs (X : Cx) (st : List Stmt) (f : DSx) : Prop := PSs X st (tDS X.K f)

section
variable {X : Cx}
theorem _root_.L2.PE.imp {e : Expr} {t t' : TE} (h : PE X e t) (i : ∀ σ H Q, t' σ H Q → t σ H Q) : PE X e t' := fun pins s σ H Q I q => h pins s σ H Q I (i σ H Q q)
theorem _root_.L2.PT.imp {e : Expr} {t t' : TT} (h : PT X e t) (i : ∀ σ H Q, t' σ H Q → t σ H Q) : PT X e t' := fun pins s σ H Q I q => h pins s σ H Q I (i σ H Q q)
theorem _root_.L2.PW.imp {e : Expr} {t t' : TT} (h : PW X e t) (i : ∀ σ H Q, t' σ H Q → t σ H Q) : PW X e t' := fun wh pins s σ H Q I q => h wh pins s σ H Q I (i σ H Q q)
theorem _root_.L2.PA.imp {es : List Expr} {t t' : TA} (h : PA X es t) (i : ∀ σ H Q, t' σ H Q → t σ H Q) : PA X es t' := fun pos pins s σ H Q I q => h pos pins s σ H Q I (i σ H Q q)
theorem _root_.L2.PS.imp {st : Stmt} {t t' : TS} (h : PS X st t) (i : ∀ Dn σ H, t' Dn σ H → t Dn σ H) : PS X st t' := fun pins s σ H Dn I q => h pins s σ H Dn I (i Dn σ H q)
theorem _root_.L2.PSs.imp {st : List Stmt} {t t' : TS} (h : PSs X st t) (i : ∀ Dn σ H, t' Dn σ H → t Dn σ H) : PSs X st t' := fun pins s σ H Dn I q => h pins s σ H Dn I (i Dn σ H q)
def KFree (K : PySem.W.Frag) (H : Hp) : Prop := ∀ a o, H a = some o → K.lookup a = none
theorem Inv.kfree {pins : List (Addr × Obj)} {σ : St} {H : Hp} {s : Shared} (I : Inv X pins σ H s) : KFree X.K H := fun a o e => by
  cases q : X.K.lookup a with
  | none => rfl
  | some ob =>
    have := (I.bs a ob (I.ok.mod.kin a ob q)).2
    rw [e] at this; cases this
theorem _root_.L2.PE.kf {e : Expr} {t : TE} (h : PE X e t) : PE X e (fun σ H Q => t σ H fun v H' => KFree X.K H' → Q v H') := fun pins s σ H Q I q =>
  thn (h pins s σ H _ I q) fun u s' ⟨v, H', I', r, z⟩ => ⟨v, H', I', r, z (Inv.kfree I')⟩

/-! bind in M -/
theorem bind_some {α β : Type} {f : M α} {g : α → M β} {hp hp' : Hs} {y : β} (h : (f >>= g) hp = some (y, hp')) : ∃ x hp1, f hp = some (x, hp1) ∧ g x hp1 = some (y, hp') := by
  change (f hp).bind (fun p => g p.1 p.2) = some (y, hp') at h
  cases q : f hp with
  | none => rw [q] at h; cases h
  | some p => rw [q] at h; exact ⟨p.1, p.2, rfl, h⟩
theorem pure_some {α : Type} {x y : α} {hp hp' : Hs} (h : (pure x : M α) hp = some (y, hp')) : x = y ∧ hp = hp' := by
  change some (x, hp) = some (y, hp') at h
  cases h; exact ⟨rfl, rfl⟩

/-- run one expression, then more -/
theorem tD.run {K : PySem.W.Frag} {f : DEx} {Z : Ent} {env : En} {σ : St} {ρ : List Addr} {B : Addr → Prop} {hp hp1 : Hs} {H : Hp} {d : DV} {Q : VK} (S : SOk K Z env σ ρ B hp H) (e : f env hp = some (d, hp1))
    (k : ∀ v ρ' B' H', Gr K ρ B H ρ' B' H' → SOk K Z env σ ρ' B' hp1 H' → RepV K ρ' B' H' d v → Q v H') : tD K f σ H Q :=
  ⟨Z, env, ρ, B, hp, d, hp1, S, e, fun v ρ' B' H' g W r => k v ρ' B' H' g (S.grow g W) r⟩

/-! ### names and constants -/
def eVar (i : Nat) : DEx := fun env => match env[i]? with
  | some (.val d) => pure d
  | _ => failure
def eC (d : DV) : DEx := fun _ => pure d
theorem eVar_some {i : Nat} {env : En} {hp hp' : Hs} {d : DV} (h : eVar i env hp = some (d, hp')) : env[i]? = some (.val d) ∧ hp = hp' := by
  unfold eVar at h
  cases q : env[i]? with
  | none => rw [q] at h; cases h
  | some z =>
    rw [q] at h
    cases z with
    | val x => obtain ⟨rfl, rfl⟩ := pure_some h; exact ⟨rfl, rfl⟩
    | un => cases h
    | acc _ => cases h
theorem de_var (i : Nat) {x : Str} {pos : Pos} (hN : X.N[i]? = some x := by rfl) (hv : Vis X.env.scope x := by first | exact Or.inl rfl | exact Or.inr (Or.inl rfl) | exact Or.inr (Or.inr rfl)) (hd : (x == ("__debug__" : Str)) = false := by decide)
    (hcd : (x == ("__classdict__" : Str)) = false := by decide) : DE X (.Name x pos) (eVar i) :=
  (pe_var hN hv hd hcd).imp fun σ H Q ⟨Z, env, ρ, B, hp, d, hp', S, e, k⟩ => by
    obtain ⟨e1, rfl⟩ := eVar_some e
    obtain ⟨v, h1, h2⟩ := S.slot i d e1
    exact ⟨v, h1, k v ρ B H Gr.refl S.wo h2⟩
theorem de_const {e : Expr} {d : DV} {v : V} (h : PE X e (tC v)) (r : ∀ K ρ B H, RepV K ρ B H d v) : DE X e (eC d) :=
  h.imp fun σ H Q ⟨Z, env, ρ, B, hp, d', hp', S, e, k⟩ => by
    obtain ⟨rfl, rfl⟩ := pure_some e
    exact k v ρ B H Gr.refl S.wo (r _ _ _ _)
theorem de_int {i : Int} {j pos} : DE X (.Constant (.int i) j pos) (eC (.int i)) := de_const pe_int fun _ _ _ _ => by unfold RepV; rfl
theorem de_bl {b : Bool} {j pos} : DE X (.Constant (.bool b) j pos) (eC (.bl b)) := de_const pe_bl fun _ _ _ _ => by unfold RepV; rfl
theorem de_non {j pos} : DE X (.Constant .none j pos) (eC .non) := de_const pe_non fun _ _ _ _ => by unfold RepV; rfl
theorem de_str {x : Str} {j pos} : DE X (.Constant (.str x) j pos) (eC (.str x)) := de_const pe_str fun _ _ _ _ => by unfold RepV; rfl
/-! ### operations -/
def tP2 (K : PySem.W.Frag) (g : DV → DV → M DV) : R2 := fun x y H Q => ∃ ρ B hp dx dy d hp', WOk K ρ B hp H ∧ RepV K ρ B H dx x ∧ RepV K ρ B H dy y ∧ g dx dy hp = some (d, hp') ∧ Fol K ρ B H d hp' Q
def P2 (X : Cx) (f : Value → Value → Sem Value) (g : DV → DV → M DV) : Prop := OpR X f (tP2 X.K g)
def eBin (g : DV → DV → M DV) (a b : DEx) : DEx := fun env => do let x ← a env; let y ← b env; g x y
variable {a b c : Expr} {fa fb fc : DEx} {pos : Pos}
theorem eBin_imp {K : PySem.W.Frag} {g : DV → DV → M DV} {σ : St} {H : Hp} {Q : VK} (h : tD K (eBin g fa fb) σ H Q) : tOp (tP2 K g) (tD K fa) (tD K fb) σ H Q := by
  obtain ⟨Z, env, ρ, B, hp, d, hp', S, e, k⟩ := h
  obtain ⟨x, hp1, e1, e2⟩ := bind_some e
  obtain ⟨y, hp2, e3, e4⟩ := bind_some e2
  refine tD.run S e1 fun v ρ1 B1 H1 g1 S1 r1 => tD.run S1 e3 fun u ρ2 B2 H2 g2 S2 r2 => ?_
  exact ⟨ρ2, B2, hp2, x, y, d, hp', S2.wo, RepV.grow S1.wo.rb g2 _ _ r1, r2, e4, fun w ρ' B' H' g W r => k w ρ' B' H' (g1.trans (g2.trans g)) W r⟩
theorem de_bin {op : Operator} {g : DV → DV → M DV} (ho : P2 X (binaryOp op) g) (ha : DE X a fa) (hb : DE X b fb) : DE X (.BinOp a op b pos) (eBin g fa fb) :=
  (pe_op ho ha hb).imp fun _ _ _ h => eBin_imp h
theorem de_cmp {op : CmpOp} {g : DV → DV → M DV} (ho : P2 X (compareOp op) g) (ha : DE X a fa) (hb : DE X b fb) (hm : behindInMarks op b = false) : DE X (.Compare a [op] [b] pos) (eBin g fa fb) :=
  (pe_cmpR ho ha hb hm).imp fun _ _ _ h => eBin_imp h
/-- a value that is a bool, as a test -/
def asB : DV → M Bool
  | .bl b => pure b
  | _ => failure
def eB (f : DEx) : DTx := fun env => do asB (← f env)
theorem asB_some {d : DV} {c : Bool} {hp hp' : Hs} (h : asB d hp = some (c, hp')) : d = .bl c ∧ hp = hp' := by
  cases d with
  | bl b => obtain ⟨rfl, rfl⟩ := pure_some h; exact ⟨rfl, rfl⟩
  | _ => cases h
theorem RepV.blI {K : PySem.W.Frag} {ρ : List Addr} {B : Addr → Prop} {H : Hp} {b : Bool} {v : V} (h : RepV K ρ B H (.bl b) v) : v = .bl b := by unfold RepV at h; exact h
theorem RepV.intI {K : PySem.W.Frag} {ρ : List Addr} {B : Addr → Prop} {H : Hp} {b : Int} {v : V} (h : RepV K ρ B H (.int b) v) : v = .int b := by unfold RepV at h; exact h
theorem RepV.strI {K : PySem.W.Frag} {ρ : List Addr} {B : Addr → Prop} {H : Hp} {b : Str} {v : V} (h : RepV K ρ B H (.str b) v) : v = .str b := by unfold RepV at h; exact h
theorem RepV.nonI {K : PySem.W.Frag} {ρ : List Addr} {B : Addr → Prop} {H : Hp} {v : V} (h : RepV K ρ B H .non v) : v = .non := by unfold RepV at h; exact h
theorem RepV.tupI {K : PySem.W.Frag} {ρ : List Addr} {B : Addr → Prop} {H : Hp} {ds : List DV} {v : V} (h : RepV K ρ B H (.tup ds) v) : ∃ a xs, v = .ref a ∧ ¬ B a ∧ SqT K H a xs ∧ RepL K ρ B H ds xs := by unfold RepV at h; exact h
theorem RepV.lstI {K : PySem.W.Frag} {ρ : List Addr} {B : Addr → Prop} {H : Hp} {ds : List DV} {v : V} (h : RepV K ρ B H (.lst ds) v) : ∃ a xs, v = .ref a ∧ ¬ B a ∧ SqL K H a xs ∧ RepL K ρ B H ds xs := by unfold RepV at h; exact h
theorem RepV.refI {K : PySem.W.Frag} {ρ : List Addr} {B : Addr → Prop} {H : Hp} {i : Nat} {v : V} (h : RepV K ρ B H (.ref i) v) : ∃ a, v = .ref a ∧ ρ[i]? = some a := by unfold RepV at h; exact h
section
variable {K : PySem.W.Frag} {ρ : List Addr} {B : Addr → Prop} {H : Hp}
theorem rep_bl {b : Bool} : RepV K ρ B H (.bl b) (.bl b) := by unfold RepV; rfl
theorem rep_int {b : Int} : RepV K ρ B H (.int b) (.int b) := by unfold RepV; rfl
theorem rep_non : RepV K ρ B H .non .non := by unfold RepV; rfl
theorem rep_tup {a : Addr} {ds : List DV} {xs : List V} (h1 : ¬ B a) (h2 : SqT K H a xs) (h3 : RepL K ρ B H ds xs) : RepV K ρ B H (.tup ds) (.ref a) := by unfold RepV; exact ⟨a, xs, rfl, h1, h2, h3⟩
theorem rep_lst {a : Addr} {ds : List DV} {xs : List V} (h1 : ¬ B a) (h2 : SqL K H a xs) (h3 : RepL K ρ B H ds xs) : RepV K ρ B H (.lst ds) (.ref a) := by unfold RepV; exact ⟨a, xs, rfl, h1, h2, h3⟩
end
theorem dt_of {e : Expr} {f : DEx} (h : DE X e f) (he : ∀ whole, isTrue e X.env whole = (do let v ← whole; standAt e.pos; holding [v] (truthy v)) := by intro _; rfl) : DT X e (eB f) :=
  (pt_val h he).imp fun σ H Q ⟨Z, env, ρ, B, hp, d, hp', S, e, k⟩ => by
    obtain ⟨x, hp1, e1, e2⟩ := bind_some e
    obtain ⟨rfl, rfl⟩ := asB_some e2
    exact tD.run S e1 fun v ρ1 B1 H1 g1 S1 r1 => ⟨d, r1.blI, k ρ1 B1 H1 g1 S1.wo⟩
theorem dt_cmp {op : CmpOp} {g : DV → DV → M DV} (ho : P2 X (compareOp op) g) (ha : DE X a fa) (hb : DE X b fb) (hm : behindInMarks op b = false) : DT X (.Compare a [op] [b] pos) (eB (eBin g fa fb)) :=
  (pt_cmpR ho ha hb hm).imp fun σ H Q ⟨Z, env, ρ, B, hp, d, hp', S, e, k⟩ => by
    obtain ⟨x, hp1, e1, e2⟩ := bind_some e
    obtain ⟨rfl, rfl⟩ := asB_some e2
    exact eBin_imp (tD.run S e1 fun v ρ1 B1 H1 g1 S1 r1 => ⟨d, r1.blI, k ρ1 B1 H1 g1 S1.wo⟩)

/-! and, or, not -/
def eAnd (f g : DTx) : DTx := fun env => do if ← f env then g env else pure false
def eOr (f g : DTx) : DTx := fun env => do if ← f env then pure true else g env
def eNot (f : DTx) : DTx := fun env => do let b ← f env; pure (!b)
def eAndV (f g : DEx) : DEx := fun env => do if ← asB (← f env) then g env else pure (.bl false)
def eOrV (f g : DEx) : DEx := fun env => do if ← asB (← f env) then pure (.bl true) else g env
def eNotV (f : DEx) : DEx := fun env => do let b ← asB (← f env); pure (.bl (!b))
def eIf (c : DTx) (f g : DEx) : DEx := fun env => do if ← c env then f env else g env
theorem tDT.run {K : PySem.W.Frag} {f : DTx} {Z : Ent} {env : En} {σ : St} {ρ : List Addr} {B : Addr → Prop} {hp hp1 : Hs} {H : Hp} {d : Bool} {Q : Bool → Hp → Prop} (S : SOk K Z env σ ρ B hp H) (e : f env hp = some (d, hp1))
    (k : ∀ ρ' B' H', Gr K ρ B H ρ' B' H' → SOk K Z env σ ρ' B' hp1 H' → Q d H') : tDT K f σ H Q :=
  ⟨Z, env, ρ, B, hp, d, hp1, S, e, fun ρ' B' H' g W => k ρ' B' H' g (S.grow g W)⟩
variable {ca cb : DTx} {rest : List Expr}
theorem dw_or1 (h : DT X a ca) : DW X (.BoolOp .Or [a] pos) ca := pw_or1 h
theorem dw_or (ha : DT X a ca) (hb : DW X (.BoolOp .Or (b :: rest) pos) cb) : DW X (.BoolOp .Or (a :: b :: rest) pos) (eOr ca cb) :=
  (pw_or ha hb).imp fun σ H Q ⟨Z, env, ρ, B, hp, d, hp', S, e, k⟩ => by
    obtain ⟨x, hp1, e1, e2⟩ := bind_some e
    refine tDT.run S e1 fun ρ1 B1 H1 g1 S1 => ?_
    cases x with
    | false => exact iteF (tDT.run S1 e2 fun ρ2 B2 H2 g2 S2 => k ρ2 B2 H2 (g1.trans g2) S2.wo)
    | true =>
      obtain ⟨rfl, rfl⟩ := pure_some e2
      exact iteT (k ρ1 B1 H1 g1 S1.wo)
theorem DW.pt {e : Expr} {f : DTx} (h : DW X e f) : DT X e f := h _
theorem dt_not (h : DT X a ca) : DT X (.UnaryOp .Not a pos) (eNot ca) :=
  (pt_not h).imp fun σ H Q ⟨Z, env, ρ, B, hp, d, hp', S, e, k⟩ => by
    obtain ⟨x, hp1, e1, e2⟩ := bind_some e
    obtain ⟨rfl, rfl⟩ := pure_some e2
    exact tDT.run S e1 fun ρ1 B1 H1 g1 S1 => k ρ1 B1 H1 g1 S1.wo
theorem de_one {op : BoolOp} (h : DE X a fa) : DE X (.BoolOp op [a] pos) fa := pe_one h
theorem de_and (ha : DE X a fa) (hb : DE X (.BoolOp .And (b :: rest) pos) fb) : DE X (.BoolOp .And (a :: b :: rest) pos) (eAndV fa fb) :=
  (pe_and ha hb).imp fun σ H Q ⟨Z, env, ρ, B, hp, d, hp', S, e, k⟩ => by
    obtain ⟨x, hp1, e1, e2⟩ := bind_some e
    obtain ⟨c, hp2, e3, e4⟩ := bind_some e2
    obtain ⟨rfl, rfl⟩ := asB_some e3
    refine tD.run S e1 fun v ρ1 B1 H1 g1 S1 r1 => ⟨c, r1.blI, ?_⟩
    cases c with
    | true => exact iteT (tD.run S1 e4 fun v ρ2 B2 H2 g2 S2 r2 => k v ρ2 B2 H2 (g1.trans g2) S2.wo r2)
    | false =>
      obtain ⟨rfl, rfl⟩ := pure_some e4
      exact iteF (k _ ρ1 B1 H1 g1 S1.wo rep_bl)
theorem de_not (ha : DE X a fa) : DE X (.UnaryOp .Not a pos) (eNotV fa) :=
  (pe_not ha).imp fun σ H Q ⟨Z, env, ρ, B, hp, d, hp', S, e, k⟩ => by
    obtain ⟨x, hp1, e1, e2⟩ := bind_some e
    obtain ⟨c, hp2, e3, e4⟩ := bind_some e2
    obtain ⟨rfl, rfl⟩ := asB_some e3
    obtain ⟨rfl, rfl⟩ := pure_some e4
    exact tD.run S e1 fun v ρ1 B1 H1 g1 S1 r1 => ⟨c, r1.blI, k _ ρ1 B1 H1 g1 S1.wo rep_bl⟩
/-! ### argument lists, displays -/
def aNil : DAx := fun _ => pure []
def aCons (f : DEx) (g : DAx) : DAx := fun env => do let x ← f env; let xs ← g env; pure (x :: xs)
theorem tDA.run {K : PySem.W.Frag} {f : DAx} {Z : Ent} {env : En} {σ : St} {ρ : List Addr} {B : Addr → Prop} {hp hp1 : Hs} {H : Hp} {ds : List DV} {Q : List V → Hp → Prop} (S : SOk K Z env σ ρ B hp H) (e : f env hp = some (ds, hp1))
    (k : ∀ vs ρ' B' H', Gr K ρ B H ρ' B' H' → SOk K Z env σ ρ' B' hp1 H' → RepL K ρ' B' H' ds vs → Q vs H') : tDA K f σ H Q :=
  ⟨Z, env, ρ, B, hp, ds, hp1, S, e, fun vs ρ' B' H' g W r => k vs ρ' B' H' g (S.grow g W) r⟩
theorem da_nil : DA X [] aNil := pa_nil.imp fun σ H Q ⟨Z, env, ρ, B, hp, ds, hp', S, e, k⟩ => by
  obtain ⟨rfl, rfl⟩ := pure_some e
  exact k [] ρ B H Gr.refl S.wo RepL.nil
theorem da_cons {e : Expr} {es : List Expr} {f : DEx} {g : DAx} (ha : DE X e f) (hr : DA X es g) (hs : starEach (e :: es) X.env = (false, eval e X.env) :: starEach es X.env := by rfl) : DA X (e :: es) (aCons f g) :=
  (pa_cons ha hr hs).imp fun σ H Q ⟨Z, env, ρ, B, hp, ds, hp', S, e, k⟩ => by
    obtain ⟨x, hp1, e1, e2⟩ := bind_some e
    obtain ⟨xs, hp2, e3, e4⟩ := bind_some e2
    obtain ⟨rfl, rfl⟩ := pure_some e4
    exact tD.run S e1 fun v ρ1 B1 H1 g1 S1 r1 => tDA.run S1 e3 fun vs ρ2 B2 H2 g2 S2 r2 => k _ ρ2 B2 H2 (g1.trans g2) S2.wo (RepL.cons (RepV.grow S1.wo.rb g2 _ _ r1) r2)

def lim : Nat := 100000
theorem lim_le : lim ≤ sizeLine := by decide
def guardM (c : Bool) : M Unit := if c then pure () else failure
theorem guardM_some {c : Bool} {hp hp' : Hs} {u : Unit} (h : guardM c hp = some (u, hp')) : c = true ∧ hp = hp' := by
  cases c with
  | true => obtain ⟨_, rfl⟩ := pure_some (show (pure () : M Unit) hp = some (u, hp') from h); exact ⟨rfl, rfl⟩
  | false => cases h
def short (ds : List DV) : Bool := decide (ds.length ≤ lim)
theorem short_ok {ds : List DV} (h : short ds = true) : ds.length ≤ sizeLine := Nat.le_trans (of_decide_eq_true h) lim_le
def eTup (f : DAx) : DEx := fun env => do let xs ← f env; guardM (short xs); pure (.tup xs)
def eLst (f : DAx) : DEx := fun env => do let xs ← f env; guardM (short xs); pure (.lst xs)
/-- a new tuple, a new list that is data -/
theorem fol_tup {K : PySem.W.Frag} {ρ : List Addr} {B : Addr → Prop} {H : Hp} {hp : Hs} {ds : List DV} {xs : List V} {Q : VK} (W : WOk K ρ B hp H) (r : RepL K ρ B H ds xs) (k : Fol K ρ B H (.tup ds) hp Q) : ∀ p, H p = none → Q (.ref p) (upd H p (.tup xs)) := fun p hp' =>
  k _ ρ B _ (Gr.laid hp') (W.laid hp') (rep_tup (fun z => W.bt p z hp') (SqT.of upd_same) (RepL.grow W.rb (Gr.laid hp') _ _ r))
theorem fol_lst {K : PySem.W.Frag} {ρ : List Addr} {B : Addr → Prop} {H : Hp} {hp : Hs} {ds : List DV} {xs : List V} {Q : VK} (W : WOk K ρ B hp H) (r : RepL K ρ B H ds xs) (k : Fol K ρ B H (.lst ds) hp Q) : ∀ p, H p = none → Q (.ref p) (upd H p (.lst xs)) := fun p hp' =>
  k _ ρ B _ (Gr.laid hp') (W.laid hp') (rep_lst (fun z => W.bt p z hp') (SqL.of upd_same) (RepL.grow W.rb (Gr.laid hp') _ _ r))
theorem Fol.after {K : PySem.W.Frag} {ρ ρ1 : List Addr} {B B1 : Addr → Prop} {H H1 : Hp} {hp' : Hs} {d : DV} {Q : VK} (g : Gr K ρ B H ρ1 B1 H1) (k : Fol K ρ B H d hp' Q) : Fol K ρ1 B1 H1 d hp' Q := fun v ρ' B' H' g' W r => k v ρ' B' H' (g.trans g') W r
theorem de_tup {es : List Expr} {f : DAx} {x1} (h : DA X es f) : DE X (.Tuple es x1 pos) (eTup f) :=
  (pe_tup h).imp fun σ H Q ⟨Z, env, ρ, B, hp, d, hp', S, e, k⟩ => by
    obtain ⟨xs, hp1, e1, e2⟩ := bind_some e
    obtain ⟨_, hp2, e3, e4⟩ := bind_some e2
    obtain ⟨hs, rfl⟩ := guardM_some e3
    obtain ⟨rfl, rfl⟩ := pure_some e4
    exact tDA.run S e1 fun vs ρ1 B1 H1 g1 S1 r1 => ⟨by rw [← r1.length]; exact short_ok hs, fol_tup S1.wo r1 (k.after g1)⟩
theorem de_lst {es : List Expr} {f : DAx} (h : DA X es f) : DE X (.List es pos) (eLst f) :=
  (pe_lst h).imp fun σ H Q ⟨Z, env, ρ, B, hp, d, hp', S, e, k⟩ => by
    obtain ⟨xs, hp1, e1, e2⟩ := bind_some e
    obtain ⟨_, hp2, e3, e4⟩ := bind_some e2
    obtain ⟨hs, rfl⟩ := guardM_some e3
    obtain ⟨rfl, rfl⟩ := pure_some e4
    exact tDA.run S e1 fun vs ρ1 B1 H1 g1 S1 r1 => ⟨by rw [← r1.length]; exact short_ok hs, fol_lst S1.wo r1 (k.after g1)⟩
end
end D

/-! ## a list comprehension of one clause: its block is a context of its own -/
namespace L2
open PySem PySem.Spec PyProof.Rows

def cxComp (X : Cx) (scope : Scope) (cl : List (Str × Addr)) (C : Addr) (N : List Str) (s₀ : Shared) (H₀ : Hp) (ex : List Addr) : Cx where
  prog := X.prog
  w := X.w
  K := X.K
  mg := X.mg
  base := X.base
  A := X.A
  N := N
  s₀ := s₀
  H₀ := H₀
  env := compEnvC scope cl C X.env
  outer := X.stack
  stack := X.stack
  ex := ex
  fn := fun _ => false
  calm := X.calm
  pn := []
  xe := fun _ _ => False

def AllP {α : Type} (P : α → Prop) : List α → Prop
  | [] => True
  | x :: r => P x ∧ AllP P r
theorem AllP.mem {α : Type} {P : α → Prop} : ∀ {l : List α} {x : α}, AllP P l → x ∈ l → P x
  | [], _, _, h => nomatch h
  | y :: r, x, ⟨h1, h2⟩, h => (List.mem_cons.mp h).elim (fun e => e ▸ h1) fun e => AllP.mem h2 e
/-- the captured names: N behind its first, with the places that they have outside -/
def Caps (X : Cx) (scope : Scope) (cl : List (Str × Addr)) : List Str → List Nat → Prop
  | [], [] => True
  | y :: ys, i :: is => X.N[i]? = some y ∧ (X.env.kindOf y = some .cell ∨ X.env.kindOf y = some .free) ∧ (∃ c, cl.lookup y = some c) ∧
      (relabel scope X.env).names.lookup y ≠ some .local ∧ Caps X scope cl ys is
  | _, _ => False
theorem Caps.get {X : Cx} {scope : Scope} {cl : List (Str × Addr)} : ∀ {ys : List Str} {is : List Nat} {j : Nat} {y : Str}, Caps X scope cl ys is → ys[j]? = some y →
    ∃ i, is[j]? = some i ∧ X.N[i]? = some y ∧ (X.env.kindOf y = some .cell ∨ X.env.kindOf y = some .free) ∧ (∃ c, cl.lookup y = some c) ∧ (relabel scope X.env).names.lookup y ≠ some .local
  | [], _, _, _, _, h => by simp at h
  | y :: ys, [], _, _, h, _ => by simp [Caps] at h
  | y :: ys, i :: is, 0, z, ⟨h1, h2, h3, h4, _⟩, h => by simp at h; subst h; exact ⟨i, rfl, h1, h2, h3, h4⟩
  | y :: ys, i :: is, j + 1, z, ⟨_, _, _, _, h5⟩, h => by
    obtain ⟨k, a, b⟩ := Caps.get h5 (by simpa using h)
    exact ⟨k, by simpa using a, b⟩
theorem Caps.length {X : Cx} {scope : Scope} {cl : List (Str × Addr)} : ∀ {ys : List Str} {is : List Nat}, Caps X scope cl ys is → ys.length = is.length
  | [], [], _ => rfl
  | [], _ :: _, h => by simp [Caps] at h
  | _ :: _, [], h => by simp [Caps] at h
  | _ :: ys, _ :: is, ⟨_, _, _, _, h⟩ => by simp [Caps.length h]

/-- what a comprehension's scope must be -/
structure CompS (X : Cx) (x : Str) (scope : Scope) (cl : List (Str × Addr)) (caps : List Str) (idx : List Nat) : Prop where
  clos : closureFor scope X.env = pure cl
  cell : ∀ y ∈ scope.names, y.2 ≠ .cell
  kind : scope.kind = .function
  names : ∀ y ∈ scope.names, y.2 = .local → scope.names.lookup y.1 = some .local
  hx : scope.names.lookup x = some .local
  cls : AllP (fun p : Str × Addr => X.env.cells.lookup p.1 = some p.2) cl
  has : ((relabel scope X.env).names.all fun p => !(p.2 == .cell || p.2 == .free) || (cl.lookup p.1).isSome) = true
  cps : Caps X scope cl caps idx
  nd : (x :: caps).Nodup

def cσ (idx : List Nat) (σ : St) (o : Option V) : St := o :: idx.map fun i => (σ[i]?).join

/-- the tests of a clause -/
def PTs (X : Cx) (ifs : List Expr) (t : TT) : Prop :=
  ∀ (pins : List (Addr × Obj)) (s : Shared) (σ : St) (H : Hp) (Q : Bool → Hp → Prop), Inv X pins σ H s → t σ H Q →
    wpAny (model X.prog X.w) X.A (forIn ifs true fun c r => if r = true then do let ok ← isTrue c X.env (eval c X.env); pure (ForInStep.yield ok) else pure (ForInStep.yield r)) (TP X pins σ Q) X.xe s
theorem pts_nil {X : Cx} : PTs X [] (fun _ H Q => Q true H) := fun pins s σ H Q I h => wpAny_tests_nil ⟨H, I, h⟩
section
variable {prog : Program} {w : World} {A : Around} {R : Result → Shared → Prop} {s : Shared}
theorem compLoop_any {elt target iter : Expr} {ifs : List Expr} {scope : Scope} {pos : Pos} {it acc : Value} {env : Env} (I : Nat → Shared → Prop)
    (turn : ∀ n s, I n s → wpAny (model prog w) A (pyNext it) (fun r s₁ => match r with
      | none => R (.ok .next) s₁
      | some v => wpAny (model prog w) A (letOwnedTupleGo target it v) (fun _ s₁' => wpAny (model prog w) A (assign target env v) (fun _ s₂ =>
          wpAny (model prog w) A (forIn ifs true fun c r => if r = true then do let ok ← isTrue c env (eval c env); pure (ForInStep.yield ok) else pure (ForInStep.yield r)) (fun ok s₃ =>
            if ok = true then wpAny (model prog w) A (eval elt env) (fun x s₄ =>
              wpAny (model prog w) A (call (.builtin "list.append") [acc, x]) (fun _ s₅ => ∃ m, m < n ∧ I m s₅) (fun _ _ => False) s₄) (fun _ _ => False) s₃
            else ∃ m, m < n ∧ I m s₃) (fun _ _ => False) s₂) (fun _ _ => False) s₁') (fun _ _ => False) s₁) (fun _ _ => False) s)
    (n : Nat) (h : I n s) :
    codeAny (model prog w) A (.compLoop (.ListComp elt [⟨target, iter, ifs, 0⟩] scope pos) 0 it acc env) R s := by
  refine codeAny_loop rfl I (fun n s hI => ?_) n h
  show wpAny _ A ((compTurn (.ListComp elt [⟨target, iter, ifs, 0⟩] scope pos) 0 it acc env).onRaise (fun x => do noteFrame x env; theTreesLotGoes x)) _ _ s
  refine wpAny_noted ?_
  rw [compTurn_list]
  refine wpAny_bind (wpAny_standAt (wpAny_bind (wpAny_mono (turn n s hI) (fun r s₁ h₁ => ?_) fun _ _ h' => h'.elim)))
  cases r with
  | none => exact wpAny_pure h₁
  | some v =>
    refine wpAny_bind (wpAny_mono h₁ (fun _ s₁' h₁' => ?_) fun _ _ h' => h'.elim)
    refine wpAny_bind (wpAny_mono h₁' (fun _ s₂ h₂ => wpAny_bind (wpAny_mono h₂ (fun ok s₃ h₃ => ?_) fun _ _ h' => h'.elim)) fun _ _ h' => h'.elim)
    cases ok with
    | false => exact wpAny_pure ⟨rfl, h₃⟩
    | true =>
      exact wpAny_bind (wpAny_bind (wpAny_mono h₃ (fun x s₄ h₄ => wpAny_bind (wpAny_mono h₄ (fun _ s₅ h₅ => wpAny_pure (wpAny_pure ⟨rfl, h₅⟩)) fun _ _ h' => h'.elim)) fun _ _ h' => h'.elim))
end

def tComp (K : PySem.W.Frag) (wi : TI) (tt : TT) (te : TE) (idx : List Nat) : TE := fun σ H Q => wi σ H fun J H1 => ∀ D, H1 D = none → K.lookup D = none → ∃ W : Nat → Nat → List V → Hp → Prop, (∃ m, W 0 m [] (upd H1 D (.lst []))) ∧
  ∀ i m ys H, W i m ys H → H D = some (.lst ys) ∧ ((J.stop i H ∧ Q (.ref D) H) ∨ (J.go i H ∧ ∀ x H', J.yld i H x H' → tt (cσ idx σ (some x)) H' fun b H2 =>
    if b = true then te (cσ idx σ (some x)) H2 fun y H3 => H3 D = some (.lst ys) ∧ ys.length < sizeLine ∧ ∃ m', m' < m ∧ W (i + 1) m' (ys ++ [y]) (upd H3 D (.lst (ys ++ [y])))
    else ∃ m', m' < m ∧ W (i + 1) m' ys H2))

section
variable {X : Cx} {elt iter : Expr} {x : Str} {px : Pos} {ifs : List Expr} {scope : Scope} {cl : List (Str × Addr)} {pos : Pos} {caps : List Str} {idx : List Nat} {wi : TI} {tt : TT} {te : TE}

theorem comp_run {E : Value → Shared → Prop} {use : Option (Value → Sem Unit)} {QQ : Value → Shared → Prop} {newpos : Pos} (S : CompS X x scope cl caps idx) (hc : X.calm = true) (hi : PI X (.Name x px) iter wi)
    (ht : ∀ C s₀ H₀ ex, PTs (cxComp X scope cl C (x :: caps) s₀ H₀ ex) ifs tt) (he : ∀ C s₀ H₀ ex, PE (cxComp X scope cl C (x :: caps) s₀ H₀ ex) elt te)
    {pins : List (Addr × Obj)} {s : Shared} {σ : St} {H : Hp} {Q : VK} (I : Inv X pins σ H s) (h : tComp X.K wi tt te idx σ H Q)
    (hE : X.xe = E)
    (hend : ∀ (D C : Addr) (H' : Hp) (s' : Shared) (m : Str → Option Value), Inv X pins σ H' s' → Q (.ref D) H' → s'.heap.Ns C m → H' C = none → C ≠ X.env.locals → X.s₀.heap.objs.size ≤ C → (∀ x c, X.env.cells.lookup x = some c → c ≠ C) → (∀ p ∈ X.pn ++ pins, p.1 ≠ C) →
      compPost (model X.prog X.w) X.A E use QQ (.ref D) C (.ok .next) s')
    (hs : ∀ x, foldedSetIterable iter X.env x = pure x := by intro _; rfl) :
    wpAny (model X.prog X.w) X.A (comprehension (.ListComp elt [⟨.Name x px, iter, ifs, 0⟩] scope pos) scope X.env newpos (newList []) false (eval iter X.env) use) QQ E s := by
  subst hE
  refine wpAny_comprehension_free (use := use) rfl hs S.clos S.kind S.names (thn (hi pins s σ H _ I h) fun xv s1 h1 => thn h1 fun itv s2 h2 => ?_)
  obtain ⟨it, fp, tn, J, H2, rfl, I2, T, st2, f2, hQ⟩ := h2
  refine wpAny_newObj_type (wpAny_newFunctionEnv S.cell (by intro y hy; simp at hy) (fun h₁ hns₁ hsb₁ => ?_) S.kind)
  dsimp only at hns₁ hsb₁ ⊢
  generalize hH2 : s2.heap.push { cls := .type "list", dict := none, data := .seq ([] : List Value).toArray } = hp3 at hns₁ hsb₁ ⊢
  have hC : hp3.objs.size = s2.heap.objs.size + 1 := by rw [← hH2, Heap.size_push]
  have keep3 : ∀ b o, s2.heap.get? b = some o → hp3.get? b = some o := fun b o e => hH2 ▸ Heap.get?_push_of_some _ e
  have hDf : H2 s2.heap.objs.size = none := I2.hok.fresh (Nat.le_refl _)
  have I3 : Inv X pins σ (upd H2 s2.heap.objs.size (.lst [])) { s2 with heap := hp3 } :=
    I2.laid (t' := s2.toks) keep3 (Nat.le_refl _) ⟨Nat.zero_le _, [], _, .nil, hH2 ▸ Heap.get?_push_size _ rfl⟩
  have hDk : X.K.lookup s2.heap.objs.size = none := by
    cases q : X.K.lookup s2.heap.objs.size with
    | none => rfl
    | some o => exact absurd (Heap.lt_size (I2.kIn _ o q)) (Nat.lt_irrefl _)
  obtain ⟨W, ⟨m0, w0⟩, turn⟩ := hQ _ hDf hDk
  generalize hDd : s2.heap.objs.size = D at *
  generalize hCc : hp3.objs.size = C at *
  have ltC : ∀ b o, hp3.get? b = some o → b ≠ C := fun b o e => by rw [← hCc]; exact Nat.ne_of_lt (Heap.lt_size e)
  have keep4 : ∀ b o, hp3.get? b = some o → h₁.get? b = some o := fun b o e => hsb₁.extBut b o (ltC b o e) (Heap.get?_push_of_some _ e)
  have s3sz : ({ s2 with heap := hp3 } : Shared).heap.objs.size = C := hCc
  have clE : ∀ y c, cl.lookup y = some c → X.env.cells.lookup y = some c := fun y c e => S.cls.mem (PySem.mem_of_lookup e)
  have fpLt : ∀ b ∈ fp, ∃ o, s2.heap.get? b = some o := fun b hb => let ⟨o, e, _⟩ := T.obj _ _ st2 b hb; ⟨o, e⟩
  have fpC : ∀ b ∈ fp, b ≠ C := fun b hb => let ⟨o, e⟩ := fpLt b hb; ltC b o (keep3 b o e)
  have fpD : ∀ b ∈ fp, b ≠ D := fun b hb => let ⟨o, e⟩ := fpLt b hb; by rw [← hDd]; exact Nat.ne_of_lt (Heap.lt_size e)
  have fr3 : ∀ b ∈ fp, (upd H2 D (.lst [])) b = none := fun b hb => by rw [upd_ne (fpD b hb)]; exact (f2 b hb).1
  have cellLt : ∀ y c, X.env.cells.lookup y = some c → c ≠ C := fun y c e => let ⟨v, o, ho, _⟩ := I3.cell y c e; ltC c o ho
  have fpStk : ∀ b ∈ fp, b ∉ frs X.stack := fun b hb z => (List.mem_cons.mp (I2.stkSub b z)).elim (f2 b hb).2.1 (f2 b hb).2.2.1
  let X' := cxComp X scope cl C (x :: caps) { s2 with heap := hp3 } (upd H2 D (.lst [])) fp
  have ok' : X'.Ok := by
    refine ⟨I3.ok.mod, by show (relabel scope X.env).kind = _; exact S.kind, I3.ok.glob, I3.ok.blt, by show hp3.objs.size ≤ C; rw [hCc]; exact Nat.le_refl _, fun y z c h1 h2 => I3.ok.inj y z c (clE y c h1) (clE z c h2), fun y hy => ?_,
      fun y c z => (by cases z), I3.ok.hd, I3.ok.frames, .inl rfl, fun b hb => ⟨fpC b hb, fun y c e => (f2 b hb).2.2.2.2.1 y c (clE y c e)⟩, I3.bs, Nat.le_trans I3.ok.bsz I3.sz,
      fun b o e hb => ?_, fun b hb => fpStk b hb, I3.stack, I3.stkFree⟩
    · have hy' : (relabel scope X.env).names.lookup y = some .cell ∨ (relabel scope X.env).names.lookup y = some .free := hy
      have q := S.has
      rw [List.all_eq_true] at q
      have : (cl.lookup y).isSome = true := by
        rcases hy' with z | z
        · have q := q _ (PySem.mem_of_lookup z); simpa using q
        · have q := q _ (PySem.mem_of_lookup z); simpa using q
      exact Option.isSome_iff_exists.mp this
    · have := (f2 b hb).2.2.2.1
      have e3 := (I2.ok.bs b o e).1
      rcases this with z | z
      · exact I2.ok.noex b o e z
      · exact absurd (Nat.lt_of_lt_of_le (Heap.lt_size e3) z) (Nat.lt_irrefl _)
  have capsLen := S.cps.length
  -- a state of the block, from the def's own facts
  have I4 : Inv X' [] (cσ idx σ none) (upd H2 D (.lst [])) { s2 with heap := h₁, toks := s2.toks + ([] : List (Str × Value)).length } := by
    refine ⟨ok', rfl, I3.bare, Un.kept keep4, ⟨_, hns₁, fun i y v e1 e2 e3 => ?_⟩, fun y c e => ?_, ?_, fun y c e => I3.freeC y c (clE y c e), fun p hp => absurd (show p ∈ ([] : List (Addr × Obj)) from hp) (by simp), I3.hok.kept keep4, ?_⟩
    · cases i with
      | zero => exact absurd e2 (by simp [cσ])
      | succ j =>
        obtain ⟨k, h1, h2, h3, ⟨c, h4⟩, h5⟩ := S.cps.get (show caps[j]? = some y by have e1' : (x :: caps)[j + 1]? = some y := e1; simpa using e1')
        have e2' : (σ[k]?).join = some v := by simpa [cσ, h1] using e2
        have e2'' : σ[k]? = some (some v) := by
          cases q : σ[k]? with
          | none => rw [q] at e2'; cases e2'
          | some z => rw [q] at e2'; exact congrArg some e2'
        obtain ⟨mL, hnL, hl⟩ := I3.loc
        have vis : Vis X.env.scope y := by rcases h3 with z | z; exact .inr (.inl z); exact .inr (.inr z)
        obtain ⟨u, r, l⟩ := hl k y v h2 e2'' vis
        refine ⟨u, r, .inr ⟨?_, c, h4, ?_⟩⟩
        · have e3' : (relabel scope X.env).names.lookup y = some .local ∨ (relabel scope X.env).names.lookup y = some .cell ∨ (relabel scope X.env).names.lookup y = some .free := e3
          rcases e3' with z | z | z
          · exact absurd z h5
          · exact .inl z
          · exact .inr z
        · rcases l with ⟨z, _⟩ | ⟨_, c', e, z⟩
          · rcases h3 with q | q <;> · rw [q] at z; cases z
          · rw [clE y c h4] at e; cases e
            obtain ⟨o, ho, hd⟩ := z
            exact ⟨o, keep4 _ _ ho, hd⟩
    · obtain ⟨v, o, ho, hd⟩ := I3.cell y c (clE y c e)
      exact ⟨v, o, keep4 _ _ ho, hd⟩
    · exact I3.hok.fresh (by show hp3.objs.size ≤ C; rw [hCc]; exact Nat.le_refl _)
    · simp [cσ, X', cxComp, capsLen]
  have st4 : tn 0 h₁ := T.keep _ _ _ st2 fun b _ o e => keep4 b o (keep3 b o e)
  have fpX : ∀ {H' : Hp} {pins' : List (Addr × Obj)}, (∀ b ∈ fp, H' b = none) → (pins' = []) → ∀ b ∈ fp, FpOk X' pins' H' b := fun hn e b hb => by
    subst e
    exact ⟨hn b hb, fpC b hb, fpStk b hb, .inl hb, fun y c e => (f2 b hb).2.2.2.2.1 y c (clE y c e), fun p hp => absurd (show p ∈ ([] : List (Addr × Obj)) from hp) (by simp)⟩
  have loop : ∀ s₃ : Shared, s₃ = { s2 with heap := h₁, toks := s2.toks + ([] : List (Str × Value)).length } →
      codeAny (model X.prog X.w) X.A (.compLoop (.ListComp elt [⟨.Name x px, iter, ifs, 0⟩] scope pos) 0 (.ref it) (.ref D) (compEnvC scope cl C X.env)) (compPost (model X.prog X.w) X.A X.xe use QQ (.ref D) C) s₃ := by
    rintro s₃ rfl
    refine compLoop_any (fun n s' => ∃ i o H' ys, Inv X' [] (cσ idx σ o) H' s' ∧ tn i s'.heap ∧ (∀ b ∈ fp, H' b = none) ∧ W i n ys H') ?_ m0 ⟨0, none, _, [], I4, st4, fr3, w0⟩
    rintro n s5 ⟨i, o, H5, ys, I5, st5, fr5, w5⟩
    obtain ⟨hD, tw⟩ := turn i n ys H5 w5
    rcases tw with ⟨stop, q⟩ | ⟨go, step⟩
    · refine thn (T.done X' rfl rfl rfl hc i [] s5 _ H5 _ I5 (fpX fr5 rfl) st5 stop) fun r s6 ⟨hr, I6⟩ => ?_
      subst hr
      obtain ⟨m6, hn6, _⟩ := I6.loc
      have I7 : Inv X pins σ H5 s6 := I3.call' (s' := s6) (ch := fp) I6.os I6.base I6.hok I6.bare fun b hb => ⟨(f2 b hb).2.2.2.1, (f2 b hb).2.1, (f2 b hb).2.2.2.2.1, (f2 b hb).2.2.2.2.2⟩
      refine hend D C H5 s6 m6 I7 q hn6 I6.free ?_ ?_ cellLt fun p hp => ?_
      · rw [← hCc]; exact Nat.ne_of_gt I3.lt
      · rw [← hCc]; exact I3.sz
      · exact ltC p.1 p.2 (I3.pin p hp).1
    · refine thn (T.item X' rfl rfl rfl hc i [] s5 _ H5 _ I5 (fpX fr5 rfl) st5 go) fun r s6 ⟨u, hr, h6⟩ => ?_
      subst hr
      refine thn h6 fun _ s7 ⟨y, H7, I7, r7, y7, st7, fr7⟩ => ?_
      have I7' := I7.pinned (fpX fr7 rfl) (T.obj _ _ st7)
      refine thn (pg_name (X := X') (i := 0) S.nd rfl (.inl (lookup_relabel_local S.hx)) (.inr (lookup_relabel_local S.hx)) _ s7 _ H7 y u (fun σ' H' => σ' = cσ idx σ (some y) ∧ H' = H7) I7' r7 ⟨rfl, rfl⟩) fun _ s8 ⟨σ8, H8, I8, e8, e8'⟩ => ?_
      subst e8
      subst e8'
      have again : ∀ {H9 : Hp} {s9 : Shared} {ys' : List V}, Inv X' ([] ++ pinsAt fp s7.heap) (cσ idx σ (some y)) H9 s9 → (∃ m', m' < n ∧ W (i + 1) m' ys' H9) →
          ∃ m, m < n ∧ ∃ i o H' ys, Inv X' [] (cσ idx σ o) H' s9 ∧ tn i s9.heap ∧ (∀ b ∈ fp, H' b = none) ∧ W i m ys H' := fun {H9 s9 ys'} I9 ⟨m', hm, w9⟩ => by
        refine ⟨m', hm, i + 1, some y, H9, ys', I9.unpinned, T.keep _ _ _ st7 fun b hb o e => (I9.pin (b, o) (List.mem_append_right _ (List.mem_append_right _ (mem_pinsAt hb e)))).1, fun b hb => ?_, w9⟩
        obtain ⟨o, e, d⟩ := T.obj _ _ st7 b hb
        exact (I9.pin (b, o) (List.mem_append_right _ (List.mem_append_right _ (mem_pinsAt hb e)))).2.1
      refine thn (ht _ _ _ _ _ s8 _ H8 _ I8 (step y H8 y7)) fun ok s9 ⟨H9, I9, q9⟩ => ?_
      cases ok with
      | false => exact again I9 (by rw [if_neg Bool.false_ne_true] at q9; exact q9)
      | true =>
        rw [if_pos rfl] at q9 ⊢
        refine thn (he _ _ _ _ _ s9 _ H9 _ I9 q9) fun v s10 ⟨z, H10, I10, r10, hD10, hlen, m', hm, w10⟩ => ?_
        refine thn (mt_append (X := X') _ s10 _ H10 (.ref D) [z] (.ref D) [v] (fun _ H' => H' = upd H10 D (.lst (ys ++ [z]))) I10 rfl (.cons r10 .nil) ⟨D, ys, z, rfl, rfl, hD10, hlen, rfl⟩) fun _ s11 ⟨_, H11, I11, _, e11⟩ => ?_
        subst e11
        exact again I11 ⟨m', hm, w10⟩
  exact codeAny_compStart_list (loop _ rfl) (T.self X.A 0 _ _ _ st4 (loop _ rfl))
end
end L2
namespace L2
open PySem PySem.Spec PyProof.Rows
section
variable {X : Cx} {elt iter : Expr} {x : Str} {px : Pos} {ifs : List Expr} {scope : Scope} {cl : List (Str × Addr)} {pos : Pos} {caps : List Str} {idx : List Nat} {wi : TI} {tt : TT} {te : TE}
/-- y = [..] where the comprehension's names are let go behind the store -/
theorem ps_comp {i : Nat} {y : Str} {py spos : Pos} (S : CompS X x scope cl caps idx) (hc : X.calm = true) (hi : PI X (.Name x px) iter wi)
    (ht : ∀ C s₀ H₀ ex, PTs (cxComp X scope cl C (x :: caps) s₀ H₀ ex) ifs tt) (he : ∀ C s₀ H₀ ex, PE (cxComp X scope cl C (x :: caps) s₀ H₀ ex) elt te)
    (hN : X.N.Nodup) (hy : X.N[i]? = some y) (hx : Loc X.env.scope y) (hsw : swapsWith (.ListComp elt [⟨.Name x px, iter, ifs, 0⟩] scope pos) (some (.Name y py)) spos.line X.env = pure true)
    (hf : X.fn y = true ∨ X.env.scope.names.lookup y = some .local := by first | exact .inl rfl | exact .inr rfl | assumption)
    (hs : ∀ x, foldedSetIterable iter X.env x = pure x := by intro _; rfl) : PS X (.Assign [.Name y py] (.ListComp elt [⟨.Name x px, iter, ifs, 0⟩] scope pos) spos) (tAsg (tComp X.K wi tt te idx) (gName i)) := by
  intro pins s σ H D I h
  rw [exec_Assign_Name_used _ _ _ _ hsw]
  refine wpAny_bind (wpAny_standAt (wpAny_bind ?_))
  show wpAny _ X.A (do let _ ← comprehension (.ListComp elt [⟨.Name x px, iter, ifs, 0⟩] scope pos) scope X.env _ (newList []) false (eval iter X.env) (some (assign (.Name y py) X.env))) _ _ s
  refine wpAny_bind (wpAny_mono (comp_run (use := some (assign (.Name y py) X.env)) (QQ := fun _ s' => SP X pins D .next s') S hc hi ht he I h rfl (fun Da C H' s' m I' q hn hC h1 h2 h3 h4 => ?_) hs) (fun _ s' hq => wpAny_pure (wpAny_pure hq)) fun _ _ e => e)
  show wpAny _ X.A (assign (.Name y py) X.env (.ref Da)) (fun _ s'' => ∃ m, s''.heap.Ns C m ∧ ∀ h', Heap.SameBut C s''.heap h' → SP X pins D .next { s'' with heap := h' }) _ s'
  refine wpAny_assign_Name (store_ok2 I' hN hy hx (v := .ref Da) rfl (fun s'' I'' ⟨a, hs, ha⟩ => ?_) hf)
  refine ⟨m, hn.sameBut hs ?_, fun h' hs' => ⟨_, H', I''.turned (t' := s''.toks) (fun b o hb e => hs'.extBut b o hb e) hC h1 (.inr h2) h3 h4, q⟩⟩
  rcases ha with rfl | ha
  · exact h1
  · exact Ne.symm (h3 _ _ ha)
end
end L2

namespace D
open PySem PySem.Spec PyProof.Rows L2
section
variable {K : PySem.W.Frag} {Z : Ent} {env : En} {σ : St} {ρ ρ' : List Addr} {B B' : Addr → Prop} {hp hp' : Hs} {H H' : Hp}

/-- a slot is given a value -/
theorem SOk.set {i : Nat} {d : DV} {v : V} (S : SOk K Z env σ ρ B hp H) (r : RepV K ρ B H d v) : SOk K Z (env.set i (.val d)) (σ.set i (some v)) ρ B hp H where
  gr := S.gr
  zb := S.zb
  wo := S.wo
  slot := fun j e h => by
    by_cases hj : j = i
    · subst hj
      have hl : j < env.length := by have := (List.getElem?_eq_some_iff.mp h).1; simpa using this
      rw [List.getElem?_set_self hl] at h; cases h
      exact ⟨v, List.getElem?_set_self (by rw [S.len]; exact hl), r⟩
    · rw [List.getElem?_set_ne (Ne.symm hj)] at h ⊢
      exact S.slot j e h
  accs := fun j ds h => by
    by_cases hj : j = i
    · subst hj
      have hl : j < env.length := by have := (List.getElem?_eq_some_iff.mp h).1; simpa using this
      rw [List.getElem?_set_self hl] at h; cases h
    · rw [List.getElem?_set_ne (Ne.symm hj)] at h ⊢
      exact S.accs j ds h
  adis := fun j k ds es a h1 h2 h3 h4 => by
    have nj : ∀ {j : Nat} {ds : List DV}, (env.set i (.val d))[j]? = some (.acc ds) → j ≠ i := fun {j ds} h e => by
      subst e
      have hl : j < env.length := by have := (List.getElem?_eq_some_iff.mp h).1; simpa using this
      rw [List.getElem?_set_self hl] at h; cases h
    have hj := nj h1
    have hk := nj h2
    rw [List.getElem?_set_ne (Ne.symm hj)] at h1 h3
    rw [List.getElem?_set_ne (Ne.symm hk)] at h2 h4
    exact S.adis j k ds es a h1 h2 h3 h4
  len := by simp [S.len]
end
section
variable {X : Cx} {e a b c : Expr} {f fa fb : DEx} {ca cb : DTx} {pos : Pos} {st : Stmt} {sts rest : List Stmt} {s s' : DSx}

theorem FolS.after {K : PySem.W.Frag} {Z : Ent} {ρ ρ1 : List Addr} {B B1 : Addr → Prop} {H H1 : Hp} {fl : Fl} {env' : En} {hp' : Hs} {D : Ends} (g : Gs K ρ B H ρ1 B1 H1) (k : FolS K Z ρ B H fl env' hp' D) : FolS K Z ρ1 B1 H1 fl env' hp' D :=
  fun σ' ρ' B' H' g' S => k σ' ρ' B' H' (g.trans g') S

/-! ### statements -/
def sNil : DSx := fun env => pure (.nx, env)
def sSeq (f g : DSx) : DSx := fun env => do
  let r ← f env
  match r.1 with
  | .nx => g r.2
  | _ => pure r
def sIf (c : DTx) (f g : DSx) : DSx := fun env => do if ← c env then f env else g env
def sRet (f : DEx) : DSx := fun env => do let d ← f env; pure (.rt d, env)
def sRetN : DSx := fun env => pure (.rt .non, env)
def sDrop (f : DEx) : DSx := fun env => do let _ ← f env; pure (.nx, env)
def sSet (i : Nat) (f : DEx) : DSx := fun env => do let d ← f env; pure (.nx, env.set i (.val d))
theorem dss_nil : DSs X [] sNil := pss_nil.imp fun D σ H ⟨Z, env, ρ, B, hp, fl, env', hp', S, e, k⟩ => by
  obtain ⟨e1, rfl⟩ := pure_some e
  cases e1
  exact k σ ρ B H Gs.refl S
theorem sSeq_imp {K : PySem.W.Frag} {D : Ends} {σ : St} {H : Hp} (h : tDS K (sSeq s s') D σ H) : tSeq (tDS K s) (tDS K s') D σ H := by
  obtain ⟨Z, env, ρ, B, hp, fl, env', hp', S, e, k⟩ := h
  obtain ⟨⟨f1, env1⟩, hp1, e1, e2⟩ := bind_some e
  refine ⟨Z, env, ρ, B, hp, f1, env1, hp1, S, e1, fun σ' ρ' B' H' g S' => ?_⟩
  cases f1 with
  | nx => exact ⟨Z, env1, ρ', B', hp1, fl, env', hp', S', e2, k.after g⟩
  | rt d => obtain ⟨z, rfl⟩ := pure_some e2; cases z; exact k σ' ρ' B' H' g S'
  | bk => obtain ⟨z, rfl⟩ := pure_some e2; cases z; exact k σ' ρ' B' H' g S'
  | ct => obtain ⟨z, rfl⟩ := pure_some e2; cases z; exact k σ' ρ' B' H' g S'
theorem dss_cons (h1 : DS X st s) (h2 : DSs X rest s') : DSs X (st :: rest) (sSeq s s') := (pss_cons h1 h2).imp fun _ _ _ h => sSeq_imp h
theorem dss_one (h1 : DS X st s) : DSs X [st] s := pss_one h1
theorem ds_if {x y : List Stmt} (hc : DT X c ca) (h1 : DSs X x s) (h2 : DSs X y s') : DS X (.If c x y pos) (sIf ca s s') :=
  (ps_if hc h1 h2).imp fun D σ H ⟨Z, env, ρ, B, hp, fl, env', hp', S, e, k⟩ => by
    obtain ⟨x, hp1, e1, e2⟩ := bind_some e
    refine tDT.run S e1 fun ρ1 B1 H1 g1 S1 => ?_
    cases x with
    | true => exact iteT ⟨Z, env, ρ1, B1, hp1, fl, env', hp', S1, e2, k.after (g1.gs S.wo.rb)⟩
    | false => exact iteF ⟨Z, env, ρ1, B1, hp1, fl, env', hp', S1, e2, k.after (g1.gs S.wo.rb)⟩
theorem ds_ret (h : DE X e f) : DS X (.Return (some e) pos) (sRet f) :=
  (ps_ret h).imp fun D σ H ⟨Z, env, ρ, B, hp, fl, env', hp', S, e, k⟩ => by
    obtain ⟨d, hp1, e1, e2⟩ := bind_some e
    obtain ⟨z, rfl⟩ := pure_some e2; cases z
    exact tD.run S e1 fun v ρ1 B1 H1 g1 S1 r1 => k σ ρ1 B1 H1 (g1.gs S.wo.rb) S1 v r1
theorem ds_expr (h : DE X e f) (hs : swapsWith e none pos.line X.env = pure false := by rfl) : DS X (.Expr e pos) (sDrop f) :=
  (ps_expr h hs).imp fun D σ H ⟨Z, env, ρ, B, hp, fl, env', hp', S, e, k⟩ => by
    obtain ⟨d, hp1, e1, e2⟩ := bind_some e
    obtain ⟨z, rfl⟩ := pure_some e2; cases z
    exact tD.run S e1 fun v ρ1 B1 H1 g1 S1 r1 => k σ ρ1 B1 H1 (g1.gs S.wo.rb) S1
theorem sSet_imp {K : PySem.W.Frag} {D : Ends} {σ : St} {H : Hp} {i : Nat} {t : TE} (ht : ∀ σ H Q, tD K f σ H Q → t σ H Q) (h : tDS K (sSet i f) D σ H) : tAsg t (gName i) D σ H := by
  obtain ⟨Z, env, ρ, B, hp, fl, env', hp', S, e, k⟩ := h
  obtain ⟨d, hp1, e1, e2⟩ := bind_some e
  obtain ⟨z, rfl⟩ := pure_some e2; cases z
  exact ht _ _ _ (tD.run S e1 fun v ρ1 B1 H1 g1 S1 r1 => k _ ρ1 B1 H1 (g1.gs S.wo.rb) (S1.set r1))
theorem ds_set (i : Nat) {x : Str} {pos' : Pos} (hN : X.N.Nodup) (he : DE X e f) (hi : X.N[i]? = some x := by rfl) (hx : Loc X.env.scope x := by first | exact Or.inl rfl | exact Or.inr rfl) (hs : swapsWith e (some (.Name x pos')) pos.line X.env = pure false := by rfl)
    (hf : X.fn x = true ∨ X.env.scope.names.lookup x = some .local := by first | exact .inl rfl | exact .inr rfl | assumption) : DS X (.Assign [.Name x pos'] e pos) (sSet i f) :=
  (ps_set hN hi hx he hs hf).imp fun _ _ _ h => sSet_imp (fun _ _ _ q => q) h

/-! ### targets -/
abbrev DGx := DV → En → M En
def tDG (K : PySem.W.Frag) (g : DGx) : TG := fun v σ H Q => ∃ Z env ρ B hp d env' hp', SOk K Z env σ ρ B hp H ∧ RepV K ρ B H d v ∧ g d env hp = some (env', hp') ∧ ∀ σ' ρ' B' H', Gs K ρ B H ρ' B' H' → SOk K Z env' σ' ρ' B' hp' H' → Q σ' H'
def gN (i : Nat) : DGx := fun d env => pure (env.set i (.val d))
theorem dg_name (i : Nat) {x : Str} (hN : X.N.Nodup) (hi : X.N[i]? = some x := by rfl) (hx : Loc X.env.scope x := by first | exact Or.inl rfl | exact Or.inr rfl) (hf : X.fn x = true ∨ X.env.scope.names.lookup x = some .local := by first | exact .inl rfl | exact .inr rfl | assumption) : PG X (.Name x pos) (tDG X.K (gN i)) := by
  intro pins s σ H v u Q I r h
  refine pg_name hN hi hx hf pins s σ H v u Q I r ?_
  obtain ⟨Z, env, ρ, B, hp, d, env', hp', S, rd, e, k⟩ := h
  obtain ⟨rfl, rfl⟩ := pure_some e
  exact k _ ρ B H Gs.refl (S.set rd)

/-! ### what is walked -/
/-- J yields these, one by one, whatever is done meanwhile -/
def ItOk (K : PySem.W.Frag) (ρ : List Addr) (B : Addr → Prop) (H : Hp) (ds : List DV) (J : It) : Prop :=
  ∀ ρ1 B1 H1, Gs K ρ B H ρ1 B1 H1 → (∀ b ∈ ρ1, B1 b) → (∀ a, B1 a → H1 a ≠ none) → (∀ (i : Nat) (d : DV), ds[i]? = some d → J.go i H1 ∧ ∀ x H', J.yld i H1 x H' → RepV K ρ1 B1 H' d x ∧ (H' = H1 ∨ ∃ p o, H1 p = none ∧ H' = upd H1 p o)) ∧ J.stop ds.length H1
abbrev DIx := En → M (List DV)
def tDI (K : PySem.W.Frag) (f : DIx) : TI := fun σ H R => ∃ Z env ρ B hp ds hp', SOk K Z env σ ρ B hp H ∧ f env hp = some (ds, hp') ∧ ∀ J ρ' B' H', Gr K ρ B H ρ' B' H' → WOk K ρ' B' hp' H' → ItOk K ρ' B' H' ds J → R J H'
def DI (X : Cx) (tg iter : Expr) (f : DIx) : Prop := PI X tg iter (tDI X.K f)

def tupD : DV → M (List DV)
  | .tup ds => pure ds
  | _ => failure
theorem tupD_some {d : DV} {ds : List DV} {hp hp' : Hs} (h : tupD d hp = some (ds, hp')) : d = .tup ds ∧ hp = hp' := by
  cases d with
  | tup xs => obtain ⟨rfl, rfl⟩ := pure_some h; exact ⟨rfl, rfl⟩
  | _ => cases h
theorem SqL.uniq {K : PySem.W.Frag} {H : Hp} {a : Addr} {xs ys : List V} (kf : KFree K H) (h : SqL K H a xs) (h' : SqL K H a ys) : xs = ys := by
  rcases h with (h | ⟨o, h⟩) | ⟨o, its, n, h, _, _, hd, _, hv⟩
  · rcases h' with (h' | ⟨o', h'⟩) | ⟨o', _, _, h', _⟩
    · rw [h] at h'; cases h'; rfl
    · rw [h] at h'; cases h'
    · rw [kf _ _ h] at h'; cases h'
  · rcases h' with (h' | ⟨o', h'⟩) | ⟨o', _, _, h', _⟩
    · rw [h] at h'; cases h'
    · rw [h] at h'; cases h'; rfl
    · rw [kf _ _ h] at h'; cases h'
  · rcases h' with (h' | ⟨o', h'⟩) | ⟨o', its', n', h', _, _, hd', _, hv'⟩
    · rw [kf _ _ h'] at h; cases h
    · rw [kf _ _ h'] at h; cases h
    · rw [h] at h'; cases h'
      rw [hd] at hd'; injection hd' with e1 _
      subst e1
      exact hv.inj hv'
theorem it_list {K : PySem.W.Frag} {ρ : List Addr} {B : Addr → Prop} {H : Hp} {ds : List DV} {a : Addr} {xs : List V} (nb : ¬ B a) (sq : SqL K H a xs) (rl : RepL K ρ B H ds xs) : ItOk K ρ B H ds (Itl K a) := fun ρ1 B1 H1 g _ _ => by
  have sq1 := g.sqL nb sq
  have rl1 := RepL.gs g _ _ rl
  refine ⟨fun i d e => ?_, xs, sq1, by rw [rl1.length]; exact Nat.le_refl _⟩
  obtain ⟨x, hx, r⟩ := rl1.get e
  refine ⟨⟨xs, x, sq1, hx⟩, fun y H' ⟨e', q⟩ => ?_⟩
  subst e'
  have := q xs sq1
  rw [hx] at this; cases this
  exact ⟨r, .inl rfl⟩
def rangeL (lo : Int) (n : Nat) : List DV := (List.range n).map fun (i : Nat) => .int (lo + (i : Int))
theorem it_range {K : PySem.W.Frag} {ρ : List Addr} {B : Addr → Prop} {H : Hp} {lo : Int} {n : Nat} : ItOk K ρ B H (rangeL lo n) (Itr lo n) := fun ρ1 B1 H1 g _ _ => by
  refine ⟨fun i d e => ?_, by show n ≤ _; simp [rangeL]⟩
  have hi : i < n := by have := (List.getElem?_eq_some_iff.mp e).1; simpa [rangeL] using this
  refine ⟨hi, fun y H' ⟨e', q⟩ => ?_⟩
  subst e' q
  have : d = .int (lo + i) := by simp [rangeL, hi] at e; exact e.symm
  subst this
  exact ⟨rep_int, .inl rfl⟩
variable {tg iter : Expr}
theorem _root_.L2.PI.imp {wi wi' : TI} (h : PI X tg iter wi) (i : ∀ σ H R, wi' σ H R → wi σ H R) : PI X tg iter wi' := fun pins s σ H R I q => h pins s σ H R I (i σ H R q)
def smallI (j : Int) : Bool := decide (-(2 ^ 62) ≤ j ∧ j < 2 ^ 62)
def rng1 : List DV → M (List DV)
  | [.int j] => do guardM (smallI j); pure (rangeL 0 j.toNat)
  | _ => failure
def iRg1 (f : DAx) : DIx := fun env => do rng1 (← f env)
theorem rng1_some {ds out : List DV} {hp hp' : Hs} (h : rng1 ds hp = some (out, hp')) : ∃ j : Int, ds = [.int j] ∧ smallI j = true ∧ out = rangeL 0 j.toNat ∧ hp = hp' := by
  unfold rng1 at h
  split at h
  · obtain ⟨u, hp1, e1, e2⟩ := bind_some h
    obtain ⟨h1, rfl⟩ := guardM_some e1
    obtain ⟨rfl, rfl⟩ := pure_some e2
    exact ⟨_, rfl, h1, rfl, rfl⟩
  · cases h
theorem RepL.ints1 {K : PySem.W.Frag} {ρ : List Addr} {B : Addr → Prop} {H : Hp} {j : Int} {vs : List V} (h : RepL K ρ B H [.int j] vs) : vs = [.int j] := by
  unfold RepL at h
  obtain ⟨x, r, rfl, h1, h2⟩ := h
  unfold RepL at h2
  rw [h1.intI, h2]
theorem di_range1 {x : Expr} {p : Pos} {f : DAx} (hg : Gl X "range") (hm : X.mg "range" = none) (ha : DA X [x] f) (hs : starEach [x] X.env = [(false, eval x X.env)] := by rfl) : DI X tg (.Call (.Name "range" p) [x] [] pos) (iRg1 f) :=
  (pi_range1 hg hm ha hs).imp fun σ H R ⟨Z, env, ρ, B, hp, ds, hp', S, e, k⟩ => by
    obtain ⟨d, hp1, e1, e2⟩ := bind_some e
    obtain ⟨j, rfl, h1, rfl, rfl⟩ := rng1_some e2
    refine tDA.run S e1 fun vs ρ1 B1 H1 g1 S1 r1 => ?_
    have h1' := of_decide_eq_true h1
    exact ⟨j, r1.ints1, h1'.1, h1'.2, k _ ρ1 B1 H1 g1 S1.wo it_range⟩
/-! ### for -/
def forL (b : DV → DSx) : List DV → DSx
  | [], env => pure (.nx, env)
  | d :: ds, env => do
    let r ← b d env
    match r.1 with
    | .nx => forL b ds r.2
    | .ct => forL b ds r.2
    | .bk => pure (.nx, r.2)
    | .rt x => pure (.rt x, r.2)
def sFor (f : DIx) (g : DGx) (body : DSx) : DSx := fun env => do let ds ← f env; forL (fun d env => do let env' ← g d env; body env') ds env
theorem upd_gs {K : PySem.W.Frag} {ρ : List Addr} {B : Addr → Prop} {H : Hp} {p : Addr} {o : HO} (rb : ∀ a ∈ ρ, B a) (h : H p = none) : Gs K ρ B H ρ B (upd H p o) := (Gr.laid h).gs rb
theorem ds_for {body : List Stmt} {fi : DIx} {g : DGx} {sb : DSx} (hp : PassesOwn (model X.prog X.w) X.A X.env X.xe) (hc : X.calm = true) (hi : DI X tg iter fi) (hg : PG X tg (tDG X.K g)) (hb : DSs X body sb)
    (hs : ∀ x, foldedSetIterable iter X.env x = pure x := by intro _; rfl) : DS X (.For tg iter body [] pos) (sFor fi g sb) :=
  (ps_for hp hc hi hg hb hs).imp fun D σ H ⟨Z, env, ρ, B, hp, fl, env', hp', S, e, k⟩ => by
    obtain ⟨ds, hp1, e1, e2⟩ := bind_some e
    refine ⟨Z, env, ρ, B, hp, ds, hp1, S, e1, fun J ρ1 B1 H1 g1 W1 it => ?_⟩
    have k1 := k.after (g1.gs S.wo.rb)
    refine ⟨fun i m σ H => m = ds.length - i ∧ i ≤ ds.length ∧ ∃ env ρ B hp, SOk X.K Z env σ ρ B hp H ∧ Gs X.K ρ1 B1 H1 ρ B H ∧ forL (fun d env => do let env' ← g d env; sb env') (ds.drop i) env hp = some ((fl, env'), hp'),
      ⟨ds.length, rfl, Nat.zero_le _, env, ρ1, B1, hp1, S.grow g1 W1, Gs.refl, by simpa using e2⟩, ?_⟩
    rintro i m σ H ⟨rfl, hi, env2, ρ2, B2, hp2, S2, g2, e3⟩
    obtain ⟨itg, its⟩ := it ρ2 B2 H g2 S2.wo.rb S2.wo.bt
    by_cases hlt : i < ds.length
    · have hd : ds[i]? = some ds[i] := List.getElem?_eq_getElem hlt
      obtain ⟨go, yl⟩ := itg i _ hd
      rw [List.drop_eq_getElem_cons hlt] at e3
      obtain ⟨⟨f1, env4⟩, hp4, e4, e5⟩ := bind_some e3
      obtain ⟨env3, hp3, e6, e7⟩ := bind_some e4
      refine .inr ⟨go, fun σ' H' => ∃ env ρ B hp, SOk X.K Z env σ' ρ B hp H' ∧ Gs X.K ρ1 B1 H1 ρ B H' ∧ forL (fun d env => do let env' ← g d env; sb env') (ds.drop (i + 1)) env hp = some ((fl, env'), hp'),
        fun σ' H' q => ⟨ds.length - (i + 1), by omega, rfl, hlt, q⟩, fun x H' y => ?_⟩
      obtain ⟨rx, hx⟩ := yl x H' y
      have S3 : SOk X.K Z env2 σ ρ2 B2 hp2 H' ∧ Gs X.K ρ2 B2 H ρ2 B2 H' := by
        rcases hx with rfl | ⟨p, o, hn, rfl⟩
        · exact ⟨S2, Gs.refl⟩
        · exact ⟨S2.grow (Gr.laid hn) (S2.wo.laid hn), upd_gs S2.wo.rb hn⟩
      refine ⟨Z, env2, ρ2, B2, hp2, ds[i], env3, hp3, S3.1, rx, e6, fun σ5 ρ5 B5 H5 g5 S5 => ⟨Z, env3, ρ5, B5, hp3, f1, env4, hp4, S5, e7, fun σ6 ρ6 B6 H6 g6 S6 => ?_⟩⟩
      have G6 := g2.trans (S3.2.trans (g5.trans g6))
      cases f1 with
      | nx => exact ⟨env4, ρ6, B6, hp4, S6, G6, e5⟩
      | ct => exact ⟨env4, ρ6, B6, hp4, S6, G6, e5⟩
      | bk => obtain ⟨z, rfl⟩ := pure_some e5; cases z; exact k1 σ6 ρ6 B6 H6 G6 S6
      | rt d => obtain ⟨z, rfl⟩ := pure_some e5; cases z; exact k1 σ6 ρ6 B6 H6 G6 S6
    · have e : i = ds.length := by omega
      subst e
      rw [List.drop_length] at e3
      obtain ⟨z, rfl⟩ := pure_some e3; cases z
      exact .inl ⟨its, k1 σ ρ2 B2 H g2 S2⟩

end
end D

namespace D
open PySem PySem.Spec PyProof.Rows L2
section
variable {K : PySem.W.Frag} {Z : Ent} {env : En} {σ : St} {ρ ρ' : List Addr} {B B' : Addr → Prop} {hp hp' : Hs} {H H' : Hp}
/-! ### a local list that grows (acc) -/
def banP (B : Addr → Prop) (p : Addr) : Addr → Prop := fun a => B a ∨ a = p
/-- a new banned thing -/
theorem Gr.banned {p : Addr} {o : HO} (h : H p = none) (kf : K.lookup p = none) : Gr K ρ B H ρ (banP B p) (upd H p o) where
  pre := List.prefix_rfl
  ban := fun _ h => .inl h
  new := fun a z => z.elim .inl fun e => .inr (e ▸ ⟨h, kf⟩)
  rnew := fun _ h => .inl h
  keep := fun a u _ q => by rw [upd_ne (ne_of_none q h)]; exact q
  trk := (Gr.laid (K := K) (ρ := ρ) (B := B) h).trk
theorem WOk.banned {p : Addr} {o : HO} (W : WOk K ρ B hp H) (h : H p = none) (kf : K.lookup p = none) : WOk K ρ (banP B p) hp (upd H p o) where
  len := W.len
  nd := W.nd
  obj := fun i a u e q => ORep.gs ((Gr.banned h kf).gs W.rb) (upd_ne (fun z => W.bt a (W.rb a (List.mem_of_getElem? e)) (z ▸ h))) (W.obj i a u e q)
  rb := fun a h => .inl (W.rb a h)
  bt := fun a z q => by
    have q' := (Gr.laid (K := K) (ρ := ρ) (B := B) h).trk a q
    rcases z with z | rfl
    · exact W.bt a z q'
    · rw [upd_same] at q; cases q
  bk := fun a z => z.elim (W.bk a) fun e => e ▸ kf
theorem SOk.newAcc {i : Nat} {p : Addr} {ds : List DV} {xs : List V} (S : SOk K Z env σ ρ B hp H) (h : H p = none) (kf : K.lookup p = none) (r : RepL K ρ B H ds xs) : SOk K Z (env.set i (.acc ds)) (σ.set i (some (.ref p))) ρ (banP B p) hp (upd H p (.lst xs)) := by
  have g : Gr K ρ B H ρ (banP B p) (upd H p (.lst xs)) := Gr.banned h kf
  have W := S.wo.banned (o := .lst xs) h kf
  have S1 := S.grow g W
  have np : p ∉ ρ := fun z => S.wo.bt p (S.wo.rb p z) h
  refine ⟨S1.gr, S.zb, W, fun j e q => ?_, fun j es q => ?_, fun j k es es' a h1 h2 h3 h4 => ?_, by simp [S.len]⟩
  · by_cases hj : j = i
    · subst hj
      have hl : j < env.length := by have := (List.getElem?_eq_some_iff.mp q).1; simpa using this
      rw [List.getElem?_set_self hl] at q; cases q
    · rw [List.getElem?_set_ne (Ne.symm hj)] at q ⊢
      exact S1.slot j e q
  · by_cases hj : j = i
    · subst hj
      have hl : j < env.length := by have := (List.getElem?_eq_some_iff.mp q).1; simpa using this
      rw [List.getElem?_set_self hl] at q; cases q
      exact ⟨p, xs, List.getElem?_set_self (by rw [S.len]; exact hl), upd_same, S.gr.trk p h, .inr rfl, np, RepL.grow S.wo.rb g _ _ r⟩
    · rw [List.getElem?_set_ne (Ne.symm hj)] at q ⊢
      exact S1.accs j es q
  · have at_i : ∀ {j : Nat} {es : List DV}, (env.set i (.acc ds))[j]? = some (.acc es) → j = i ∨ (j ≠ i ∧ env[j]? = some (.acc es)) := fun {j es} q => by
      by_cases hj : j = i
      · exact .inl hj
      · rw [List.getElem?_set_ne (Ne.symm hj)] at q; exact .inr ⟨hj, q⟩
    have ne_p : ∀ {j : Nat} {es : List DV}, j ≠ i → env[j]? = some (.acc es) → (σ.set i (some (.ref p)))[j]? = some (some (.ref a)) → a ≠ p := fun {j es} hj q z => by
      rw [List.getElem?_set_ne (Ne.symm hj)] at z
      obtain ⟨a', xs', e1, e2, _⟩ := S.accs j es q
      rw [z] at e1; cases e1
      exact ne_of_none e2 h
    have is_p : ∀ {j : Nat} {es : List DV}, j = i → (env.set i (.acc ds))[j]? = some (.acc es) → (σ.set i (some (.ref p)))[j]? = some (some (.ref a)) → a = p := fun {j es} e q z => by
      subst e
      have hl : j < env.length := by have := (List.getElem?_eq_some_iff.mp q).1; simpa using this
      rw [List.getElem?_set_self (by rw [S.len]; exact hl)] at z; cases z; rfl
    rcases at_i h1 with e1 | ⟨e1, q1⟩ <;> rcases at_i h2 with e2 | ⟨e2, q2⟩
    · rw [e1, e2]
    · exact absurd (is_p e1 h1 h3) (ne_p e2 q2 h4)
    · exact absurd (is_p e2 h2 h4) (ne_p e1 q1 h3)
    · rw [List.getElem?_set_ne (Ne.symm e1)] at h3
      rw [List.getElem?_set_ne (Ne.symm e2)] at h4
      exact S.adis j k es es' a q1 q2 h3 h4
/-- an acc is written -/
theorem SOk.setAcc {i : Nat} {a : Addr} {ds ds' : List DV} {xs' : List V} (S : SOk K Z env σ ρ B hp H) (he : env[i]? = some (.acc ds)) (hσ : σ[i]? = some (some (.ref a))) (r : RepL K ρ B H ds' xs') :
    Gs K ρ B H ρ B (upd H a (.lst xs')) ∧ SOk K Z (env.set i (.acc ds')) σ ρ B hp (upd H a (.lst xs')) := by
  obtain ⟨a', xs0, e1, e2, e3, e4, e5, _⟩ := S.accs i ds he
  rw [hσ] at e1; cases e1
  have trk : ∀ b, (upd H a (.lst xs')) b = none → H b = none := fun b q => by
    by_cases e : b = a
    · subst e; rw [upd_same] at q; cases q
    · rw [upd_ne e] at q; exact q
  have g : Gs K ρ B H ρ B (upd H a (.lst xs')) := ⟨List.prefix_rfl, fun _ h => .inl h, fun b o nb h => by rw [upd_ne (show b ≠ a from fun z => nb (by rw [z]; exact e4))]; exact h, trk⟩
  have hl : i < env.length := (List.getElem?_eq_some_iff.mp he).1
  refine ⟨g, ⟨⟨S.gr.pre, S.gr.ban, S.gr.new, S.gr.rnew, fun b o nb h => ?_, fun b q => S.gr.trk b (trk b q)⟩, S.zb, ⟨S.wo.len, S.wo.nd, fun j b o q1 q2 => ?_, S.wo.rb, fun b z q => S.wo.bt b z (trk b q), S.wo.bk⟩, fun j d q => ?_, fun j es q => ?_, fun j k es es' b h1 h2 h3 h4 => ?_, by simp [S.len]⟩⟩
  · have hb : b ≠ a := fun z => by rw [z, e3] at h; cases h
    rw [upd_ne hb]; exact S.gr.keep b o nb h
  · exact ORep.gs g (upd_ne (show b ≠ a from fun z => e5 (by rw [← z]; exact List.mem_of_getElem? q1))) (S.wo.obj j b o q1 q2)
  · have hj : j ≠ i := fun z => by subst z; rw [List.getElem?_set_self hl] at q; cases q
    rw [List.getElem?_set_ne (Ne.symm hj)] at q
    obtain ⟨v, h1, h2⟩ := S.slot j d q
    exact ⟨v, h1, RepV.gs g _ _ h2⟩
  · by_cases hj : j = i
    · subst hj
      rw [List.getElem?_set_self hl] at q; cases q
      exact ⟨a, xs', hσ, upd_same, e3, e4, e5, RepL.gs g _ _ r⟩
    · rw [List.getElem?_set_ne (Ne.symm hj)] at q
      obtain ⟨b, ys, h1, h2, h3, h4, h5, h6⟩ := S.accs j es q
      have hb : b ≠ a := fun z => hj (S.adis j i es ds a q he (z ▸ h1) hσ)
      exact ⟨b, ys, h1, by rw [upd_ne hb]; exact h2, h3, h4, h5, RepL.gs g _ _ h6⟩
  · have old : ∀ {j : Nat} {es : List DV}, (env.set i (.acc ds'))[j]? = some (.acc es) → ∃ es, env[j]? = some (.acc es) := fun {j es} q => by
      by_cases hj : j = i
      · exact ⟨ds, hj ▸ he⟩
      · rw [List.getElem?_set_ne (Ne.symm hj)] at q; exact ⟨es, q⟩
    obtain ⟨_, q1⟩ := old h1
    obtain ⟨_, q2⟩ := old h2
    exact S.adis j k _ _ b q1 q2 h3 h4
/-- an acc becomes data -/
theorem SOk.disown {i : Nat} {ds : List DV} (S : SOk K Z env σ ρ B hp H) (he : env[i]? = some (.acc ds)) : ∃ B', Gs K ρ B H ρ B' H ∧ SOk K Z (env.set i (.val (.lst ds))) σ ρ B' hp H := by
  obtain ⟨a, xs, e1, e2, e3, e4, e5, e6⟩ := S.accs i ds he
  have hl : i < env.length := (List.getElem?_eq_some_iff.mp he).1
  have g : Gs K ρ B H ρ (fun b => B b ∧ b ≠ a) H := ⟨List.prefix_rfl, fun _ h => .inl h.1, fun _ _ _ h => h, fun _ h => h⟩
  refine ⟨fun b => B b ∧ b ≠ a, g, ⟨⟨S.gr.pre, fun b z => ⟨S.gr.ban b z, fun q => S.zb b z (q ▸ e3)⟩, fun b z => S.gr.new b z.1, S.gr.rnew, S.gr.keep, S.gr.trk⟩, S.zb,
    ⟨S.wo.len, S.wo.nd, fun j b o q1 q2 => ORep.gs g rfl (S.wo.obj j b o q1 q2), fun b z => ⟨S.wo.rb b z, fun q => e5 (q ▸ z)⟩, fun b z => S.wo.bt b z.1, fun b z => S.wo.bk b z.1⟩, fun j d q => ?_, fun j es q => ?_, fun j k es es' b h1 h2 h3 h4 => ?_, by simp [S.len]⟩⟩
  · by_cases hj : j = i
    · subst hj
      rw [List.getElem?_set_self hl] at q; cases q
      exact ⟨_, e1, rep_lst (fun z => z.2 rfl) (SqL.of e2) (RepL.gs g _ _ e6)⟩
    · rw [List.getElem?_set_ne (Ne.symm hj)] at q
      obtain ⟨v, h1, h2⟩ := S.slot j d q
      exact ⟨v, h1, RepV.gs g _ _ h2⟩
  · have hj : j ≠ i := fun z => by subst z; rw [List.getElem?_set_self hl] at q; cases q
    rw [List.getElem?_set_ne (Ne.symm hj)] at q
    obtain ⟨b, ys, h1, h2, h3, h4, h5, h6⟩ := S.accs j es q
    have hb : b ≠ a := fun z => hj (S.adis j i es ds a q he (z ▸ h1) e1)
    exact ⟨b, ys, h1, h2, h3, ⟨h4, hb⟩, h5, RepL.gs g _ _ h6⟩
  · have nj : ∀ {j : Nat} {es : List DV}, (env.set i (.val (.lst ds)))[j]? = some (.acc es) → env[j]? = some (.acc es) := fun {j es} q => by
      have hj : j ≠ i := fun z => by subst z; rw [List.getElem?_set_self hl] at q; cases q
      rw [List.getElem?_set_ne (Ne.symm hj)] at q; exact q
    exact S.adis j k _ _ b (nj h1) (nj h2) h3 h4
end
section
variable {X : Cx} {e a b c : Expr} {f fa fb : DEx} {ca cb : DTx} {pos : Pos} {st : Stmt} {sts rest : List Stmt} {s s' : DSx}
def sAcc (i : Nat) : DSx := fun env => pure (.nx, env.set i (.acc []))
theorem ds_acc (i : Nat) {x : Str} {pos' pos'' : Pos} (hN : X.N.Nodup) (hi : X.N[i]? = some x := by rfl) (hx : Loc X.env.scope x := by first | exact Or.inl rfl | exact Or.inr rfl) (hs : swapsWith (.List [] pos'') (some (.Name x pos')) pos.line X.env = pure false := by rfl)
    (hf : X.fn x = true ∨ X.env.scope.names.lookup x = some .local := by first | exact .inl rfl | exact .inr rfl | assumption) : DS X (.Assign [.Name x pos'] (.List [] pos'') pos) (sAcc i) :=
  (ps_set hN hi hx (pe_lst pa_nil).kf hs hf).imp fun D σ H ⟨Z, env, ρ, B, hp, fl, env', hp', S, e, k⟩ => by
    obtain ⟨z, rfl⟩ := pure_some e; cases z
    refine ⟨Nat.zero_le _, fun p h kf => ?_⟩
    have kp := kf p _ upd_same
    exact k _ ρ _ _ ((Gr.banned h kp).gs S.wo.rb) (S.newAcc h kp RepL.nil)
def disE (i : Nat) (env : En) : En := match env[i]? with
  | some (.acc ds) => env.set i (.val (.lst ds))
  | _ => env
def sDis (i : Nat) (f : DSx) : DSx := fun env => f (disE i env)
theorem sDis_imp {K : PySem.W.Frag} {i : Nat} {D : Ends} {σ : St} {H : Hp} (h : tDS K (sDis i s) D σ H) : tDS K s D σ H := by
  obtain ⟨Z, env, ρ, B, hp, fl, env', hp', S, e, k⟩ := h
  cases q : env[i]? with
  | none => exact ⟨Z, env, ρ, B, hp, fl, env', hp', S, by simpa [sDis, disE, q] using e, k⟩
  | some z =>
    cases z with
    | un => exact ⟨Z, env, ρ, B, hp, fl, env', hp', S, by simpa [sDis, disE, q] using e, k⟩
    | val d => exact ⟨Z, env, ρ, B, hp, fl, env', hp', S, by simpa [sDis, disE, q] using e, k⟩
    | acc ds =>
      obtain ⟨B', g, S'⟩ := S.disown q
      exact ⟨Z, _, ρ, B', hp, fl, env', hp', S', by simpa [sDis, disE, q] using e, k.after g⟩
theorem ds_dis (i : Nat) (h : DS X st s) : DS X st (sDis i s) := L2.PS.imp h fun _ _ _ q => sDis_imp q
/-- x.append(e), x an acc -/
def sApp (i : Nat) (f : DEx) : DSx := fun env => do
  let d ← f env
  match env[i]? with
  | some (.acc ds) => if ds.length < lim then pure (.nx, env.set i (.acc (ds ++ [d]))) else failure
  | _ => failure
theorem ds_app (i : Nat) {x : Str} {p1 p2 : Pos} (he : DE X e f) (hi : X.N[i]? = some x := by rfl) (hv : Vis X.env.scope x := by first | exact Or.inl rfl | exact Or.inr (Or.inl rfl) | exact Or.inr (Or.inr rfl))
    (hd : (x == ("__debug__" : Str)) = false := by decide) (hcd : (x == ("__classdict__" : Str)) = false := by decide)
    (hs : ∀ t, PE X (.Call (.Attribute (.Name x p1) "append" p2) [e] [] pos) t → PS X (.Expr (.Call (.Attribute (.Name x p1) "append" p2) [e] [] pos) pos) (tDrop t) := by intro _ h; exact ps_expr h)
    (hb : ∀ (t : TE) (ta : TA), PE X (.Name x p1) t → PA X [e] ta → PE X (.Call (.Attribute (.Name x p1) "append" p2) [e] [] pos) (tBM X.K "list" rAppend t ta) := by intro _ _ h1 h2; exact pe_bm PySem.F.plainAttrs_list PySem.F.slot_list_append PySem.F.type_list_append mt_append h1 h2)
    (hst : starEach [e] X.env = (false, eval e X.env) :: starEach [] X.env := by rfl) : DS X (.Expr (.Call (.Attribute (.Name x p1) "append" p2) [e] [] pos) pos) (sApp i f) :=
  L2.PS.imp (hs _ (hb _ _ (pe_var hi hv hd hcd) (pa_cons he pa_nil hst))) fun D σ H ⟨Z, env, ρ, B, hp, fl, env', hp', S, e, k⟩ => by
    obtain ⟨d, hp1, e1, e2⟩ := bind_some e
    cases q : env[i]? with
    | none => rw [q] at e2; cases e2
    | some z =>
      rw [q] at e2
      cases z with
      | un => cases e2
      | val _ => cases e2
      | acc ds =>
        by_cases hl : ds.length < lim
        · have e2' : (pure (Fl.nx, env.set i (.acc (ds ++ [d]))) : M (Fl × En)) hp1 = some ((fl, env'), hp') := by
            have : (if ds.length < lim then pure (Fl.nx, env.set i (.acc (ds ++ [d]))) else failure : M (Fl × En)) hp1 = some ((fl, env'), hp') := e2
            rwa [if_pos hl] at this
          obtain ⟨z, rfl⟩ := pure_some e2'; cases z
          obtain ⟨a, xs, h1, h2, _⟩ := S.accs i ds q
          refine ⟨_, h1, .inl ⟨rfl, xs, SqL.of h2⟩, ?_⟩
          refine tD.run S e1 fun v ρ1 B1 H1 g1 S1 r1 => ?_
          obtain ⟨a', xs1, h1', h2', _, _, _, rl⟩ := S1.accs i ds q
          rw [h1] at h1'; cases h1'
          obtain ⟨g2, S2⟩ := S1.setAcc q h1 (RepL.append rl (RepL.one r1))
          exact ⟨a, xs1, v, rfl, rfl, h2', by rw [← rl.length]; exact Nat.lt_of_lt_of_le hl lim_le, k _ ρ1 B1 _ ((g1.gs S.wo.rb).trans g2) S2⟩
        · have : (if ds.length < lim then pure (Fl.nx, env.set i (.acc (ds ++ [d]))) else failure : M (Fl × En)) hp1 = some ((fl, env'), hp') := e2
          rw [if_neg hl] at this; cases this

/-! ### comprehensions -/
def compD (g : DV → M Bool) (f : DV → M DV) : List DV → M (List DV)
  | [] => pure []
  | d :: ds => do
    if ← g d then
      let y ← f d
      let ys ← compD g f ds
      pure (y :: ys)
    else compD g f ds
def capS : Sl → Sl
  | .val d => .val d
  | _ => .un
def cE (idx : List Nat) (env : En) (d : DV) : En := .val d :: idx.map fun i => capS ((env[i]?).getD .un)
def eComp (src : DIx) (idx : List Nat) (t : DTx) (f : DEx) : DEx := fun env => do
  let ds ← src env
  guardM (short ds)
  let out ← compD (fun d => t (cE idx env d)) (fun d => f (cE idx env d)) ds
  pure (.lst out)
def tAll : DTx := fun _ => pure true
variable {elt iter : Expr} {x : Str} {px : Pos} {ifs : List Expr} {scope : Scope} {cl : List (Str × Addr)} {caps : List Str} {idx : List Nat} {src : DIx} {te : DTx}
theorem cσ_ok {K : PySem.W.Frag} {Z : Ent} {env : En} {σ : St} {ρ ρ1 : List Addr} {B B1 : Addr → Prop} {hp hp1 : Hs} {H H1 : Hp} {d : DV} {v : V} (S : SOk K Z env σ ρ B hp H) (g : Gs K ρ B H ρ1 B1 H1) (W : WOk K ρ1 B1 hp1 H1) (r : RepV K ρ1 B1 H1 d v) :
    SOk K ⟨ρ1, B1, H1⟩ (cE idx env d) (cσ idx σ (some v)) ρ1 B1 hp1 H1 := by
  refine ⟨Gr.refl, W.bt, W, fun i e h => ?_, fun i es h => ?_, fun i j es es' a h => ?_, by simp [cE, cσ]⟩
  · cases i with
    | zero =>
      have : d = e := by simpa [cE] using h
      subst this
      exact ⟨v, by simp [cσ], r⟩
    | succ i =>
      cases q : idx[i]? with
      | none => simp [cE, q] at h
      | some k =>
        have h' : capS ((env[k]?).getD .un) = .val e := by simpa [cE, q] using h
        cases z : env[k]? with
        | none => rw [z] at h'; cases h'
        | some sl =>
          rw [z] at h'
          cases sl with
          | un => cases h'
          | acc _ => cases h'
          | val e' =>
            have : e' = e := by simpa [capS] using h'
            subst this
            obtain ⟨u, h1, h2⟩ := S.slot k e' z
            exact ⟨u, by simp [cσ, q, h1], RepV.gs g _ _ h2⟩
  · exfalso
    cases i with
    | zero => simp [cE] at h
    | succ i =>
      cases q : idx[i]? with
      | none => simp [cE, q] at h
      | some k =>
        have h' : capS ((env[k]?).getD .un) = .acc es := by simpa [cE, q] using h
        cases z : (env[k]?).getD .un with
        | un => rw [z] at h'; cases h'
        | acc _ => rw [z] at h'; cases h'
        | val _ => rw [z] at h'; cases h'
  · exfalso
    cases i with
    | zero => simp [cE] at h
    | succ i =>
      cases q : idx[i]? with
      | none => simp [cE, q] at h
      | some k =>
        have h' : capS ((env[k]?).getD .un) = .acc es := by simpa [cE, q] using h
        cases z : (env[k]?).getD .un with
        | un => rw [z] at h'; cases h'
        | acc _ => rw [z] at h'; cases h'
        | val _ => rw [z] at h'; cases h'
theorem eComp_imp {K : PySem.W.Frag} {σ : St} {H : Hp} {Q : VK} (h : tD K (eComp src idx te f) σ H Q) : tComp K (tDI K src) (tDT K te) (tD K f) idx σ H Q := by
  obtain ⟨Z, env, ρ, B, hp, d, hp', S, e, k⟩ := h
  obtain ⟨ds, hp1, e1, e2⟩ := bind_some e
  obtain ⟨_, hp2, e3, e4⟩ := bind_some e2
  obtain ⟨hs, rfl⟩ := guardM_some e3
  obtain ⟨out, hp3, e5, e6⟩ := bind_some e4
  obtain ⟨rfl, rfl⟩ := pure_some e6
  refine ⟨Z, env, ρ, B, hp, ds, hp1, S, e1, fun J ρ1 B1 H1 g1 W1 it D hD hK => ?_⟩
  have g1s := g1.gs S.wo.rb
  have dl : ds.length < sizeLine := Nat.lt_of_le_of_lt (of_decide_eq_true hs) (by decide)
  refine ⟨fun i m ys H2 => m = ds.length - i ∧ i ≤ ds.length ∧ H2 D = some (.lst ys) ∧ ∃ ρ2 B2 hp2 don rst, Gr K ρ1 B1 H1 ρ2 B2 H2 ∧ WOk K ρ2 B2 hp2 H2 ∧ B2 D ∧ D ∉ ρ2 ∧ RepL K ρ2 B2 H2 don ys ∧ don.length ≤ i ∧
    compD (fun d => te (cE idx env d)) (fun d => f (cE idx env d)) (ds.drop i) hp2 = some (rst, hp3) ∧ don ++ rst = out, ?_, ?_⟩
  · exact ⟨ds.length, rfl, Nat.zero_le _, upd_same, ρ1, banP B1 D, hp1, [], out, Gr.banned hD hK, W1.banned hD hK, .inr rfl, fun z => W1.bt D (W1.rb D z) hD, RepL.nil, Nat.le_refl _, by simpa using e5, rfl⟩
  · rintro i m ys H2 ⟨rfl, hi, hDs, ρ2, B2, hp2, don, rst, g2, W2, bD, nD, rd, dn, e7, e8⟩
    refine ⟨hDs, ?_⟩
    obtain ⟨itg, its⟩ := it ρ2 B2 H2 (g2.gs W1.rb) W2.rb W2.bt
    by_cases hlt : i < ds.length
    · have hd : ds[i]? = some ds[i] := List.getElem?_eq_getElem hlt
      obtain ⟨go, yl⟩ := itg i _ hd
      rw [List.drop_eq_getElem_cons hlt] at e7
      obtain ⟨b, hp4, e9, e10⟩ := bind_some e7
      refine .inr ⟨go, fun x H3 y => ?_⟩
      obtain ⟨rx, hx⟩ := yl x H3 y
      have S3 : Gr K ρ2 B2 H2 ρ2 B2 H3 ∧ WOk K ρ2 B2 hp2 H3 := by
        rcases hx with rfl | ⟨p, o, hn, rfl⟩
        · exact ⟨Gr.refl, W2⟩
        · exact ⟨Gr.laid hn, W2.laid hn⟩
      have g3 := g2.trans S3.1
      have C3 := cσ_ok (idx := idx) S (g1s.trans (g3.gs W1.rb)) S3.2 rx
      refine tDT.run C3 e9 fun ρ4 B4 H4 g4 S4 => ?_
      have hD4 : H4 D = some (.lst ys) := g4.keep D _ nD (S3.1.keep D _ nD hDs)
      have nD4 : D ∉ ρ4 := fun z => (g4.rnew D z).elim nD fun q => by rw [S3.1.keep D _ nD hDs] at q; cases q
      cases b with
      | false =>
        refine iteF ⟨ds.length - (i + 1), by omega, rfl, hlt, hD4, ρ4, B4, hp4, don, rst, g3.trans g4, S4.wo, g4.ban D bD, nD4, RepL.grow W2.rb (S3.1.trans g4) _ _ rd, by omega, e10, e8⟩
      | true =>
        obtain ⟨z, hp5, e11, e12⟩ := bind_some e10
        obtain ⟨zs, hp6, e13, e14⟩ := bind_some e12
        obtain ⟨rfl, rfl⟩ := pure_some e14
        refine iteT (tD.run S4 e11 fun v ρ5 B5 H5 g5 S5 r5 => ?_)
        have hD5 : H5 D = some (.lst ys) := g5.keep D _ nD4 hD4
        have nD5 : D ∉ ρ5 := fun z => (g5.rnew D z).elim nD4 fun q => by rw [hD4] at q; cases q
        have bD5 : B5 D := g5.ban D (g4.ban D bD)
        have G5 := g3.trans (g4.trans g5)
        have rd5 := RepL.grow W2.rb (S3.1.trans (g4.trans g5)) _ _ rd
        have trk : ∀ b, (upd H5 D (.lst (ys ++ [v]))) b = none → H5 b = none := fun b q => by
          by_cases e : b = D
          · subst e; rw [upd_same] at q; cases q
          · rw [upd_ne e] at q; exact q
        have g6 : Gs K ρ5 B5 H5 ρ5 B5 (upd H5 D (.lst (ys ++ [v]))) := ⟨List.prefix_rfl, fun _ h => .inl h, fun b o nb h => by rw [upd_ne (show b ≠ D from fun z => nb (by rw [z]; exact bD5))]; exact h, trk⟩
        refine ⟨hD5, by have := rd5.length; omega, ds.length - (i + 1), by omega, rfl, hlt, upd_same, ρ5, B5, hp5, don ++ [z], zs, ?_, ?_, bD5, nD5, RepL.gs g6 _ _ (RepL.append rd5 (RepL.one r5)), by simp; omega, e13, by rw [← e8]; simp⟩
        · exact ⟨G5.pre, G5.ban, G5.new, G5.rnew, fun b o nb h => by rw [upd_ne (show b ≠ D from fun q => by rw [q, hD] at h; cases h)]; exact G5.keep b o nb h, fun b q => G5.trk b (trk b q)⟩
        · exact ⟨S5.wo.len, S5.wo.nd, fun j b o q1 q2 => ORep.gs g6 (upd_ne (show b ≠ D from fun z => nD5 (by rw [← z]; exact List.mem_of_getElem? q1))) (S5.wo.obj j b o q1 q2), S5.wo.rb, fun b z q => S5.wo.bt b z (trk b q), S5.wo.bk⟩
    · have e : i = ds.length := by omega
      subst e
      rw [List.drop_length] at e7
      obtain ⟨rfl, rfl⟩ := pure_some e7
      refine .inl ⟨its, ?_⟩
      have gU : Gs K ρ2 B2 H2 ρ2 (fun b => B2 b ∧ b ≠ D) H2 := ⟨List.prefix_rfl, fun _ h => .inl h.1, fun _ _ _ h => h, fun _ h => h⟩
      refine k (.ref D) ρ2 (fun b => B2 b ∧ b ≠ D) H2 (g1.trans ⟨g2.pre, fun b z => ⟨g2.ban b z, fun q => W1.bt b z (q ▸ hD)⟩, fun b z => g2.new b z.1, g2.rnew, g2.keep, g2.trk⟩)
        ⟨W2.len, W2.nd, fun j b o q1 q2 => ORep.gs gU rfl (W2.obj j b o q1 q2), fun b z => ⟨W2.rb b z, fun q => nD (q ▸ z)⟩, fun b z => W2.bt b z.1, fun b z => W2.bk b z.1⟩ (rep_lst (fun z => z.2 rfl) (SqL.of hDs) ?_)
      rw [← e8, List.append_nil]
      exact RepL.gs gU _ _ rd
def DTs (X : Cx) (ifs : List Expr) (t : DTx) : Prop := PTs X ifs (tDT X.K t)
theorem dts_nil : DTs X [] tAll := fun pins s σ H Q I ⟨Z, env, ρ, B, hp, d, hp', S, e, k⟩ => by
  obtain ⟨rfl, rfl⟩ := pure_some e
  exact pts_nil pins s σ H Q I (k ρ B H Gr.refl S.wo)
theorem ds_comp (i : Nat) {y : Str} {py spos : Pos} (hN : X.N.Nodup) (S : CompS X x scope cl caps idx) (hc : X.calm = true) (hi : DI X (.Name x px) iter src)
    (ht : ∀ C s₀ H₀ ex, DTs (cxComp X scope cl C (x :: caps) s₀ H₀ ex) ifs te) (he : ∀ C s₀ H₀ ex, DE (cxComp X scope cl C (x :: caps) s₀ H₀ ex) elt f)
    (hy : X.N[i]? = some y := by rfl) (hx : Loc X.env.scope y := by first | exact Or.inl rfl | exact Or.inr rfl)
    (hsw : swapsWith (.ListComp elt [⟨.Name x px, iter, ifs, 0⟩] scope pos) (some (.Name y py)) spos.line X.env = pure true := by with_unfolding_all rfl)
    (hf : X.fn y = true ∨ X.env.scope.names.lookup y = some .local := by first | exact .inl rfl | exact .inr rfl | assumption)
    (hs : ∀ x, foldedSetIterable iter X.env x = pure x := by intro _; rfl) : DS X (.Assign [.Name y py] (.ListComp elt [⟨.Name x px, iter, ifs, 0⟩] scope pos) spos) (sSet i (eComp src idx te f)) :=
  L2.PS.imp (ps_comp (tt := tDT X.K te) (te := tD X.K f) S hc hi ht he hN hy hx hsw hf hs) fun _ _ _ h => sSet_imp (fun _ _ _ q => eComp_imp q) h

/-! ### defs -/
def runF (n : Nat) (body : DSx) : List DV → M DV := fun ds => do
  let r ← body (ds.map .val ++ List.replicate (n - ds.length) .un)
  match r.1 with
  | .nx => pure .non
  | .rt d => pure d
  | _ => failure
def spD (K : PySem.W.Frag) (n : Nat) (F : List DV → M DV) : Sp := fun vs H Q _ => vs.length = n ∧ ∃ ρ B hp ds d hp', WOk K ρ B hp H ∧ RepL K ρ B H ds vs ∧ F ds hp = some (d, hp') ∧ Fol K ρ B H d hp' Q
/-- a def of the text, known by its Lean function -/
structure Has (P : Program) (w : World) (K : PySem.W.Frag) (mg : Str → Option Value) (base : Heap) (x : Str) (k n : Nat) (F : List DV → M DV) : Prop where
  ex : ∃ (g : Addr) (fd : FuncData) (ps : List Str), FnOk P w K mg base CX0 k g fd ps (spD K n F) ∧ Binds K fd ps [] ∧ PySem.W.keepIn K (.ref g) = true ∧ mg x = some (.ref g)
theorem sOk_start {K : PySem.W.Frag} {ρ : List Addr} {B : Addr → Prop} {hp : Hs} {H : Hp} {ds : List DV} {vs : List V} {N : List Str} (W : WOk K ρ B hp H) (r : RepL K ρ B H ds vs) :
    SOk K ⟨ρ, B, H⟩ (ds.map .val ++ List.replicate (N.length - ds.length) .un) (L2.start N vs) ρ B hp H := by
  have hl := r.length
  have at_ : ∀ {i : Nat} {z : Sl}, (ds.map Sl.val ++ List.replicate (N.length - ds.length) Sl.un)[i]? = some z → z = .un ∨ ∃ d, ds[i]? = some d ∧ z = .val d := fun {i z} h => by
    by_cases hi : i < ds.length
    · rw [List.getElem?_append_left (by simpa using hi), List.getElem?_map, List.getElem?_eq_getElem hi] at h
      cases h
      exact .inr ⟨_, List.getElem?_eq_getElem hi, rfl⟩
    · rw [List.getElem?_append_right (by simpa using hi), List.getElem?_replicate] at h
      split at h
      · cases h; exact .inl rfl
      · cases h
  refine ⟨Gr.refl, W.bt, W, fun i d h => ?_, fun i es h => ?_, fun i j es es' a h => ?_, by unfold L2.start; simp; omega⟩
  · rcases at_ h with z | ⟨d', q, z⟩
    · cases z
    · cases z
      obtain ⟨v, h1, h2⟩ := r.get q
      refine ⟨v, ?_, h2⟩
      unfold L2.start
      have hi : i < vs.length := (List.getElem?_eq_some_iff.mp h1).1
      rw [List.getElem?_append_left (by simpa using hi), List.getElem?_map, h1]
      rfl
  · rcases at_ h with z | ⟨d', q, z⟩ <;> cases z
  · rcases at_ h with z | ⟨d', q, z⟩ <;> cases z
/-- a def: its body once -/
theorem fn_has {P : Program} {w : World} {K : PySem.W.Frag} {mg : Str → Option Value} {base : Heap} {x : Str} {stm : Stmt} {g : Addr} {fd : FuncData} {N ps : List Str} {k : Nat} {body : DSx} (F : Fun K x x stm g fd) (Sc : FnScope N ps (defScope stm)) (hm : mg x = some (.ref g))
    (hb : ∀ (kV doc pm : Value) (an : Option Addr) (cdv ct : Value) (us : List Value), us.length = ps.length → bindArgs (PySem.W.fnOf x x (defArgs stm) (defBody stm) (defScope stm) .none kV doc pm an cdv ct) ⟨us, []⟩ = pure (ps.zip us))
    (h : ∀ (cdv : Value) (A : Around) (outer : List Env) (s : Shared) (H : Hp) (E : XK), Room k (A.deeper (envOfC x (defScope stm) s.heap.objs.size g cdv)) → DSs (cxOf CX0 P w K mg base N x (defScope stm) g cdv A outer s H E).nox (defBody stm) body) :
    Has P w K mg base x (k + 1) ps.length (runF N.length body) := by
  refine ⟨g, fd, ps, F.ok Sc (fun vs H Q E h => h.1) (fun cdv A outer s H vs Q E hr sp => ?_), F.binds hb, F.kp, hm⟩
  obtain ⟨hn, ρ, B, hp, ds, d, hp', W, r, e, k⟩ := sp
  obtain ⟨⟨fl, env'⟩, hp1, e1, e2⟩ := bind_some e
  refine ⟨_, h cdv A outer s H E hr, ⟨ρ, B, H⟩, _, ρ, B, hp, fl, env', hp1, sOk_start W r, e1, fun σ' ρ' B' H' g' S' => ?_⟩
  cases fl with
  | nx => obtain ⟨rfl, rfl⟩ := pure_some e2; exact k .non ρ' B' H' S'.gr S'.wo rep_non
  | rt x => obtain ⟨rfl, rfl⟩ := pure_some e2; exact fun v rv => k v ρ' B' H' S'.gr S'.wo rv
  | bk => cases e2
  | ct => cases e2
def eCall (n : Nat) (F : List DV → M DV) (a : DAx) : DEx := fun env => do
  let ds ← a env
  guardM (decide (ds.length = n))
  F ds
theorem de_call {y : Str} {k j n : Nat} {F : List DV → M DV} {e : Expr} {es : List Expr} {fa : DAx} {p : Pos} (h : Has X.prog X.w X.K X.mg X.base y j n F) (hr : Room k X.A) (hj : j ≤ k) (hx : Passes CX0 X E0) (ha : DA X (e :: es) fa) (hg : Gl X y := by rfl)
    (hdb : (y == ("__debug__" : Str)) = false := by decide) (he : starEach (e :: es) X.env = (false, eval e X.env) :: starEach es X.env := by rfl) (hpl : (backTo pos (starEach es X.env)).any (·.1) = false := by rfl) : DE X (.Call (.Name y p) (e :: es) [] pos) (eCall n F fa) := by
  obtain ⟨g, fd, ps, F', hb, hk, hm⟩ := h.ex
  refine L2.PE.imp (pe_call F' (hr.mono hj) hg hm hk hb .nil hx ha hdb he hpl) fun σ H Q ⟨Z, env, ρ, B, hp, d, hp', S, e, k⟩ => ?_
  obtain ⟨ds, hp1, e1, e2⟩ := bind_some e
  obtain ⟨_, hp2, e3, e4⟩ := bind_some e2
  obtain ⟨hl, rfl⟩ := guardM_some e3
  refine tDA.run S e1 fun vs ρ1 B1 H1 g1 S1 r1 => ?_
  refine ⟨by rw [List.append_nil, ← r1.length]; exact of_decide_eq_true hl, ρ1, B1, hp1, ds, d, hp', S1.wo, by rw [List.append_nil]; exact r1, e4, k.after g1⟩
end
end D

namespace D
open PySem PySem.Spec PyProof.Rows L2
section
variable {X : Cx} {e a b c : Expr} {f fa fb fc : DEx} {ca cb : DTx} {pos : Pos}
/-! ### ints -/
def int2 (C : Int → Int → Bool) (g : Int → Int → DV) : DV → DV → M DV
  | .int i, .int j => if C i j then pure (g i j) else failure
  | _, _ => failure
theorem int2_some {C : Int → Int → Bool} {g : Int → Int → DV} {x y d : DV} {hp hp' : Hs} (h : int2 C g x y hp = some (d, hp')) : ∃ i j, x = .int i ∧ y = .int j ∧ C i j = true ∧ d = g i j ∧ hp = hp' := by
  unfold int2 at h
  split at h
  · rename_i i j
    by_cases hc : C i j = true
    · rw [if_pos hc] at h
      obtain ⟨rfl, rfl⟩ := pure_some h
      exact ⟨i, j, rfl, rfl, hc, rfl, rfl⟩
    · rw [if_neg hc] at h; cases h
  · cases h
theorem p2_int {g : Value → Value → Sem Value} {C : Int → Int → Bool} {P : Int → Int → Prop} {q : Int → Int → Int} (ho : OpR X g (rI P fun i j => .int (q i j))) (hC : ∀ i j, C i j = true → P i j) : P2 X g (int2 C fun i j => .int (q i j)) := by
  intro pins s σ H x y v u Q I rx ry h
  refine ho pins s σ H x y v u Q I rx ry ?_
  obtain ⟨ρ, B, hp, dx, dy, d, hp', W, r1, r2, e, k⟩ := h
  obtain ⟨i, j, rfl, rfl, hc, rfl, rfl⟩ := int2_some e
  exact ⟨i, j, r1.intI, r2.intI, hC i j hc, k _ ρ B H Gr.refl W rep_int⟩
theorem p2_int0 {g : Value → Value → Sem Value} {q : Int → Int → Int} (ho : OpR X g (rI0 fun i j => .int (q i j))) : P2 X g (int2 (fun _ _ => true) fun i j => .int (q i j)) := by
  intro pins s σ H x y v u Q I rx ry h
  refine ho pins s σ H x y v u Q I rx ry ?_
  obtain ⟨ρ, B, hp, dx, dy, d, hp', W, r1, r2, e, k⟩ := h
  obtain ⟨i, j, rfl, rfl, hc, rfl, rfl⟩ := int2_some e
  exact ⟨i, j, r1.intI, r2.intI, k _ ρ B H Gr.refl W rep_int⟩
theorem p2_cmp0 {g : Value → Value → Sem Value} {q : Int → Int → Bool} (ho : OpR X g (rI0 fun i j => .bl (q i j))) : P2 X g (int2 (fun _ _ => true) fun i j => .bl (q i j)) := by
  intro pins s σ H x y v u Q I rx ry h
  refine ho pins s σ H x y v u Q I rx ry ?_
  obtain ⟨ρ, B, hp, dx, dy, d, hp', W, r1, r2, e, k⟩ := h
  obtain ⟨i, j, rfl, rfl, hc, rfl, rfl⟩ := int2_some e
  exact ⟨i, j, r1.intI, r2.intI, k _ ρ B H Gr.refl W rep_bl⟩
def cMul (i j : Int) : Bool := decide ((-(2 ^ 64) < i ∧ i < 2 ^ 64) ∨ (-(2 ^ 64) < j ∧ j < 2 ^ 64))
def cDiv (_ j : Int) : Bool := decide (0 < j ∧ j < 1073741824)
def cMod (_ j : Int) : Bool := decide (0 < j)
def cPow (i j : Int) : Bool := decide (0 ≤ j ∧ j ≤ 1000000 ∧ i.natAbs < 2 ^ 64)
def subD : DV → DV → M DV := int2 (fun _ _ => true) fun i j => .int (i - j)
def mulD : DV → DV → M DV := int2 cMul fun i j => .int (i * j)
def divD : DV → DV → M DV := int2 cDiv fun i j => .int (i / j)
def modD : DV → DV → M DV := int2 cMod fun i j => .int (i % j)
def powD : DV → DV → M DV := int2 cPow fun i j => .int (i ^ j.toNat)
def ltD : DV → DV → M DV := int2 (fun _ _ => true) fun i j => .bl (decide (i < j))
def leD : DV → DV → M DV := int2 (fun _ _ => true) fun i j => .bl (decide (i ≤ j))
def gtD : DV → DV → M DV := int2 (fun _ _ => true) fun i j => .bl (decide (j < i))
def geD : DV → DV → M DV := int2 (fun _ _ => true) fun i j => .bl (decide (j ≤ i))
theorem p_sub : P2 X (binaryOp .Sub) subD := p2_int0 op_sub
theorem p_mul : P2 X (binaryOp .Mult) mulD := p2_int op_mul fun i j h => of_decide_eq_true (p := (-(2 ^ 64) < i ∧ i < 2 ^ 64) ∨ (-(2 ^ 64) < j ∧ j < 2 ^ 64)) h
theorem p_div : P2 X (binaryOp .FloorDiv) divD := p2_int op_fdiv fun i j h => of_decide_eq_true (p := 0 < j ∧ j < 1073741824) h
theorem p_mod : P2 X (binaryOp .Mod) modD := p2_int op_mod fun _ _ h => of_decide_eq_true h
theorem p_pow : P2 X (binaryOp .Pow) powD := p2_int op_pow fun i j h => of_decide_eq_true (p := 0 ≤ j ∧ j ≤ 1000000 ∧ i.natAbs < 2 ^ 64) h
theorem p_lt : P2 X (compareOp .Lt) ltD := p2_cmp0 op_lt
theorem p_le : P2 X (compareOp .LtE) leD := p2_cmp0 op_le
def negD : DV → M DV
  | .int i => pure (.int (-i))
  | _ => failure
def eNeg (f : DEx) : DEx := fun env => do negD (← f env)
/-! ### + -/
theorem op_catT0 : OpR X (binaryOp .Add) (fun x y H Q => ∃ a b ys, x = .ref a ∧ y = .ref b ∧ SqT X.K H a [] ∧ SqT X.K H b ys ∧ ys.length ≤ sizeLine ∧ Q (.ref b) H) := by
  intro pins s σ H x y v u Q I rx ry h
  obtain ⟨a, b, ys, rfl, rfl, ha, hb, hz, q⟩ := h
  cases rx
  cases ry
  obtain ⟨its, r1, p1, _⟩ := I.tuple ha
  obtain ⟨its2, r2, p2, _⟩ := I.tuple hb
  obtain ⟨m, F⟩ := I.fr
  have z : its = [] := by cases r1; rfl
  subst z
  exact add_tuples F (news_all (g := X.base) (L := X.env.locals)) p1 p2 (fun _ => ⟨.ref b, H, I, rfl, q⟩) (fun n => absurd rfl n) (fun n => absurd rfl n) (by have := r2.length; simp; omega)
def addD : DV → DV → M DV
  | .int i, .int j => pure (.int (i + j))
  | .tup xs, .tup ys => do guardM (short (xs ++ ys)); pure (.tup (xs ++ ys))
  | .lst xs, .lst ys => do guardM (short (xs ++ ys)); pure (.lst (xs ++ ys))
  | _, _ => failure
theorem rd_catL : OpR X (binaryOp .Add) (fun x y H Q => ∃ l b xs zs, x = .ref l ∧ y = .ref b ∧ SqL X.K H l xs ∧ SqL X.K H b zs ∧ xs.length + zs.length ≤ sizeLine ∧ ∀ p, H p = none → Q (.ref p) (upd H p (.lst (xs ++ zs)))) := by
  intro pins s σ H x y v u Q I rx ry h
  obtain ⟨l, b, xs, zs, rfl, rfl, hl, hb, hz, q⟩ := h
  cases rx
  cases ry
  obtain ⟨its, r1, ⟨⟨k1, dd1, da1, sl1⟩, n1, e1, c1, d1, s1⟩, _⟩ := I.list hl
  obtain ⟨its2, r2, ⟨⟨k2, dd2, da2, sl2⟩, n2, e2, c2, d2, s2⟩, _⟩ := I.list hb
  simp only at c1 d1 s1 c2 d2 s2
  subst c1 d1 s1 c2 d2 s2
  have ea : its.toArray ++ its2.toArray = (its ++ its2).toArray := by simp
  have hz' : its.length + its2.length ≤ sizeLine := by rw [← r1.length, ← r2.length]; exact hz
  refine concat_meets (T := "list") ⟨_, e1, rfl⟩ ⟨_, e2, rfl⟩ noFill_list_add seq_list_add PySem.F.slot_list_add PySem.F.entry_list_add (PySem.F.args_list_add_2 _ _) (list_addW l b its.toArray its2.toArray n1 n2 none none sl1 sl2 (by simpa using hz')) ⟨e1, e2, ?_⟩
  rw [ea]
  exact ⟨.ref _, _, I.lnew (t' := s.toks) (r1.append r2) (by rw [List.length_append]; exact hz), rfl, q _ I.fresh⟩
theorem p_add : P2 X (binaryOp .Add) addD := by
  intro pins s σ H x y v u Q I rx ry h
  obtain ⟨ρ, B, hp, dx, dy, d, hp', W, r1, r2, e, k⟩ := h
  unfold addD at e
  split at e
  · obtain ⟨rfl, rfl⟩ := pure_some e
    exact op_add pins s σ H x y v u Q I rx ry ⟨_, _, r1.intI, r2.intI, k _ ρ B H Gr.refl W rep_int⟩
  · rename_i xs ys
    obtain ⟨_, hp1, e1, e2⟩ := bind_some e
    obtain ⟨hs, rfl⟩ := guardM_some e1
    obtain ⟨rfl, rfl⟩ := pure_some e2
    obtain ⟨a, vs, rfl, n1, q1, l1⟩ := r1.tupI
    obtain ⟨b, ws, rfl, n2, q2, l2⟩ := r2.tupI
    have hz : vs.length + ws.length ≤ sizeLine := by
      have := short_ok hs
      rw [List.length_append] at this
      rw [← l1.length, ← l2.length]; exact this
    by_cases hv : vs = []
    · subst hv
      have : xs = [] := by have := l1.length; cases xs with | nil => rfl | cons _ _ => simp at this
      subst this
      exact op_catT0 pins s σ H _ _ v u Q I rx ry ⟨a, b, ws, rfl, rfl, q1, q2, by simp at hz; exact hz, k _ ρ B H Gr.refl W (rep_tup n2 q2 l2)⟩
    · refine op_catT pins s σ H _ _ v u Q I rx ry ⟨a, b, vs, ws, rfl, rfl, q1, q2, hv, hz, fun hw => ?_, fun hw => fol_tup W (RepL.append l1 l2) k⟩
      subst hw
      have : ys = [] := by have := l2.length; cases ys with | nil => rfl | cons _ _ => simp at this
      subst this
      rw [List.append_nil] at k
      exact k _ ρ B H Gr.refl W (rep_tup n1 q1 l1)
  · rename_i xs ys
    obtain ⟨_, hp1, e1, e2⟩ := bind_some e
    obtain ⟨hs, rfl⟩ := guardM_some e1
    obtain ⟨rfl, rfl⟩ := pure_some e2
    obtain ⟨a, vs, rfl, n1, q1, l1⟩ := r1.lstI
    obtain ⟨b, ws, rfl, n2, q2, l2⟩ := r2.lstI
    have hz : vs.length + ws.length ≤ sizeLine := by
      have := short_ok hs
      rw [List.length_append] at this
      rw [← l1.length, ← l2.length]; exact this
    exact rd_catL pins s σ H _ _ v u Q I rx ry ⟨a, b, vs, ws, rfl, rfl, q1, q2, hz, fol_lst W (RepL.append l1 l2) k⟩
  · cases e
/-! ### is -/
def isN : DV → Bool
  | .non => true
  | _ => false
theorem isN_rep {K : PySem.W.Frag} {ρ : List Addr} {B : Addr → Prop} {H : Hp} {d : DV} {v : V} (r : RepV K ρ B H d v) : decide (v = .non) = isN d := by
  cases d with
  | non => rw [r.nonI]; rfl
  | bl b => rw [r.blI]; rfl
  | int b => rw [r.intI]; rfl
  | str b => rw [r.strI]; rfl
  | tup b => obtain ⟨a, xs, rfl, _⟩ := r.tupI; rfl
  | lst b => obtain ⟨a, xs, rfl, _⟩ := r.lstI; rfl
  | ref b => obtain ⟨a, rfl, _⟩ := r.refI; rfl
def isD : DV → DV → M DV
  | x, .non => pure (.bl (isN x))
  | .bl p, .bl q => pure (.bl (p == q))
  | _, _ => failure
theorem p_is : P2 X (compareOp .Is) isD := by
  intro pins s σ H x y v u Q I rx ry h
  obtain ⟨ρ, B, hp, dx, dy, d, hp', W, r1, r2, e, k⟩ := h
  unfold isD at e
  split at e
  · obtain ⟨rfl, rfl⟩ := pure_some e
    refine op_isN pins s σ H x y v u Q I rx ry ⟨r2.nonI, ?_⟩
    rw [isN_rep r1]
    exact k _ ρ B H Gr.refl W rep_bl
  · obtain ⟨rfl, rfl⟩ := pure_some e
    obtain rfl := r1.blI
    obtain rfl := r2.blI
    cases rx; cases ry
    exact is_bool ⟨.bl _, H, I, rfl, k _ ρ B H Gr.refl W rep_bl⟩
  · cases e
/-! ### subscripts -/
theorem atI_rep {K : PySem.W.Frag} {ρ : List Addr} {B : Addr → Prop} {H : Hp} {ds : List DV} {xs : List V} {i : Int} {d : DV} (r : RepL K ρ B H ds xs) (h : atI ds i = some d) : ∃ x, atI xs i = some x ∧ RepV K ρ B H d x := by
  unfold atI at h ⊢
  rw [← r.length]
  cases q : ixN ds.length i with
  | none => rw [q] at h; cases h
  | some j =>
    rw [q] at h
    exact r.get h
def ixD : DV → DV → M DV
  | .tup ds, .int i => match atI ds i with
    | some d => pure d
    | none => failure
  | .lst ds, .int i => match atI ds i with
    | some d => pure d
    | none => failure
  | _, _ => failure
theorem p_ix : IxR X (tP2 X.K ixD) := by
  intro value slice pins s σ H x y v u Q I rx ry h hsub
  obtain ⟨ρ, B, hp, dx, dy, d, hp', W, r1, r2, e, k⟩ := h
  unfold ixD at e
  split at e
  · rename_i ds i
    cases q : atI ds i with
    | none => rw [q] at e; cases e
    | some d' =>
      rw [q] at e
      obtain ⟨rfl, rfl⟩ := pure_some e
      obtain ⟨a, xs, rfl, n1, q1, l1⟩ := r1.tupI
      obtain ⟨z, hz, rz⟩ := atI_rep l1 q
      exact ix_tup value slice pins s σ H _ _ v u Q I rx ry ⟨a, xs, i, z, rfl, r2.intI, q1, hz, k _ ρ B H Gr.refl W rz⟩ hsub
  · rename_i ds i
    cases q : atI ds i with
    | none => rw [q] at e; cases e
    | some d' =>
      rw [q] at e
      obtain ⟨rfl, rfl⟩ := pure_some e
      obtain ⟨a, xs, rfl, n1, q1, l1⟩ := r1.lstI
      obtain ⟨z, hz, rz⟩ := atI_rep l1 q
      exact ix_list value slice pins s σ H _ _ v u Q I rx ry ⟨a, xs, i, z, rfl, r2.intI, q1, hz, k _ ρ B H Gr.refl W rz⟩ hsub
  · cases e
theorem de_ix (ha : DE X a fa) (hb : DE X b fb) (hs : PlainIx b := by intro _ _; rfl) : DE X (.Subscript a b pos) (eBin ixD fa fb) := L2.PE.imp (pe_ix p_ix ha hb hs) fun _ _ _ h => eBin_imp h
end
end D

namespace D
open PySem PySem.Spec PyProof.Rows L2
/-! ### == of data -/
mutual
def toP : DV → PyData
  | .non => .none
  | .bl b => .bool b
  | .int i => .int i
  | .str x => .str x
  | .tup xs => .tuple (toPs xs)
  | .lst xs => .list (toPs xs)
  | .ref _ => .none
def toPs : List DV → List PyData
  | [] => []
  | d :: ds => toP d :: toPs ds
end
mutual
def noRef : DV → Bool
  | .ref _ => false
  | .tup xs => noRefs xs
  | .lst xs => noRefs xs
  | _ => true
def noRefs : List DV → Bool
  | [] => true
  | d :: ds => noRef d && noRefs ds
end
section
variable {X : Cx} {pins : List (Addr × Obj)} {σ : St} {H : Hp} {s : Shared} {ρ : List Addr} {B : Addr → Prop}
mutual
theorem reads_of (I : Inv X pins σ H s) : ∀ (d : DV) (v : V) (u : Value), RepV X.K ρ B H d v → RelV v u → noRef d = true → ∃ as, Reads s.heap u (toP d) as
  | .non, _, _, r, ru, _ => by obtain rfl := r.nonI; cases ru; exact ⟨[], by unfold toP; exact .none⟩
  | .bl b, _, _, r, ru, _ => by obtain rfl := r.blI; cases ru; exact ⟨[], by unfold toP; exact .bool b⟩
  | .int i, _, _, r, ru, _ => by obtain rfl := r.intI; obtain ⟨t, rfl⟩ := ru; exact ⟨[], by unfold toP; exact .int i t⟩
  | .str x, _, _, r, ru, _ => by obtain rfl := r.strI; obtain ⟨t, rfl⟩ := ru; exact ⟨[], by unfold toP; exact .str x t⟩
  | .ref _, _, _, _, _, n => by cases n
  | .tup ds, _, _, r, ru, n => by
    obtain ⟨a, xs, rfl, _, sq, rl⟩ := r.tupI
    cases ru
    obtain ⟨its, rv, ⟨o, e, hc, k, hd⟩, _⟩ := I.tuple sq
    obtain ⟨as, q⟩ := reads_all I ds xs its rl rv (by unfold noRef at n; exact n)
    exact ⟨_, by unfold toP; exact reads_tuple_at e hc hd (by simpa using q)⟩
  | .lst ds, _, _, r, ru, n => by
    obtain ⟨a, xs, rfl, _, sq, rl⟩ := r.lstI
    cases ru
    obtain ⟨its, rv, ⟨o, k, e, hc, _, hd⟩, _⟩ := I.list sq
    obtain ⟨as, q⟩ := reads_all I ds xs its rl rv (by unfold noRef at n; exact n)
    exact ⟨_, by unfold toP; exact reads_list_at e hc hd (by simpa using q)⟩
theorem reads_all (I : Inv X pins σ H s) : ∀ (ds : List DV) (xs : List V) (us : List Value), RepL X.K ρ B H ds xs → Vals xs us → noRefs ds = true → ∃ as, ReadsAll s.heap us (toPs ds) as
  | [], _, _, r, ru, _ => by unfold RepL at r; subst r; cases ru; exact ⟨[], by unfold toPs; exact .nil⟩
  | d :: ds, _, _, r, ru, n => by
    unfold RepL at r
    obtain ⟨x, xs, rfl, r1, r2⟩ := r
    cases ru with
    | cons q1 q2 =>
      unfold noRefs at n
      rw [Bool.and_eq_true] at n
      obtain ⟨as, h1⟩ := reads_of I d x _ r1 q1 n.1
      obtain ⟨bs, h2⟩ := reads_all I ds xs _ r2 q2 n.2
      exact ⟨_, by unfold toPs; exact .cons h1 h2⟩
end
end
def okP (d : DV) : Bool := noRef d && SeqAt.shaped (toP d)
def eqD : DV → DV → M DV := fun x y => do guardM (okP x && okP y); pure (.bl (PyData.eqv (toP x) (toP y)))
def neD : DV → DV → M DV := fun x y => do guardM (okP x && okP y); pure (.bl (!PyData.eqv (toP x) (toP y)))
section
variable {X : Cx} {e a b c : Expr} {f fa fb fc : DEx} {ca cb : DTx} {pos : Pos}
theorem p_eq (hu : X.A.units + 64 < cLine) : P2 X (compareOp .Eq) eqD := by
  intro pins s σ H x y v u Q I rx ry h
  obtain ⟨ρ, B, hp, dx, dy, d, hp', W, r1, r2, e, k⟩ := h
  obtain ⟨_, hp1, e1, e2⟩ := bind_some e
  obtain ⟨hs, rfl⟩ := guardM_some e1
  obtain ⟨rfl, rfl⟩ := pure_some e2
  simp only [okP, Bool.and_eq_true] at hs
  obtain ⟨as, q1⟩ := reads_of I dx x v r1 rx hs.1.1
  obtain ⟨bs, q2⟩ := reads_of I dy y u r2 ry hs.2.1
  exact eq_dataH q1 q2 hs.1.2 hs.2.2 hu ⟨.bl _, H, I, rfl, k _ ρ B H Gr.refl W rep_bl⟩
theorem p_ne (hu : X.A.units + 64 < cLine) : P2 X (compareOp .NotEq) neD := by
  intro pins s σ H x y v u Q I rx ry h
  obtain ⟨ρ, B, hp, dx, dy, d, hp', W, r1, r2, e, k⟩ := h
  obtain ⟨_, hp1, e1, e2⟩ := bind_some e
  obtain ⟨hs, rfl⟩ := guardM_some e1
  obtain ⟨rfl, rfl⟩ := pure_some e2
  simp only [okP, Bool.and_eq_true] at hs
  obtain ⟨as, q1⟩ := reads_of I dx x v r1 rx hs.1.1
  obtain ⟨bs, q2⟩ := reads_of I dy y u r2 ry hs.2.1
  exact ne_dataH q1 q2 hs.1.2 hs.2.2 hu ⟨.bl _, H, I, rfl, k _ ρ B H Gr.refl W rep_bl⟩
/-! ### calls of Python's own -/
def tPn (K : PySem.W.Frag) (g : List DV → M DV) : List V → Hp → VK → Prop := fun xs H Q => ∃ ρ B hp ds d hp', WOk K ρ B hp H ∧ RepL K ρ B H ds xs ∧ g ds hp = some (d, hp') ∧ Fol K ρ B H d hp' Q
def eBlt (g : List DV → M DV) (a : DAx) : DEx := fun env => do g (← a env)
theorem eBlt_imp {K : PySem.W.Frag} {g : List DV → M DV} {fa : DAx} {σ : St} {H : Hp} {Q : VK} (h : tD K (eBlt g fa) σ H Q) : tCB (tPn K g) (tDA K fa) σ H Q := by
  obtain ⟨Z, env, ρ, B, hp, d, hp', S, e, k⟩ := h
  obtain ⟨ds, hp1, e1, e2⟩ := bind_some e
  exact tDA.run S e1 fun vs ρ1 B1 H1 g1 S1 r1 => ⟨ρ1, B1, hp1, ds, d, hp', S1.wo, r1, e2, k.after g1⟩
theorem de_blt {x : Str} {id : String} {g : List DV → M DV} {e : Expr} {es : List Expr} {fa : DAx} {p : Pos} (hc : CallR X (.builtin id) (tPn X.K g)) (hm : X.mg x = none) (hv : bootBuiltins x = some (.builtin id)) (ha : DA X (e :: es) fa) (hg : Gl X x := by rfl) (hn : x ≠ "__name__" := by decide) (hdb : (x == ("__debug__" : Str)) = false := by decide)
    (he : starEach (e :: es) X.env = (false, eval e X.env) :: starEach es X.env := by rfl) (hpl : (backTo pos (starEach es X.env)).any (·.1) = false := by rfl) : DE X (.Call (.Name x p) (e :: es) [] pos) (eBlt g fa) :=
  L2.PE.imp (pe_callB hc hg hm hv ha hn hdb he hpl) fun _ _ _ h => eBlt_imp h
theorem de_ty {x : Str} {T : String} {g : List DV → M DV} {e : Expr} {es : List Expr} {fa : DAx} {p : Pos} (hc : CallR X (.type T) (tPn X.K g)) (hm : X.mg x = none) (hv : bootBuiltins x = some (.type T)) (ha : DA X (e :: es) fa) (hg : Gl X x := by rfl) (hn : x ≠ "__name__" := by decide) (hdb : (x == ("__debug__" : Str)) = false := by decide)
    (he : starEach (e :: es) X.env = (false, eval e X.env) :: starEach es X.env := by rfl) (hpl : (backTo pos (starEach es X.env)).any (·.1) = false := by rfl) : DE X (.Call (.Name x p) (e :: es) [] pos) (eBlt g fa) :=
  L2.PE.imp (pe_callTy hc hg hm hv ha hn hdb he hpl) fun _ _ _ h => eBlt_imp h
theorem RepL.oneI {K : PySem.W.Frag} {ρ : List Addr} {B : Addr → Prop} {H : Hp} {d : DV} {vs : List V} (h : RepL K ρ B H [d] vs) : ∃ v, vs = [v] ∧ RepV K ρ B H d v := by
  unfold RepL at h
  obtain ⟨x, r, rfl, h1, h2⟩ := h
  unfold RepL at h2; subst h2
  exact ⟨x, rfl, h1⟩
def lenF : List DV → M DV
  | [.tup ds] => pure (.int ds.length)
  | [.lst ds] => pure (.int ds.length)
  | _ => failure
theorem c_len : CallR X (.builtin "len") (tPn X.K lenF) := by
  intro pins s σ H xs us Q I r h
  obtain ⟨ρ, B, hp, ds, d, hp', W, rl, e, k⟩ := h
  unfold lenF at e
  split at e
  · obtain ⟨rfl, rfl⟩ := pure_some e
    obtain ⟨v, rfl, rv⟩ := rl.oneI
    obtain ⟨a, ys, rfl, _, sq, l⟩ := rv.tupI
    exact call_len_seq pins s σ H _ us Q I r ⟨a, ys, rfl, .inr sq, by rw [← l.length]; exact k _ ρ B H Gr.refl W rep_int⟩
  · obtain ⟨rfl, rfl⟩ := pure_some e
    obtain ⟨v, rfl, rv⟩ := rl.oneI
    obtain ⟨a, ys, rfl, _, sq, l⟩ := rv.lstI
    exact call_len_seq pins s σ H _ us Q I r ⟨a, ys, rfl, .inl sq, by rw [← l.length]; exact k _ ρ B H Gr.refl W rep_int⟩
  · cases e
def tupF : List DV → M DV
  | [.lst ds] => pure (.tup ds)
  | [.tup ds] => pure (.tup ds)
  | _ => failure
theorem c_tuple : CallR X (.type "tuple") (tPn X.K tupF) := by
  intro pins s σ H xs us Q I r h
  obtain ⟨ρ, B, hp, ds, d, hp', W, rl, e, k⟩ := h
  unfold tupF at e
  split at e
  · obtain ⟨rfl, rfl⟩ := pure_some e
    obtain ⟨v, rfl, rv⟩ := rl.oneI
    obtain ⟨a, ys, rfl, _, sq, l⟩ := rv.lstI
    exact call_tuple_of pins s σ H _ us Q I r ⟨a, ys, rfl, .inl ⟨sq, fol_tup W l k⟩⟩
  · obtain ⟨rfl, rfl⟩ := pure_some e
    obtain ⟨v, rfl, rv⟩ := rl.oneI
    obtain ⟨a, ys, rfl, nb, sq, l⟩ := rv.tupI
    exact call_tuple_of pins s σ H _ us Q I r ⟨a, ys, rfl, .inr ⟨sq, k _ ρ B H Gr.refl W (rep_tup nb sq l)⟩⟩
  · cases e
/-! ### isinstance -/
def tyName : DV → Option String
  | .non => some "NoneType"
  | .bl _ => some "bool"
  | .int _ => some "int"
  | .str _ => some "str"
  | .tup _ => some "tuple"
  | .lst _ => some "list"
  | .ref _ => none
/-- isinstance's answer for Python's own kinds -/
def isiB (t T : String) : Bool := t == T || (t == "bool" && T == "int")
def eIsi (T : String) (f : DEx) : DEx := fun env => do
  match tyName (← f env) with
  | some t => pure (.bl (isiB t T))
  | none => failure
theorem c_isi {T : String} (hT : T ∈ ["int", "bool", "tuple", "str", "list"]) : CallR X (.builtin "isinstance") (fun xs H Q => ∃ ρ B d x t, xs = [x, .ty T] ∧ RepV X.K ρ B H d x ∧ tyName d = some t ∧ Q (.bl (isiB t T)) H) := by
  intro pins s σ H xs us Q I r h
  obtain ⟨ρ, B, d, x, t, rfl, rv, ht, q⟩ := h
  obtain ⟨u, w', rfl, ru, rw'⟩ := vals2 r
  cases rw'
  have fin : ∀ tk, EP X pins σ Q (.bool (isiB t T)) { s with toks := tk } := fun tk => ⟨.bl _, H, I.tok _, rfl, q⟩
  have kit : PySem.W.kitOne X.K (.type t) (.type T) = some (isiB t T) := by
    have : t ∈ ["NoneType", "bool", "int", "str", "tuple", "list"] := by
      cases d <;> cases ht <;> simp
    simp only [List.mem_cons, List.not_mem_nil, or_false] at this hT
    rcases this with rfl | rfl | rfl | rfl | rfl | rfl <;> rcases hT with rfl | rfl | rfl | rfl | rfl <;> first | rfl | decide | with_unfolding_all rfl | kernel_rfl
  cases d with
  | non => obtain rfl := rv.nonI; cases ht; cases ru; exact PySem.W.kia_one PySem.W.kitx_none I.kIn True.intro kit (fun z => nomatch z) fin
  | bl b => obtain rfl := rv.blI; cases ht; cases ru; exact PySem.W.kia_one PySem.W.kitx_bool I.kIn True.intro kit (fun z => nomatch z) fin
  | int b => obtain rfl := rv.intI; cases ht; obtain ⟨tk, rfl⟩ := ru; exact PySem.W.kia_one PySem.W.kitx_int I.kIn True.intro kit (fun z => nomatch z) fin
  | str b => obtain rfl := rv.strI; cases ht; obtain ⟨tk, rfl⟩ := ru; exact PySem.W.kia_one PySem.W.kitx_str I.kIn True.intro kit (fun z => nomatch z) fin
  | ref b => cases ht
  | tup b =>
    cases ht
    obtain ⟨a, ys, rfl, _, sq, _⟩ := rv.tupI
    cases ru
    obtain ⟨its, _, ⟨o, e1, e2, _⟩, _⟩ := I.tuple sq
    exact PySem.W.kia_one PySem.W.kitx_tuple I.kIn ⟨o, e1, e2⟩ kit (fun z => nomatch z) fin
  | lst b =>
    cases ht
    obtain ⟨a, ys, rfl, _, sq, _⟩ := rv.lstI
    cases ru
    obtain ⟨its, _, ⟨o, k, e1, e2, _⟩, _⟩ := I.list sq
    exact PySem.W.kia_one PySem.W.kitx_list I.kIn ⟨o, e1, e2⟩ kit (fun z => nomatch z) fin
theorem de_isi {T : String} {p p' : Pos} (hm : X.mg "isinstance" = none) (hm' : X.mg (Str.ofString T) = none) (hv : bootBuiltins (Str.ofString T) = some (.type T)) (hT : T ∈ ["int", "bool", "tuple", "str", "list"]) (h : DE X e f) (hg : Gl X "isinstance" := by rfl) (hg' : Gl X (Str.ofString T) := by rfl)
    (hn : Str.ofString T ≠ "__name__" := by decide) (hdb : (Str.ofString T == ("__debug__" : Str)) = false := by decide) (hs : starEach [e, .Name (Str.ofString T) p'] X.env = (false, eval e X.env) :: starEach [.Name (Str.ofString T) p'] X.env := by rfl)
    (hs2 : starEach [.Name (Str.ofString T) p'] X.env = (false, eval (.Name (Str.ofString T) p') X.env) :: starEach [] X.env := by rfl) (hpl : (backTo pos (starEach [.Name (Str.ofString T) p'] X.env)).any (·.1) = false := by rfl) : DE X (.Call (.Name "isinstance" p) [e, .Name (Str.ofString T) p'] [] pos) (eIsi T f) :=
  L2.PE.imp (pe_callB (c_isi hT) hg hm boot_isinstance (pa_cons h (pa_cons (pe_bltn (v := .ty T) hg' hm' hv rfl hn hdb) pa_nil hs2) hs) (by decide) (by decide) hs hpl) fun σ H Q ⟨Z, env, ρ, B, hp, d, hp', S, e, k⟩ => by
    obtain ⟨x, hp1, e1, e2⟩ := bind_some e
    refine tD.run S e1 fun v ρ1 B1 H1 g1 S1 r1 => ?_
    cases q : tyName x with
    | none => rw [q] at e2; cases e2
    | some t =>
      rw [q] at e2
      obtain ⟨rfl, rfl⟩ := pure_some e2
      exact ⟨ρ1, B1, x, v, t, rfl, r1, q, k _ ρ1 B1 H1 g1 S1.wo rep_bl⟩
/-! ### a < b < c -/
def eChain (g g' : DV → DV → M DV) (fa fb fc : DEx) : DEx := fun env => do
  let x ← fa env
  let y ← fb env
  let z ← g x y
  if ← asB z then
    let u ← fc env
    g' y u
  else pure (.bl false)
end
end D

namespace D
open PySem PySem.Spec PyProof.Rows L2
section
variable {X : Cx} {e a b c : Expr} {f fa fb fc : DEx} {ca cb : DTx} {pos : Pos}
theorem eChain_imp {K : PySem.W.Frag} {g g' : DV → DV → M DV} {σ : St} {H : Hp} {Q : VK} (h : tD K (eChain g g' fa fb fc) σ H Q) : tChain (tP2 K g) (tP2 K g') (tD K fa) (tD K fb) (tD K fc) σ H Q := by
  obtain ⟨Z, env, ρ, B, hp, d, hp', S, e, k⟩ := h
  obtain ⟨x, hp1, e1, e⟩ := bind_some e
  obtain ⟨y, hp2, e2, e⟩ := bind_some e
  obtain ⟨z, hp3, e3, e⟩ := bind_some e
  obtain ⟨t, hp4, e4, e⟩ := bind_some e
  obtain ⟨rfl, rfl⟩ := asB_some e4
  refine tD.run S e1 fun v ρ1 B1 H1 g1 S1 r1 => tD.run S1 e2 fun u ρ2 B2 H2 g2 S2 r2 => ?_
  refine ⟨ρ2, B2, hp2, x, y, _, _, S2.wo, RepV.grow S1.wo.rb g2 _ _ r1, r2, e3, fun w ρ3 B3 H3 g3 W3 r3 => ⟨t, r3.blI, ?_⟩⟩
  have S3 := S2.grow g3 W3
  cases t with
  | false =>
    obtain ⟨rfl, rfl⟩ := pure_some e
    exact iteF (k _ ρ3 B3 H3 (g1.trans (g2.trans g3)) W3 rep_bl)
  | true =>
    obtain ⟨q, hp5, e5, e6⟩ := bind_some e
    refine iteT (tD.run S3 e5 fun p ρ4 B4 H4 g4 S4 r4 => ?_)
    exact ⟨ρ4, B4, hp5, y, q, d, hp', S4.wo, RepV.grow S3.wo.rb g4 _ _ (RepV.grow S2.wo.rb g3 _ _ r2), r4, e6, k.after (g1.trans (g2.trans (g3.trans g4)))⟩
theorem dt_chain {op op' : CmpOp} {g g' : DV → DV → M DV} (ho : P2 X (compareOp op) g) (ho' : P2 X (compareOp op') g') (ha : DE X a fa) (hb : DE X b fb) (hc : DE X c fc) (hm : lastMarks [op, op'] [b, c] = false := by with_unfolding_all rfl) : DT X (.Compare a [op, op'] [b, c] pos) (eB (eChain g g' fa fb fc)) :=
  L2.PT.imp (pt_chain ho ho' ha hb hc hm) fun σ H Q ⟨Z, env, ρ, B, hp, d, hp', S, e, k⟩ => by
    obtain ⟨x, hp1, e1, e2⟩ := bind_some e
    obtain ⟨rfl, rfl⟩ := asB_some e2
    exact eChain_imp (tD.run S e1 fun v ρ1 B1 H1 g1 S1 r1 => ⟨d, r1.blI, k ρ1 B1 H1 g1 S1.wo⟩)

/-! ### slices -/
abbrev DOx := En → M (Option Int)
def tDO (K : PySem.W.Frag) (f : DOx) : TO := fun σ H Q => ∃ Z env ρ B hp d hp', SOk K Z env σ ρ B hp H ∧ f env hp = some (d, hp') ∧ FolB K ρ B H hp' (Q d)
def DO (X : Cx) (e : Option Expr) (f : DOx) : Prop := PO X e (tDO X.K f)
def asI : DV → M Int
  | .int i => pure i
  | _ => failure
theorem asI_some {d : DV} {c : Int} {hp hp' : Hs} (h : asI d hp = some (c, hp')) : d = .int c ∧ hp = hp' := by
  cases d with
  | int b => obtain ⟨rfl, rfl⟩ := pure_some h; exact ⟨rfl, rfl⟩
  | _ => cases h
def oSome (f : DEx) : DOx := fun env => do let i ← asI (← f env); pure (some i)
theorem do_some (h : DE X e f) : DO X (some e) (oSome f) := fun pins s σ H Q I ⟨Z, env, ρ, B, hp, d, hp', S, e, k⟩ => by
  obtain ⟨x, hp1, e1, e2⟩ := bind_some e
  obtain ⟨i, hp2, e3, e4⟩ := bind_some e2
  obtain ⟨rfl, rfl⟩ := asI_some e3
  obtain ⟨rfl, rfl⟩ := pure_some e4
  exact po_some h pins s σ H Q I (tD.run S e1 fun v ρ1 B1 H1 g1 S1 r1 => ⟨i, r1.intI, k ρ1 B1 H1 g1 S1.wo⟩)
theorem tDO.run {K : PySem.W.Frag} {f : DOx} {Z : Ent} {env : En} {σ : St} {ρ : List Addr} {B : Addr → Prop} {hp hp1 : Hs} {H : Hp} {d : Option Int} {Q : Option Int → Hp → Prop} (S : SOk K Z env σ ρ B hp H) (e : f env hp = some (d, hp1))
    (k : ∀ ρ' B' H', Gr K ρ B H ρ' B' H' → SOk K Z env σ ρ' B' hp1 H' → Q d H') : tDO K f σ H Q :=
  ⟨Z, env, ρ, B, hp, d, hp1, S, e, fun ρ' B' H' g W => k ρ' B' H' g (S.grow g W)⟩
/-- the items of xs[lo:hi] -/
def cutD (ds : List DV) (lo hi : Option Int) : List DV := (ds.drop (HT.sIx ds.length 0 lo)).take (HT.sIx ds.length ds.length hi - HT.sIx ds.length 0 lo)
theorem cutD_rep {K : PySem.W.Frag} {ρ : List Addr} {B : Addr → Prop} {H : Hp} {ds : List DV} {xs : List V} {lo hi : Option Int} (r : RepL K ρ B H ds xs) : RepL K ρ B H (cutD ds lo hi) (cutV xs lo hi) := by
  unfold cutD cutV
  rw [r.length]
  exact RepL.take _ (RepL.drop _ r)
def slD (d : DV) (lo hi : Option Int) : M DV := match d with
  | .lst ds => pure (.lst (cutD ds lo hi))
  | .tup ds => pure (.tup (cutD ds lo hi))
  | _ => failure
def eSl (f : DEx) (lo hi : DOx) : DEx := fun env => do let d ← f env; let l ← lo env; let h ← hi env; slD d l h
def tPs (K : PySem.W.Frag) : V → Option Int → Option Int → Hp → VK → Prop := fun x lo hi H Q => ∃ ρ B hp d r hp', WOk K ρ B hp H ∧ RepV K ρ B H d x ∧ slD d lo hi hp = some (r, hp') ∧ Fol K ρ B H r hp' Q
theorem tuple_whole {prog : Program} {w : World} {A : Around} {E : Value → Shared → Prop} {s : Shared} {t sl : Addr} {items : Array Value} {vl vu : Value} {lo hi : Option Int} {Q : Value → Shared → Prop} (ht : IsTup s.heap t items) (hs : s.heap.IsSliceOf sl vl vu .none) (pl : IsPart vl lo) (pu : IsPart vu hi)
    (h0 : HT.sIx items.size 0 lo = 0) (h1 : HT.sIx items.size items.size hi = items.size) (h : Q (.ref t) s) : wpAny (model prog w) A (getItem (.ref t) (.ref sl)) Q E s := by
  obtain ⟨os, hos, hcs, hds⟩ := id hs
  have hTs : s.TypeIs (.ref sl) "slice" := ⟨os, hos, hcs⟩
  unfold getItem
  try with_reducible refine wpAny_holding ?_
  first | refine wpAny_bind (wpAny_pure ?_) | skip
  refine wpAny_bind (wpAny_sequenceKey ht.typeIs (by decide) ?_)
  refine wpAny_bind (wpAny_callSpecial?_slot (name := Str.ofString "__getitem__") ht.typeIs PyProof.Rows.slot_tuple_getitem (wpAny_call_entry PyProof.Rows.slot_tuple_getitem ht.typeIs entry_tuple_getitem ?_ (args_tuple_getitem _ _)))
  show wpAny _ _ (Builtin.Tuple.tupleItemsOf (.ref t) >>= _) _ _ s
  refine wpAny_bind (tupleItemsOf_ ht ?_)
  refine wpAny_bind (wpAny_typeOf hTs ?_)
  rw [if_pos (by decide)]
  refine wpAny_bind (HT.sliceApplied_gen hs pl pu ?_)
  have yes : (((HT.sIx items.size 0 lo : Nat) : Int) == 0 && (1 : Int) == 1 && (HT.sIx items.size items.size hi - HT.sIx items.size 0 lo) == items.size) = true := by rw [h0, h1]; simp
  show wpAny _ _ (if (((HT.sIx items.size 0 lo : Nat) : Int) == 0 && (1 : Int) == 1 && (HT.sIx items.size items.size hi - HT.sIx items.size 0 lo) == items.size) = true then _ else _) _ _ s
  rw [if_pos yes]
  have ex : ∀ {Q' : Bool → Shared → Prop} {A' : Around} {E' : Value → Shared → Prop}, Q' true s → wpAny (model prog w) A' (Builtin.Tuple.tupleIsExact (.ref t)) Q' E' s := fun {Q' A' E'} q => by
    unfold Builtin.Tuple.tupleIsExact
    exact wpAny_bind (wpAny_typeOf ht.typeIs (wpAny_pure (by rw [show (Value.type "tuple" == Value.type "tuple") = true from beq_self_eq_true _]; exact q)))
  refine wpAny_bind (ex ?_)
  rw [if_pos rfl]
  first
    | exact wpAny_bind (wpAny_rule (wpAny_pure ⟨_, rfl, wpAny_pure h⟩))
    | exact wpAny_bind (wpAny_rule (wpAny_bind (wpAny_pure (wpAny_pure ⟨_, rfl, wpAny_pure h⟩))))
theorem sl_tupW : SlR X (fun x lo hi H Q => ∃ a xs, x = .ref a ∧ SqT X.K H a xs ∧ (HT.sIx xs.length 0 lo = 0 ∧ HT.sIx xs.length xs.length hi = xs.length) ∧ Q (.ref a) H) := by
  intro pins s σ H x v vl vu lo hi sl Q I rx hs pl pu h
  obtain ⟨a, xs, rfl, hx, ⟨h0, h1⟩, q⟩ := h
  cases rx
  obtain ⟨its, r, ht, hz⟩ := I.tuple hx
  have hlen : its.toArray.size = xs.length := by rw [List.size_toArray]; exact r.length.symm
  exact ⟨"tuple", _, PyProof.Rows.slot_tuple_getitem.lookup, ht.typeIs, tuple_whole ht hs pl pu (by rw [hlen]; exact h0) (by rw [hlen]; exact h1) ⟨.ref a, H, I, rfl, q⟩⟩
theorem cut_whole {α : Type} (ds : List α) (i j : Nat) (h0 : i = 0) (h1 : j = ds.length) : (ds.drop i).take (j - i) = ds := by subst h0 h1; simp
theorem p_sl : SlR X (tPs X.K) := by
  intro pins s σ H x v vl vu lo hi sl Q I rx hs pl pu h
  obtain ⟨ρ, B, hp, d, r, hp', W, rv, e, k⟩ := h
  cases d with
  | lst ds =>
    obtain ⟨rfl, rfl⟩ := pure_some e
    obtain ⟨a, xs, rfl, nb, sq, rl⟩ := rv.lstI
    exact sl_list pins s σ H _ v vl vu lo hi sl Q I rx hs pl pu ⟨a, xs, rfl, sq, fol_lst W (cutD_rep rl) k⟩
  | tup ds =>
    obtain ⟨rfl, rfl⟩ := pure_some e
    obtain ⟨a, xs, rfl, nb, sq, rl⟩ := rv.tupI
    by_cases hw : HT.sIx xs.length 0 lo = 0 ∧ HT.sIx xs.length xs.length hi = xs.length
    · refine sl_tupW pins s σ H _ v vl vu lo hi sl Q I rx hs pl pu ⟨a, xs, rfl, sq, hw, ?_⟩
      have : cutD ds lo hi = ds := by unfold cutD; exact cut_whole ds _ _ (by rw [rl.length]; exact hw.1) (by rw [rl.length]; exact hw.2)
      rw [this] at k
      exact k _ ρ B H Gr.refl W (rep_tup nb sq rl)
    · exact sl_tup pins s σ H _ v vl vu lo hi sl Q I rx hs pl pu ⟨a, xs, rfl, sq, hw, fol_tup W (cutD_rep rl) k⟩
  | non => cases e
  | bl _ => cases e
  | int _ => cases e
  | str _ => cases e
  | ref _ => cases e
theorem de_sl {lo hi : Option Expr} {ol oh : DOx} {p2 : Pos} (h : DE X e f) (hl : DO X lo ol) (hh : DO X hi oh) : DE X (.Subscript e (.Slice lo hi none p2) pos) (eSl f ol oh) :=
  L2.PE.imp (pe_slice p_sl h hl hh) fun σ H Q ⟨Z, env, ρ, B, hp, d, hp', S, e, k⟩ => by
    obtain ⟨x, hp1, e1, e⟩ := bind_some e
    obtain ⟨l, hp2, e2, e⟩ := bind_some e
    obtain ⟨u, hp3, e3, e⟩ := bind_some e
    refine tD.run S e1 fun v ρ1 B1 H1 g1 S1 r1 => tDO.run S1 e2 fun ρ2 B2 H2 g2 S2 => tDO.run S2 e3 fun ρ3 B3 H3 g3 S3 => ?_
    exact ⟨ρ3, B3, hp3, x, d, hp', S3.wo, RepV.grow S1.wo.rb (g2.trans g3) _ _ r1, e, k.after (g1.trans (g2.trans g3))⟩
/-! ### the law -/
theorem fn_ok {P : Program} {w : World} {K : PySem.W.Frag} {mg : Str → Option Value} {base : Heap} {x : Str} {stm : Stmt} {g : Addr} {fd : FuncData} {N ps : List Str} {k : Nat} {body : DSx} (F : Fun K x x stm g fd) (Sc : FnScope N ps (defScope stm))
    (h : ∀ (cdv : Value) (A : Around) (outer : List Env) (s : Shared) (H : Hp) (E : XK), Room k (A.deeper (envOfC x (defScope stm) s.heap.objs.size g cdv)) → DSs (cxOf CX0 P w K mg base N x (defScope stm) g cdv A outer s H E).nox (defBody stm) body) :
    FnOk P w K mg base CX0 (k + 1) g fd ps (spD K ps.length (runF N.length body)) := by
  refine F.ok Sc (fun vs H Q E h => h.1) (fun cdv A outer s H vs Q E hr sp => ?_)
  obtain ⟨hn, ρ, B, hp, ds, d, hp', W, r, e, k⟩ := sp
  obtain ⟨⟨fl, env'⟩, hp1, e1, e2⟩ := bind_some e
  refine ⟨_, h cdv A outer s H E hr, ⟨ρ, B, H⟩, _, ρ, B, hp, fl, env', hp1, sOk_start W r, e1, fun σ' ρ' B' H' g' S' => ?_⟩
  cases fl with
  | nx => obtain ⟨rfl, rfl⟩ := pure_some e2; exact k .non ρ' B' H' S'.gr S'.wo rep_non
  | rt x => obtain ⟨rfl, rfl⟩ := pure_some e2; exact fun v rv => k v ρ' B' H' S'.gr S'.wo rv
  | bk => cases e2
  | ct => cases e2
theorem rep_ints {K : PySem.W.Frag} {ρ : List Addr} {B : Addr → Prop} {H : Hp} : ∀ ns : List Int, RepL K ρ B H (ns.map DV.int) (ns.map V.int)
  | [] => RepL.nil
  | _ :: r => RepL.cons rep_int (rep_ints r)
theorem law_sp {K : PySem.W.Frag} {F : List DV → M DV} {H : Hp} {a : Addr} {ns : List Int} {E : XK} (h : ∃ hp', F [.lst (ns.map .int)] [] = some (.bl true, hp')) (hS : SqL K H a (ns.map V.int)) : spD K 1 F [.ref a] H (fun v _ => v = .bl true) E := by
  obtain ⟨hp', h⟩ := h
  refine ⟨rfl, [], fun _ => False, [], [.lst (ns.map .int)], .bl true, hp', ⟨rfl, List.nodup_nil, fun i a o h => by simp at h, fun a h => absurd h (by simp), fun a h => absurd h (fun z => z), fun a h => h.elim⟩, RepL.one (rep_lst (fun z => z) hS (rep_ints ns)), h, fun v _ _ _ _ _ r => r.blI⟩
end
end D

/-! ## zip of two tuples, walked with a pair as target -/
namespace L2
open PySem PySem.Spec PyProof.Rows
section
variable {prog : Program} {w : World} {A : Around} {E : Value → Shared → Prop} {s : Shared}
theorem zt_item {p q : Addr} {n : Nat} {xs : Array Value} {v : Value} {Q : Value → Shared → Prop} (a1 : s.heap.IsTupleIter p q n) (a2 : s.heap.IsTuple q xs) (a3 : xs[n]? = some v)
    (k : ∀ g, g.IsTupleIter p q (n + 1) → Heap.SameBut p s.heap g → Q v { s with heap := g }) : wpAny (model prog w) A (Builtin.SmallTypes.nextOf (.ref p)) Q E s := by
  obtain ⟨ob, b1, b2, b3⟩ := id a1
  obtain ⟨oq, b4, _, m, b5⟩ := a2
  unfold Builtin.SmallTypes.nextOf
  refine wpAny_bind (wpAny_callSpecial?_slot (name := Str.ofString "__next__") a1.typeIs F.slot_tuple_iterator_next (wpAny_call_entry F.slot_tuple_iterator_next a1.typeIs F.entry_tuple_iterator_next ?_ (F.args_tuple_iterator_next_1 _)))
  show wpAny _ _ (field (.ref p) 0 >>= _) _ _ s
  refine wpAny_bind (wpAny_field b1 b3 (x := .ref q) rfl ?_)
  show wpAny _ _ (if (Value.ref q == Value.none) = true then _ else _) _ _ s
  rw [if_neg (show ¬ ((Value.ref q == Value.none) = true) from Bool.false_ne_true)]
  show wpAny _ _ (field (.ref p) 1 >>= _) _ _ s
  refine wpAny_bind (wpAny_field b1 b3 (x := .int n 0) rfl ?_)
  show wpAny _ _ (seqItems? (.ref q) >>= _) _ _ s
  refine wpAny_bind (wpAny_seqItems b4 b5 ?_)
  simp only [Int.toNat_natCast, a3]
  refine wpAny_bind (wpAny_setField b1 b3 (by simp) (wpAny_pure ⟨v, rfl, wpAny_pure (k _ ?_ (Heap.SameBut.update ..))⟩))
  exact ⟨_, Heap.get?_update_self _ b1 (Obj.isFreed_of_fields (Obj.data_mapFields b3 _)), (Obj.cls_mapFields ..).trans b2, by rw [Obj.data_mapFields b3]; simp [rawInt]⟩
theorem zt_end {p q : Addr} {n : Nat} {xs : Array Value} {Q : Value → Shared → Prop} (hh : A.handled = none) (a1 : s.heap.IsTupleIter p q n) (a2 : s.heap.IsTuple q xs) (a3 : xs[n]? = none)
    (k : ∀ g x, Heap.ExtBut p s.heap g → (∃ o, g.get? x = some o ∧ o.cls = .type "StopIteration") → E (.ref x) { s with heap := g }) : wpAny (model prog w) A (Builtin.SmallTypes.nextOf (.ref p)) Q E s := by
  obtain ⟨ob, b1, b2, b3⟩ := id a1
  obtain ⟨oq, b4, _, m, b5⟩ := a2
  unfold Builtin.SmallTypes.nextOf
  refine wpAny_bind (wpAny_callSpecial?_slot (name := Str.ofString "__next__") a1.typeIs F.slot_tuple_iterator_next (wpAny_call_entry F.slot_tuple_iterator_next a1.typeIs F.entry_tuple_iterator_next ?_ (F.args_tuple_iterator_next_1 _)))
  show wpAny _ _ (field (.ref p) 0 >>= _) _ _ s
  refine wpAny_bind (wpAny_field b1 b3 (x := .ref q) rfl ?_)
  show wpAny _ _ (if (Value.ref q == Value.none) = true then _ else _) _ _ s
  rw [if_neg (show ¬ ((Value.ref q == Value.none) = true) from Bool.false_ne_true)]
  show wpAny _ _ (field (.ref p) 1 >>= _) _ _ s
  refine wpAny_bind (wpAny_field b1 b3 (x := .int n 0) rfl ?_)
  show wpAny _ _ (seqItems? (.ref q) >>= _) _ _ s
  refine wpAny_bind (wpAny_seqItems b4 b5 ?_)
  simp only [Int.toNat_natCast, a3]
  refine wpAny_bind (wpAny_rule (wpAny_bind (wpAny_setField b1 b3 (by simp) ?_)))
  show wpAny _ _ (newExc (.type "StopIteration") [] >>= _) _ _ _
  refine wpAny_bind ?_
  simp only [newExc, newTuple]
  refine wpAny_bind (wpAny_newObj_type ?_ (by size_fits))
  refine wpAny_bind (m := firstArgMember _ _) (wpAny_of_eq (a := Value.none) (by first | rfl | (simp only [firstArgMember]; rfl)) ?_)
  refine wpAny_newObj_type ?_ (by size_fits)
  simp only [raiseNew]
  refine wpAny_bind (wpAny_handled ?_)
  first | rw [show A.in1.handled = none from hh] | rw [hh]
  refine wpAny_bind (wpAny_pure (wpAny_throw ?_))
  exact k _ _ (((Heap.SameBut.update ..).extBut.push _).push _) ⟨_, Heap.get?_push_size _ rfl, rfl⟩
/-- the five things of a zip of two tuples -/
structure ZA (z p o i j a b : Addr) : Prop where
  pz : p ≠ z
  oz : o ≠ z
  iz : i ≠ z
  jz : j ≠ z
  po : p ≠ o
  pi : p ≠ i
  pj : p ≠ j
  oi : o ≠ i
  oj : o ≠ j
  ij : i ≠ j
  az : a ≠ z
  ao : a ≠ o
  ai : a ≠ i
  aj : a ≠ j
  bz : b ≠ z
  bo : b ≠ o
  bi : b ≠ i
  bj : b ≠ j
structure ZS (h : Heap) (z p o i j a b : Addr) (n : Nat) (f : Value) : Prop where
  zz : IsZip h z p o f
  pp : IsPair h p (.ref i) (.ref j)
  oo : ∃ x y, IsPair h o x y
  ii : h.IsTupleIter i a n
  jj : h.IsTupleIter j b n
theorem zt_next {z p o i j a b : Addr} {n : Nat} {xs ys : Array Value} {x y : Value} {Q : Value → Shared → Prop} (D : ZA z p o i j a b) (S : ZS s.heap z p o i j a b n .none) (ha : s.heap.IsTuple a xs) (hb : s.heap.IsTuple b ys) (hx : xs[n]? = some x) (hy : ys[n]? = some y)
    (k : ∀ g, ZS g z p o i j a b (n + 1) (rawInt s.heap.objs.size) → IsPair g s.heap.objs.size x y → g.objs.size = s.heap.objs.size + 1 → (∀ c u, c ≠ z → c ≠ o → c ≠ i → c ≠ j → s.heap.get? c = some u → g.get? c = some u) → Q (.ref s.heap.objs.size) { s with heap := g }) :
    wpAny (model prog w) A (Builtin.«zip.__next__» ⟨[.ref z], []⟩) (fun fin s' => ∃ v, fin = .done (.ret v) ∧ Q v s') E s := by
  obtain ⟨zz, pp, ⟨u1, u2, oo⟩, ii, jj⟩ := S
  show wpAny _ _ (field (.ref z) 2 >>= _) _ _ _
  refine wpAny_bind (wpAny_field zz rfl (x := .bool false) rfl ?_)
  show wpAny _ _ (field (.ref z) 3 >>= _) _ _ _
  refine wpAny_bind (wpAny_field zz rfl (x := .ref p) rfl ?_)
  refine wpAny_bind (wpAny_seqItems pp rfl ?_)
  show wpAny _ _ (Builtin.SmallTypes.ownedTupleIsFree (.ref z) >>= _) _ _ _
  refine wpAny_bind ?_
  unfold Builtin.SmallTypes.ownedTupleIsFree
  refine wpAny_bind (wpAny_field zz rfl (x := .none) rfl (wpAny_pure ?_))
  simp only [if_true]
  refine wpAny_bind (wpAny_rule ?_)
  refine wpAny_bind (wpAny_field zz rfl (x := .ref o) rfl ?_)
  refine wpAny_bind (wpAny_setField_rec zz (by simp) fun g1 z1 k1 => ?_)
  replace z1 : IsZip g1 z p o .ellipsis := z1
  refine wpAny_bind ?_
  simp only [List.zipIdx_cons, List.zipIdx_nil, List.forIn_cons, List.forIn_nil]
  refine wpAny_bind (wpAny_bind (wpAny_onRaise ?_))
  show wpAny _ _ (Builtin.SmallTypes.nextOf (.ref i) >>= _) _ _ _
  have ht : ∀ {g g' : Heap} {q c : Addr} {vs : Array Value}, Heap.SameBut q g g' → c ≠ q → g.IsTuple c vs → g'.IsTuple c vs := fun {g g' q c vs} sb hc ⟨ob, e, r⟩ => ⟨ob, sb.extBut _ _ hc e, r⟩
  refine wpAny_bind (zt_item (ii.extBut k1.extBut D.iz) (ht k1 D.az ha) hx fun g2 i2 k2 => wpAny_pure ?_)
  have o2 : IsPair g2 o u1 u2 := k2.extBut _ _ D.oi (k1.extBut _ _ D.oz oo)
  refine wpAny_bind (wpAny_seqItems o2 rfl ?_)
  refine wpAny_bind (wpAny_updateSeq_pair o2 fun g3 o3 k3 => ?_)
  replace o3 : IsPair g3 o x u2 := o3
  refine wpAny_bind (wpAny_letGo (wpAny_pure ?_))
  refine wpAny_bind (wpAny_bind (wpAny_onRaise ?_))
  show wpAny _ _ (Builtin.SmallTypes.nextOf (.ref j) >>= _) _ _ _
  refine wpAny_bind (zt_item (((jj.extBut k1.extBut D.jz).extBut k2.extBut D.ij.symm).extBut k3.extBut D.oj.symm) (ht k3 D.bo (ht k2 D.bi (ht k1 D.bz hb))) hy fun g4 j4 k4 => wpAny_pure ?_)
  have o4 : IsPair g4 o x u2 := k4.extBut _ _ D.oj o3
  refine wpAny_bind (wpAny_seqItems o4 rfl ?_)
  refine wpAny_bind (wpAny_updateSeq_pair o4 fun g5 o5 k5 => ?_)
  replace o5 : IsPair g5 o x y := o5
  refine wpAny_bind (wpAny_letGo (wpAny_pure (wpAny_pure ?_)))
  refine wpAny_bind (wpAny_seqItems o5 rfl ?_)
  refine wpAny_bind (wpAny_newTuple ?_)
  have sz : g5.objs.size = s.heap.objs.size := by rw [k5.1, k4.1, k3.1, k2.1, k1.1]
  have z5 : IsZip g5 z p o .ellipsis := k5.extBut _ _ D.oz.symm (k4.extBut _ _ D.jz.symm (k3.extBut _ _ D.oz.symm (k2.extBut _ _ D.iz.symm z1)))
  have kk : ∀ c u, c ≠ z → c ≠ o → c ≠ i → c ≠ j → s.heap.get? c = some u → g5.get? c = some u := fun c u c1 c2 c3 c4 e => k5.extBut _ _ c2 (k4.extBut _ _ c4 (k3.extBut _ _ c2 (k2.extBut _ _ c3 (k1.extBut _ _ c1 e))))
  have i5 : g5.IsTupleIter i a (n + 1) := ((i2.extBut k3.extBut D.oi.symm).extBut k4.extBut D.ij).extBut k5.extBut D.oi.symm
  have j5 : g5.IsTupleIter j b (n + 1) := j4.extBut k5.extBut D.oj.symm
  have zl : z < g5.objs.size := Heap.lt_size z5
  show wpAny _ _ (Builtin.SmallTypes.ownedTupleHandOut (.ref z) (.ref g5.objs.size) >>= _) _ _ _
  refine wpAny_bind ?_
  unfold Builtin.SmallTypes.ownedTupleHandOut
  have z6 : IsZip (g5.push { cls := .type "tuple", data := .seq #[x, y] }) z p o .ellipsis := Heap.get?_push_of_some _ z5
  refine wpAny_bind (wpAny_setField_rec z6 (by simp) fun g7 z7 k7 => ?_)
  replace z7 : IsZip g7 z p o (rawInt g5.objs.size) := z7
  refine wpAny_setField_rec z7 (by simp) fun g8 z8 k8 => ?_
  replace z8 : IsZip g8 z p o (rawInt g5.objs.size) := z8
  have up : ∀ c u, c ≠ z → g5.get? c = some u → g8.get? c = some u := fun c u c1 e => k8.extBut _ _ c1 (k7.extBut _ _ c1 (Heap.get?_push_of_some _ e))
  have t8 : IsPair g8 g5.objs.size x y := k8.extBut _ _ (Nat.ne_of_gt zl) (k7.extBut _ _ (Nat.ne_of_gt zl) (Heap.get?_push_size _ rfl))
  have s8 : g8.objs.size = g5.objs.size + 1 := by rw [k8.1, k7.1, Heap.size_push]
  rw [sz] at z8 t8 s8
  refine wpAny_pure ⟨_, rfl, ?_⟩
  show Q (.ref g5.objs.size) _
  rw [sz]
  exact k g8 ⟨z8, up _ _ D.pz (kk _ _ D.pz D.po D.pi D.pj pp), ⟨x, y, up _ _ D.oz o5⟩, i5.at fun u e => up _ u D.iz e, j5.at fun u e => up _ u D.jz e⟩ t8 s8 fun c u c1 c2 c3 c4 e => up c u c1 (kk c u c1 c2 c3 c4 e)
theorem zt_stop {z p o i j a b : Addr} {n : Nat} {xs ys : Array Value} {Q : PySem.Fin → Shared → Prop} (hh : A.handled = none) (D : ZA z p o i j a b) (S : ZS s.heap z p o i j a b n .none) (ha : s.heap.IsTuple a xs) (hb : s.heap.IsTuple b ys) (he : xs[n]? = none ∨ ys[n]? = none)
    (k : ∀ g x, (∀ c u, c ≠ z → c ≠ o → c ≠ i → c ≠ j → s.heap.get? c = some u → g.get? c = some u) → (∃ u, g.get? x = some u ∧ u.cls = .type "StopIteration") → E (.ref x) { s with heap := g }) :
    wpAny (model prog w) A (Builtin.«zip.__next__» ⟨[.ref z], []⟩) Q E s := by
  obtain ⟨zz, pp, ⟨u1, u2, oo⟩, ii, jj⟩ := S
  have ht : ∀ {g g' : Heap} {q c : Addr} {vs : Array Value}, Heap.SameBut q g g' → c ≠ q → g.IsTuple c vs → g'.IsTuple c vs := fun {g g' q c vs} sb hc ⟨ob, e, r⟩ => ⟨ob, sb.extBut _ _ hc e, r⟩
  show wpAny _ _ (field (.ref z) 2 >>= _) _ _ _
  refine wpAny_bind (wpAny_field zz rfl (x := .bool false) rfl ?_)
  show wpAny _ _ (field (.ref z) 3 >>= _) _ _ _
  refine wpAny_bind (wpAny_field zz rfl (x := .ref p) rfl ?_)
  refine wpAny_bind (wpAny_seqItems pp rfl ?_)
  show wpAny _ _ (Builtin.SmallTypes.ownedTupleIsFree (.ref z) >>= _) _ _ _
  refine wpAny_bind ?_
  unfold Builtin.SmallTypes.ownedTupleIsFree
  refine wpAny_bind (wpAny_field zz rfl (x := .none) rfl (wpAny_pure ?_))
  simp only [if_true]
  refine wpAny_bind (wpAny_rule ?_)
  refine wpAny_bind (wpAny_field zz rfl (x := .ref o) rfl ?_)
  refine wpAny_bind (wpAny_setField_rec zz (by simp) fun g1 z1 k1 => ?_)
  replace z1 : IsZip g1 z p o .ellipsis := z1
  refine wpAny_bind ?_
  simp only [List.zipIdx_cons, List.zipIdx_nil, List.forIn_cons, List.forIn_nil]
  refine wpAny_bind (wpAny_bind (wpAny_onRaise ?_))
  show wpAny _ _ (Builtin.SmallTypes.nextOf (.ref i) >>= _) _ _ _
  cases hx : xs[n]? with
  | none =>
    refine wpAny_bind (zt_end hh (ii.extBut k1.extBut D.iz) (ht k1 D.az ha) hx fun g2 x k2 h2 => ?_)
    obtain ⟨oe, h3, h4⟩ := h2
    have z2 : IsZip g2 z p o .ellipsis := k2 _ _ D.iz.symm z1
    have xz : x ≠ z := fun q => by subst q; rw [z2] at h3; cases h3; simp at h4
    exact wpAny_setField_rec z2 (by simp) fun g3 _ k3 => k g3 x (fun c u c1 _ c3 _ e => k3.extBut _ _ c1 (k2 _ _ c3 (k1.extBut _ _ c1 e))) ⟨oe, k3.extBut _ _ xz h3, h4⟩
  | some x0 =>
    have hy : ys[n]? = none := by rcases he with h | h; rw [hx] at h; cases h; exact h
    refine wpAny_bind (zt_item (ii.extBut k1.extBut D.iz) (ht k1 D.az ha) hx fun g2 i2 k2 => wpAny_pure ?_)
    have o2 : IsPair g2 o u1 u2 := k2.extBut _ _ D.oi (k1.extBut _ _ D.oz oo)
    refine wpAny_bind (wpAny_seqItems o2 rfl ?_)
    refine wpAny_bind (wpAny_updateSeq_pair o2 fun g3 o3 k3 => ?_)
    refine wpAny_bind (wpAny_letGo (wpAny_pure ?_))
    refine wpAny_bind (wpAny_bind (wpAny_onRaise ?_))
    show wpAny _ _ (Builtin.SmallTypes.nextOf (.ref j) >>= _) _ _ _
    refine wpAny_bind (zt_end hh (((jj.extBut k1.extBut D.jz).extBut k2.extBut D.ij.symm).extBut k3.extBut D.oj.symm) (ht k3 D.bo (ht k2 D.bi (ht k1 D.bz hb))) hy fun g4 x k4 h2 => ?_)
    obtain ⟨oe, h3, h4⟩ := h2
    have z4 : IsZip g4 z p o .ellipsis := k4 _ _ D.jz.symm (k3.extBut _ _ D.oz.symm (k2.extBut _ _ D.iz.symm z1))
    have xz : x ≠ z := fun q => by subst q; rw [z4] at h3; cases h3; simp at h4
    exact wpAny_setField_rec z4 (by simp) fun g5 _ k5 => k g5 x (fun c u c1 c2 c3 c4 e => k5.extBut _ _ c1 (k4 _ _ c4 (k3.extBut _ _ c2 (k2.extBut _ _ c3 (k1.extBut _ _ c1 e))))) ⟨oe, k5.extBut _ _ xz h3, h4⟩
end
end L2

namespace L2
open PySem PySem.Spec PyProof.Rows
section
variable {X : Cx} {pins : List (Addr × Obj)} {σ : L2.St} {H : Hp} {s : Shared} {h' : Heap}
/-- the records at fp have turned -/
theorem Inv.turnL {t' : Nat} {fp : List Addr} (I : Inv X pins σ H s) (hf : ∀ b ∈ fp, FpOk X pins H b) (k : ∀ b o, b ∉ fp → s.heap.get? b = some o → h'.get? b = some o) : Inv X pins σ H { s with heap := h', toks := t' } := by
  refine I.step (g' := s.gens) (d' := s.drawn) (ch := fp) (fun b hb => ⟨(hf b hb).2.2.2.1, (hf b hb).2.1, (hf b hb).2.2.2.2.1, (hf b hb).2.2.2.2.2⟩) (fun b o _ _ hc e _ => k b o hc e) (fun b o _ _ hc e _ => ⟨o.slots, k b o hc e⟩) (fun _ _ _ _ n => n)
    (fun b o hc e => ⟨o, k b o hc e⟩) (fun _ _ e => e) (fun _ _ _ e => e) (fun b ps e => ⟨#[], by rw [e]; simp⟩) (fun m hm => ?_) (fun b u e => ?_) I.bare
  · obtain ⟨o, es, ep, ho, r⟩ := hm
    exact ⟨o, es, ep, k _ o (fun z => (hf _ z).2.1 rfl) ho, r⟩
  · have nf : ∀ c u, H c = some u → c ∉ fp := fun c u q z => by rw [(hf c z).1] at q; cases q
    refine (I.hok b u e).stay (fun c v hc q => k c v ?_ q) (fun _ q => q) fun _ _ q => q
    rcases hc with z | z
    · rw [z]; exact nf b u e
    · exact nf c _ z
/-- .. and a new tuple stands at the old heap's end -/
theorem Inv.turnNew {t' : Nat} {fp : List Addr} {vs : List V} {us : List Value} (I : Inv X pins σ H s) (hf : ∀ b ∈ fp, FpOk X pins H b) (k : ∀ b o, b ∉ fp → s.heap.get? b = some o → h'.get? b = some o)
    (hv : Vals vs us) (hz : vs.length ≤ sizeLine) (hT : IsTup h' s.heap.objs.size us.toArray) : Inv X pins σ (upd H s.heap.objs.size (.tup vs)) { s with heap := h', toks := t' } := by
  have hn : H s.heap.objs.size = none := I.hok.fresh (Nat.le_refl _)
  refine I.step (g' := s.gens) (d' := s.drawn) (ch := fp) (fun b hb => ⟨(hf b hb).2.2.2.1, (hf b hb).2.1, (hf b hb).2.2.2.2.1, (hf b hb).2.2.2.2.2⟩) (fun b o _ _ hc e _ => k b o hc e) (fun b o _ _ hc e _ => ⟨o.slots, k b o hc e⟩)
    (fun b o _ e n => by rw [upd_ne (Nat.ne_of_lt (Heap.lt_size e))]; exact n) (fun b o hc e => ⟨o, k b o hc e⟩) (fun b xs e => by rw [upd_ne (ne_of_none e hn)]; exact e) (fun b o u e => by rw [upd_ne (ne_of_none e hn)]; exact e) (fun b ps e => ⟨#[], by rw [upd_ne (ne_of_none e hn), e]; simp⟩) (fun m hm => ?_) (fun b u e => ?_) I.bare
  · obtain ⟨o, es, ep, ho, r⟩ := hm
    exact ⟨o, es, ep, k _ o (fun z => (hf _ z).2.1 rfl) ho, r⟩
  · by_cases hb : b = s.heap.objs.size
    · subst hb
      rw [upd_same] at e; cases e
      exact ⟨hz, us, hv, hT⟩
    · rw [upd_ne hb] at e
      have nf : ∀ c u, H c = some u → c ∉ fp := fun c u q z => by rw [(hf c z).1] at q; cases q
      refine (I.hok b u e).stay (fun c v hc q => k c v ?_ q) (fun c q => by rw [upd_ne (ne_of_none q hn)]; exact q) fun c xs q => by rw [upd_ne (ne_of_none q hn)]; exact q
      rcases hc with z | z
      · rw [z]; exact nf b u e
      · exact nf c _ z
end
def Itz (K : PySem.W.Frag) (a b : Addr) : It :=
  ⟨fun i H => ∃ xs ys x y, SqT K H a xs ∧ SqT K H b ys ∧ xs[i]? = some x ∧ ys[i]? = some y,
   fun i H v H' => ∃ p x y, H p = none ∧ (∀ xs, SqT K H a xs → xs[i]? = some x) ∧ (∀ ys, SqT K H b ys → ys[i]? = some y) ∧ v = .ref p ∧ H' = upd H p (.tup [x, y]),
   fun i H => ∃ xs ys, SqT K H a xs ∧ SqT K H b ys ∧ (xs.length ≤ i ∨ ys.length ≤ i)⟩
theorem ZS.at {h h' : Heap} {z p o i j a b : Addr} {n : Nat} {f : Value} (S : ZS h z p o i j a b n f) (k : ∀ c ∈ [z, p, o, i, j], ∀ u, h.get? c = some u → h'.get? c = some u) : ZS h' z p o i j a b n f := by
  obtain ⟨zz, pp, ⟨u1, u2, oo⟩, ii, jj⟩ := S
  exact ⟨k z (by simp) _ zz, k p (by simp) _ pp, ⟨u1, u2, k o (by simp) _ oo⟩, ii.at fun u e => k i (by simp) u e, jj.at fun u e => k j (by simp) u e⟩
theorem turn_zip {P : Program} {w : World} {K : PySem.W.Frag} {elts : List Expr} {kt : Nat} {pos : Pos} {z p o i j a b : Addr} (D : ZA z p o i j a b) : Turn P w K (.Tuple elts kt pos) (Itz K a b) [z, p, o, i, j] z (fun n h => ZS h z p o i j a b n .none) where
  mem := by simp
  obj := fun n h S c hc => by
    obtain ⟨zz, pp, ⟨u1, u2, oo⟩, ⟨oi, ei, ci, di⟩, ⟨oj, ej, cj, dj⟩⟩ := S
    simp only [List.mem_cons, List.not_mem_nil, or_false] at hc
    rcases hc with rfl | rfl | rfl | rfl | rfl
    · exact ⟨_, zz, fun v q => by have q' : Data.fields _ = Data.cell v := q; cases q'⟩
    · exact ⟨_, pp, fun v q => by have q' : Data.seq _ _ = Data.cell v := q; cases q'⟩
    · exact ⟨_, oo, fun v q => by have q' : Data.seq _ _ = Data.cell v := q; cases q'⟩
    · exact ⟨oi, ei, fun v q => by rw [di] at q; cases q⟩
    · exact ⟨oj, ej, fun v q => by rw [dj] at q; cases q⟩
  keep := fun n h h' S k => S.at k
  item := by
    intro X hP hw hK hc n pins s σ H E I hf S hg
    subst hP hw hK
    obtain ⟨xs, ys, x, y, qa, qb, hx, hy⟩ := hg
    obtain ⟨ia, ra, pa, _⟩ := I.tuple qa
    obtain ⟨ib, rb, pb, _⟩ := I.tuple qb
    obtain ⟨u, hu, ru⟩ := ra.get hx
    obtain ⟨v, hv, rv⟩ := rb.get hy
    have hT : s.TypeIs (.ref z) "zip" := ⟨_, S.zz, rfl⟩
    unfold pyNext
    refine wpAny_bind (wpAny_attempt (wpAny_callSpecial?_slot (name := Str.ofString "__next__") hT F.slot_zip_next (wpAny_call_entry F.slot_zip_next hT F.entry_zip_next
      (zt_next D S (show s.heap.IsTuple a ia.toArray from pa) (show s.heap.IsTuple b ib.toArray from pb) (by simpa using hu) (by simpa using hv) fun g S' tp sz kp => wpAny_pure ?_) (F.args_zip_next_1 _))))
    refine ⟨_, rfl, wpAny_letOwnedTupleGo_zip S'.zz fun g' z' sb => ?_⟩
    have kp' : ∀ c q, c ∉ [z, p, o, i, j] → s.heap.get? c = some q → g'.get? c = some q := fun c q hc e => by
      simp only [List.mem_cons, List.not_mem_nil, or_false, not_or] at hc
      exact sb.extBut _ _ hc.1 (kp c q hc.1 hc.2.2.1 hc.2.2.2.1 hc.2.2.2.2 e)
    have zl : z < s.heap.objs.size := Heap.lt_size S.zz
    have tp' : IsPair g' s.heap.objs.size u v := sb.extBut _ _ (Nat.ne_of_gt zl) tp
    have ne : ∀ c ∈ [z, p, o, i, j], c ≠ s.heap.objs.size := fun c hc e => by
      have q := (hf c hc)
      obtain ⟨zz, pp, ⟨u1, u2, oo⟩, ⟨oi, ei, _⟩, ⟨oj, ej, _⟩⟩ := S
      simp only [List.mem_cons, List.not_mem_nil, or_false] at hc
      rcases hc with rfl | rfl | rfl | rfl | rfl
      · exact Nat.ne_of_lt (Heap.lt_size zz) e
      · exact Nat.ne_of_lt (Heap.lt_size pp) e
      · exact Nat.ne_of_lt (Heap.lt_size oo) e
      · exact Nat.ne_of_lt (Heap.lt_size ei) e
      · exact Nat.ne_of_lt (Heap.lt_size ej) e
    refine ⟨.ref s.heap.objs.size, upd H s.heap.objs.size (.tup [x, y]), I.turnNew (t' := s.toks) hf kp' (us := [u, v]) (.cons ru (.cons rv .nil)) (show 2 ≤ sizeLine by decide) ⟨_, tp', rfl, _, rfl⟩, rfl,
      ⟨_, x, y, I.hok.fresh (Nat.le_refl _), fun xs' h => by rw [I.tuple_inj h qa]; exact hx, fun ys' h => by rw [I.tuple_inj h qb]; exact hy, rfl, rfl⟩, ?_, fun c hc => ?_⟩
    · obtain ⟨_, pp, ⟨u1, u2, oo⟩, ii, jj⟩ := S'
      exact ⟨z', sb.extBut _ _ D.pz pp, ⟨u1, u2, sb.extBut _ _ D.oz oo⟩, ii.extBut sb.extBut D.iz, jj.extBut sb.extBut D.jz⟩
    · rw [upd_ne (ne c hc)]; exact (hf c hc).1
  done := by
    intro X hP hw hK hc n pins s σ H E I hf S hg
    subst hP hw hK
    obtain ⟨xs, ys, qa, qb, hs⟩ := hg
    obtain ⟨ia, ra, pa, _⟩ := I.tuple qa
    obtain ⟨ib, rb, pb, _⟩ := I.tuple qb
    have l1 := ra.length
    have l2 := rb.length
    have hT : s.TypeIs (.ref z) "zip" := ⟨_, S.zz, rfl⟩
    unfold pyNext
    refine wpAny_bind (wpAny_attempt (wpAny_callSpecial?_slot (name := Str.ofString "__next__") hT F.slot_zip_next (wpAny_call_entry F.slot_zip_next hT F.entry_zip_next
      (zt_stop (I.ok.hd hc) D S (show s.heap.IsTuple a ia.toArray from pa) (show s.heap.IsTuple b ib.toArray from pb) (by rcases hs with q | q; exact .inl (by simp; omega); exact .inr (by simp; omega)) fun g x kp hx => ?_) (F.args_zip_next_1 _))))
    obtain ⟨ox, h1, h2⟩ := hx
    refine wpAny_bind (wpAny_isInstance (T := "StopIteration") (b := true) ⟨ox, h1, h2⟩ isSubtype_stop ?_)
    refine wpAny_pure ⟨rfl, I.turnL (t' := s.toks) hf fun c q hc e => ?_⟩
    simp only [List.mem_cons, List.not_mem_nil, or_false, not_or] at hc
    exact kp c q hc.1 hc.2.2.1 hc.2.2.2.1 hc.2.2.2.2 e
  self := fun _ _ _ _ _ S h => wpAny_pyIter_zip S.zz h
abbrev zt1 (h : Heap) (a : Addr) : Heap := h.push { cls := .type "tuple_iterator", data := .fields #[.ref a, .int 0 0] }
abbrev zt2 (h : Heap) (a b : Addr) : Heap := (zt1 h a).push { cls := .type "tuple_iterator", data := .fields #[.ref b, .int 0 0] }
abbrev zt3 (h : Heap) (a b : Addr) : Heap := (zt2 h a b).push { cls := .type "tuple", data := .seq #[.ref h.objs.size, .ref (zt1 h a).objs.size] }
abbrev zt4 (h : Heap) (a b : Addr) : Heap := (zt3 h a b).push { cls := .type "tuple", data := .seq #[.none, .none] }
abbrev zt5 (h : Heap) (a b : Addr) : Heap := (zt4 h a b).push { cls := .type "zip", data := .fields #[.none, .bool false, .bool false, .ref (zt2 h a b).objs.size, .ref (zt3 h a b).objs.size] }
theorem zt_made (a b : Addr) (xs ys : Array Value) : Meets (Builtin.«zip.__new__» ⟨[.type "zip", .ref a, .ref b], []⟩) (fun _ R s => s.heap.IsTuple a xs ∧ s.heap.IsTuple b ys ∧ R (.ok (.ret (.ref (zt4 s.heap a b).objs.size))) { s with heap := zt5 s.heap a b }) :=
  .of_wp fun prog w A R s h => by
    obtain ⟨hp, g, d, tk, os⟩ := s; obtain ⟨q1, q2, h⟩ := h
    have hsub := sub_zip
    have t1 : Heap.IsTuple (Shared.heap ⟨hp, g, d, tk, os⟩) a xs := q1
    have t2 : Heap.IsTuple (Shared.heap ⟨hp.push { cls := .type "tuple_iterator", data := .fields #[.ref a, .int 0 0] }, g, d, tk, os⟩) b ys := let ⟨ob, e, r⟩ := q2; ⟨ob, Heap.get?_push_of_some _ e, r⟩
    wp_walk using wpAny_pyIter_tuple t1, wpAny_pyIter_tuple t2
    exact ⟨_, rfl, h⟩
section
variable {X : Cx} {elts : List Expr} {kt : Nat} {p2 : Pos}
def iZipT (K : PySem.W.Frag) (ta : TA) : TI := fun σ H R => ta σ H fun vs H1 => ∃ a b xs ys, vs = [.ref a, .ref b] ∧ SqT K H1 a xs ∧ SqT K H1 b ys ∧ R (Itz K a b) H1
theorem zip_it {pins : List (Addr × Obj)} {σ : L2.St} {H : Hp} {s : Shared} {R : It → Hp → Prop} {E : Value → Shared → Prop} {a b : Addr} {xs ys : List V} (I : Inv X pins σ H s) (qa : SqT X.K H a xs) (qb : SqT X.K H b ys) (q : R (Itz X.K a b) H) :
    wpAny (model X.prog X.w) X.A (call (.type "zip") [.ref a, .ref b]) (fun v s1 => wpAny (model X.prog X.w) X.A (pyIter v) (PIE X pins σ (.Tuple elts kt p2) R) E s1) E s := by
  obtain ⟨ia, ra, pa, _⟩ := I.tuple qa
  obtain ⟨ib, rb, pb, _⟩ := I.tuple qb
  refine callType_new F.called_zip (by decide) (F.typeCall_zip_2 _ _) (F.newCall_zip_2 _ _) (fun obj => F.args_object_init_3 obj _ _) F.entry_zip_new (zt_made a b ia.toArray ib.toArray) ⟨show s.heap.IsTuple a ia.toArray from pa, show s.heap.IsTuple b ib.toArray from pb, ?_⟩
  have z1 : (zt1 s.heap a).objs.size = s.heap.objs.size + 1 := Heap.size_push ..
  have z2 : (zt2 s.heap a b).objs.size = s.heap.objs.size + 2 := by rw [Heap.size_push, z1]
  have z3 : (zt3 s.heap a b).objs.size = s.heap.objs.size + 3 := by rw [Heap.size_push, z2]
  have z4 : (zt4 s.heap a b).objs.size = s.heap.objs.size + 4 := by rw [Heap.size_push, z3]
  have g5 : (zt5 s.heap a b).get? (zt4 s.heap a b).objs.size = some _ := Heap.get?_push_size _ rfl
  have g4 : (zt5 s.heap a b).get? (zt3 s.heap a b).objs.size = some _ := Heap.get?_push_of_some _ (Heap.get?_push_size _ rfl)
  have g3 : (zt5 s.heap a b).get? (zt2 s.heap a b).objs.size = some _ := Heap.get?_push_of_some _ (Heap.get?_push_of_some _ (Heap.get?_push_size _ rfl))
  have g2 : (zt5 s.heap a b).get? (zt1 s.heap a).objs.size = some _ := Heap.get?_push_of_some _ (Heap.get?_push_of_some _ (Heap.get?_push_of_some _ (Heap.get?_push_size _ rfl)))
  have g1 : (zt5 s.heap a b).get? s.heap.objs.size = some _ := Heap.get?_push_of_some _ (Heap.get?_push_of_some _ (Heap.get?_push_of_some _ (Heap.get?_push_of_some _ (Heap.get?_push_size _ rfl))))
  show _ ∧ _
  have kp : ∀ c o, s.heap.get? c = some o → (zt5 s.heap a b).get? c = some o := fun c o e => Heap.get?_push_of_some _ (Heap.get?_push_of_some _ (Heap.get?_push_of_some _ (Heap.get?_push_of_some _ (Heap.get?_push_of_some _ e))))
  refine ⟨⟨_, g5, rfl⟩, ?_⟩
  rw [z2, z3, z4] at g5
  rw [z1, z2] at g3
  rw [z3] at g4
  rw [z1] at g2
  rw [z4]
  have la : a < s.heap.objs.size := by obtain ⟨o, e, _⟩ := pa; exact Heap.lt_size e
  have lb : b < s.heap.objs.size := by obtain ⟨o, e, _⟩ := pb; exact Heap.lt_size e
  have D : ZA (s.heap.objs.size + 4) (s.heap.objs.size + 2) (s.heap.objs.size + 3) s.heap.objs.size (s.heap.objs.size + 1) a b := by constructor <;> first | exact Nat.ne_of_lt la | exact Nat.ne_of_lt lb | exact Nat.ne_of_lt (Nat.lt_of_lt_of_le la (Nat.le_add_right _ _)) | exact Nat.ne_of_lt (Nat.lt_of_lt_of_le lb (Nat.le_add_right _ _)) | exact Nat.ne_of_lt (by omega) | exact Nat.ne_of_gt (by omega)
  have I1 : Inv X pins σ H { s with heap := zt5 s.heap a b } := I.kept (t' := s.toks) kp
  have S : ZS (zt5 s.heap a b) (s.heap.objs.size + 4) (s.heap.objs.size + 2) (s.heap.objs.size + 3) s.heap.objs.size (s.heap.objs.size + 1) a b 0 .none := ⟨g5, g3, ⟨_, _, g4⟩, ⟨_, g1, rfl, rfl⟩, ⟨_, g2, rfl, rfl⟩⟩
  refine wpAny_pyIter_zip (s := { s with heap := zt5 s.heap a b }) S.zz ⟨_, [s.heap.objs.size + 4, s.heap.objs.size + 2, s.heap.objs.size + 3, s.heap.objs.size, s.heap.objs.size + 1], _, Itz X.K a b, H, rfl, I1, turn_zip D, S, fun c hc => ?_, q⟩
  have hc' : s.heap.objs.size ≤ c := by
    simp only [List.mem_cons, List.not_mem_nil, or_false] at hc
    rcases hc with rfl | rfl | rfl | rfl | rfl <;> first | exact Nat.le_refl _ | exact Nat.le_add_right _ _
  exact I.fpOk hc' (I.hok.fresh hc')
theorem pi_zip {x y : Expr} {ta : TA} {p pos : Pos} (hg : Gl X "zip") (hm : X.mg "zip" = none) (ha : PA X [x, y] ta) (hs : starEach [x, y] X.env = [(false, eval x X.env), (false, eval y X.env)] := by rfl) (hs2 : starEach [y] X.env = [(false, eval y X.env)] := by rfl) :
    PI X (.Tuple elts kt p2) (.Call (.Name "zip" p) [x, y] [] pos) (iZipT X.K ta) := by
  intro pins s σ H R I h
  refine Call_ (ld_blt I hg hm boot_zip (PyProof.Rows.callWith_type1 (thn (ha pos pins s σ H _ I h) fun us s1 ⟨vs, H1, I1, r1, q1⟩ => ?_) (by rw [hs, hs2]) (by rw [hs2]; rfl)))
  obtain ⟨a, b, xs, ys, e, qa, qb, q⟩ := q1
  subst e
  cases r1 with
  | cons r rr =>
    cases rr with
    | cons r' rr =>
      cases rr
      cases r
      cases r'
      exact zip_it I1 qa qb q
end
end L2
namespace D
open PySem PySem.Spec PyProof.Rows L2
def zipL : List DV → List DV → List DV
  | x :: xs, y :: ys => .tup [x, y] :: zipL xs ys
  | _, _ => []
theorem zipL_get : ∀ {xs ys : List DV} {i : Nat} {d : DV}, (zipL xs ys)[i]? = some d → ∃ x y, xs[i]? = some x ∧ ys[i]? = some y ∧ d = .tup [x, y]
  | x :: xs, y :: ys, 0, d, h => by simp [zipL] at h; exact ⟨x, y, rfl, rfl, h.symm⟩
  | x :: xs, y :: ys, i + 1, d, h => by
    obtain ⟨a, b, h1, h2, h3⟩ := zipL_get (xs := xs) (ys := ys) (i := i) (by simpa [zipL] using h)
    exact ⟨a, b, by simpa using h1, by simpa using h2, h3⟩
  | [], _, _, _, h => by simp [zipL] at h
  | _ :: _, [], _, _, h => by simp [zipL] at h
theorem zipL_len : ∀ (xs ys : List DV), (zipL xs ys).length = min xs.length ys.length
  | x :: xs, y :: ys => by simp only [zipL, List.length_cons, zipL_len xs ys]; omega
  | [], _ => by simp [zipL]
  | _ :: _, [] => by simp [zipL]
def iZip (f g : DEx) : DIx := fun env => do
  let x ← f env
  let xs ← tupD x
  let y ← g env
  let ys ← tupD y
  pure (zipL xs ys)
theorem it_zip {K : PySem.W.Frag} {ρ : List Addr} {B : Addr → Prop} {H : Hp} {ds es : List DV} {a b : Addr} {xs ys : List V} (na : ¬ B a) (qa : SqT K H a xs) (ra : RepL K ρ B H ds xs) (nb : ¬ B b) (qb : SqT K H b ys) (rb : RepL K ρ B H es ys) : ItOk K ρ B H (zipL ds es) (Itz K a b) := fun ρ1 B1 H1 g r1 t1 => by
  have qa1 := g.sqT na qa
  have qb1 := g.sqT nb qb
  have ra1 := RepL.gs g _ _ ra
  have rb1 := RepL.gs g _ _ rb
  refine ⟨fun i d e => ?_, xs, ys, qa1, qb1, ?_⟩
  · obtain ⟨x, y, h1, h2, rfl⟩ := zipL_get e
    obtain ⟨u, hu, ru⟩ := ra1.get h1
    obtain ⟨v, hv, rv⟩ := rb1.get h2
    refine ⟨⟨xs, ys, u, v, qa1, qb1, hu, hv⟩, fun z H' ⟨p, u', v', hn, h3, h4, e1, e2⟩ => ?_⟩
    subst e1 e2
    have e3 := h3 xs qa1
    have e4 := h4 ys qb1
    rw [hu] at e3; cases e3
    rw [hv] at e4; cases e4
    refine ⟨rep_tup (fun z => t1 p z hn) (SqT.of upd_same) (RepL.gs (upd_gs r1 hn) _ _ (RepL.cons ru (RepL.one rv))), .inr ⟨p, _, hn, rfl⟩⟩
  · rw [zipL_len, ra1.length, rb1.length]
    rcases Nat.le_total xs.length ys.length with q | q
    · exact .inl (by rw [Nat.min_eq_left q]; exact Nat.le_refl _)
    · exact .inr (by rw [Nat.min_eq_right q]; exact Nat.le_refl _)
section
variable {X : Cx} {elts : List Expr} {kt : Nat} {p2 : Pos} {f g : DEx}
theorem di_zip {x y : Expr} {p pos : Pos} (hg : Gl X "zip") (hm : X.mg "zip" = none) (hx : DE X x f) (hy : DE X y g) (hs : starEach [x, y] X.env = [(false, eval x X.env), (false, eval y X.env)] := by rfl) (hs2 : starEach [y] X.env = [(false, eval y X.env)] := by rfl) :
    DI X (.Tuple elts kt p2) (.Call (.Name "zip" p) [x, y] [] pos) (iZip f g) :=
  L2.PI.imp (pi_zip hg hm (pa_cons hx (pa_cons hy pa_nil (by rw [hs2]; rfl)) (by rw [hs, hs2])) hs hs2) fun σ H R ⟨Z, env, ρ, B, hp, ds, hp', S, e, k⟩ => by
    obtain ⟨d1, hp1, e1, e⟩ := bind_some e
    obtain ⟨xs, hp2, e2, e⟩ := bind_some e
    obtain ⟨rfl, rfl⟩ := tupD_some e2
    obtain ⟨d2, hp3, e3, e⟩ := bind_some e
    obtain ⟨ys, hp4, e4, e⟩ := bind_some e
    obtain ⟨rfl, rfl⟩ := tupD_some e4
    obtain ⟨rfl, rfl⟩ := pure_some e
    refine tD.run S e1 fun v ρ1 B1 H1 g1 S1 r1 => tD.run S1 e3 fun u ρ2 B2 H2 g2 S2 r2 => ?_
    obtain ⟨a, vs, rfl, na, qa, la⟩ := (RepV.grow S1.wo.rb g2 _ _ r1).tupI
    obtain ⟨b, us, rfl, nb, qb, lb⟩ := r2.tupI
    exact ⟨a, b, vs, us, rfl, qa, qb, k _ ρ2 B2 H2 (g1.trans g2) S2.wo (it_zip na qa la nb qb lb)⟩
/-! a, b = .. -/
def gT (ix : List Nat) : DGx := fun d env => do
  let ds ← tupD d
  guardM (decide (ds.length = ix.length))
  pure ((ix.zip ds).foldl (fun en q => en.set q.1 (.val q.2)) env)
/-- the names that stand at these places -/
def NamesAt (X : Cx) : List Nat → List Expr → Prop
  | [], [] => True
  | i :: is, .Name x _ :: es => X.N[i]? = some x ∧ Loc X.env.scope x ∧ (X.fn x = true ∨ X.env.scope.names.lookup x = some .local) ∧ NamesAt X is es
  | _, _ => False
theorem pgs_names (hN : X.N.Nodup) : ∀ (ix : List Nat) (es : List Expr), NamesAt X ix es → (∀ es' x p, (assignEach (.Name x p :: es') X.env).map (·.2) = assign (.Name x p) X.env :: (assignEach es' X.env).map (·.2)) →
    PGs X es (fun vs σ H Q => vs.length = ix.length ∧ Q ((ix.zip vs).foldl (fun s q => s.set q.1 (some q.2)) σ) H)
  | [], [], _, _ => by
    intro pins s σ H vs us Q I r h
    obtain ⟨h1, h2⟩ := h
    have : vs = [] := by cases vs with | nil => rfl | cons _ _ => simp at h1
    subst this
    exact pgs_nil pins s σ H [] us Q I r ⟨rfl, by simpa using h2⟩
  | i :: is, .Name x p :: es, ⟨h1, h2, h3, h4⟩, ha => by
    intro pins s σ H vs us Q I r h
    obtain ⟨h5, h6⟩ := h
    cases vs with
    | nil => simp at h5
    | cons v vs =>
      exact pgs_cons (pg_name hN h1 h2 h3) (pgs_names hN is es h4 ha) (ha _ _ _) pins s σ H (v :: vs) us Q I r ⟨v, vs, rfl, by simpa using h5, by simpa using h6⟩
theorem fold_ok {K : PySem.W.Frag} {Z : Ent} {ρ : List Addr} {B : Addr → Prop} {hp : Hs} {H : Hp} : ∀ (ix : List Nat) (ds : List DV) (vs : List V) {env : En} {σ : L2.St}, RepL K ρ B H ds vs → SOk K Z env σ ρ B hp H →
    SOk K Z ((ix.zip ds).foldl (fun en q => en.set q.1 (.val q.2)) env) ((ix.zip vs).foldl (fun s q => s.set q.1 (some q.2)) σ) ρ B hp H
  | [], _, _, _, _, _, S => by simpa using S
  | i :: is, [], _, _, _, r, S => by unfold RepL at r; subst r; simpa using S
  | i :: is, d :: ds, _, _, _, r, S => by
    unfold RepL at r
    obtain ⟨v, vs, rfl, r1, r2⟩ := r
    simpa using fold_ok is ds vs r2 (S.set (i := i) r1)
theorem dg_tup (ix : List Nat) (hN : X.N.Nodup) (hn : NamesAt X ix elts) (hc : X.calm = true) (ha : ∀ es' x p, (assignEach (.Name x p :: es') X.env).map (·.2) = assign (.Name x p) X.env :: (assignEach es' X.env).map (·.2))
    (hl : (assignEach elts X.env).length = ix.length := by rfl) (hst : (assignEach elts X.env).findIdx? (·.1) = none := by rfl) : PG X (.Tuple elts kt p2) (tDG X.K (gT ix)) := by
  intro pins s σ H v u Q I r h
  refine pg_tup hc (pgs_names hN ix elts hn ha) hl hst pins s σ H v u Q I r ?_
  obtain ⟨Z, env, ρ, B, hp, d, env', hp', S, rd, e, k⟩ := h
  obtain ⟨ds, hp1, e1, e⟩ := bind_some e
  obtain ⟨rfl, rfl⟩ := tupD_some e1
  obtain ⟨_, hp2, e2, e⟩ := bind_some e
  obtain ⟨hs, rfl⟩ := guardM_some e2
  obtain ⟨rfl, rfl⟩ := pure_some e
  obtain ⟨a, xs, rfl, na, qa, la⟩ := rd.tupI
  have hl' : xs.length = ix.length := by rw [← la.length]; exact of_decide_eq_true hs
  exact ⟨a, xs, rfl, qa, hl', hl', k _ ρ B H Gs.refl (fold_ok ix ds xs la S)⟩
def sAsg (f : DEx) (g : DGx) : DSx := fun env => do let d ← f env; let env' ← g d env; pure (.nx, env')
theorem ds_asg {tg e : Expr} {g : DGx} {pos : Pos} (he : DE X e f) (hg : PG X tg (tDG X.K g)) (hs : swapsWithSole [tg] e pos.line X.env = pure false := by rfl) (hw : swappedStores [tg] e X.env = pure none := by rfl)
    (h1 : (assignEach [tg] X.env).map (·.2) = [assign tg X.env] := by rfl) : DS X (.Assign [tg] e pos) (sAsg f g) :=
  L2.PS.imp (ps_asg he hg hs hw h1) fun D σ H ⟨Z, env, ρ, B, hp, fl, env', hp', S, e, k⟩ => by
    obtain ⟨d, hp1, e1, e⟩ := bind_some e
    obtain ⟨env1, hp2, e2, e⟩ := bind_some e
    obtain ⟨z, rfl⟩ := pure_some e; cases z
    exact tD.run S e1 fun v ρ1 B1 H1 g1 S1 r1 => ⟨Z, env, ρ1, B1, hp1, d, env', hp2, S1, r1, e2, fun σ' ρ' B' H' g' S' => k σ' ρ' B' H' ((g1.gs S.wo.rb).trans g') S'⟩
end
end D

/-! ## the mathematics of the Lean functions: loops, comprehensions, comparisons -/
namespace D
open PySem PySem.Spec PyProof.Rows L2
theorem forL_nth {b : DV → DSx} (I : Nat → En → Prop) : ∀ (ds : List DV) (k : Nat) (env : En), I k env → (∀ (i : Nat) d, ds[i]? = some d → ∀ env, I (k + i) env → ∃ env', b d env = pure (.nx, env') ∧ I (k + i + 1) env') → ∃ env', forL b ds env = pure (.nx, env') ∧ I (k + ds.length) env'
  | [], k, env, h, _ => ⟨env, rfl, h⟩
  | d :: ds, k, env, h, hs => by
    obtain ⟨env1, e1, h1⟩ := hs 0 d rfl env h
    obtain ⟨env2, e2, h2⟩ := forL_nth I ds (k + 1) env1 h1 fun i d' hd env' h' => by
      have := hs (i + 1) d' (by simpa using hd) env' (by rw [show k + (i + 1) = k + 1 + i by omega]; exact h')
      rw [show k + (i + 1) + 1 = k + 1 + i + 1 by omega] at this
      exact this
    refine ⟨env2, ?_, by rw [List.length_cons, show k + (ds.length + 1) = k + 1 + ds.length by omega]; exact h2⟩
    rw [forL, e1, pure_bind]
    exact e2
theorem rangeL_get {lo : Int} {n i : Nat} {d : DV} (h : (rangeL lo n)[i]? = some d) : i < n ∧ d = .int (lo + i) := by
  have hi : i < n := by have := (List.getElem?_eq_some_iff.mp h).1; simpa [rangeL] using this
  refine ⟨hi, ?_⟩
  simp [rangeL, hi] at h
  exact h.symm
theorem rangeL_len (lo : Int) (n : Nat) : (rangeL lo n).length = n := by simp [rangeL]
theorem forL_range {b : DV → DSx} (I : Nat → En → Prop) (lo : Int) (n : Nat) (env : En) (h : I 0 env) (hs : ∀ (i : Nat), i < n → ∀ env, I i env → ∃ env', b (.int (lo + i)) env = pure (.nx, env') ∧ I (i + 1) env') : ∃ env', forL b (rangeL lo n) env = pure (.nx, env') ∧ I n env' := by
  obtain ⟨env', e, h'⟩ := forL_nth I (rangeL lo n) 0 env h fun i d hd env hi => by
    obtain ⟨h1, rfl⟩ := rangeL_get hd
    rw [Nat.zero_add] at hi ⊢
    exact hs i h1 env hi
  exact ⟨env', e, by rw [rangeL_len, Nat.zero_add] at h'; exact h'⟩
/-- a comprehension over ints -/
theorem comp_ints {t : DV → M Bool} {f : DV → M DV} {p : Int → Bool} {g : Int → Int} (ht : ∀ x, t (.int x) = pure (p x)) (hf : ∀ x, f (.int x) = pure (.int (g x))) : ∀ ns : List Int, compD t f (ns.map .int) = pure (((ns.filter p).map g).map .int)
  | [] => rfl
  | n :: ns => by
    rw [List.map_cons, compD, ht, pure_bind]
    cases q : p n with
    | false =>
      rw [List.filter_cons_of_neg (by rw [q]; decide)]
      exact comp_ints ht hf ns
    | true =>
      rw [List.filter_cons_of_pos q]
      simp only [if_true, hf, pure_bind, comp_ints ht hf ns, List.map_cons]
theorem okP_int (i : Int) : okP (.int i) = true := by rfl
theorem eqv_int (i j : Int) : PyData.eqv (.int i) (.int j) = (i == j) := rfl
theorem eqD_int (i j : Int) : eqD (.int i) (.int j) = pure (.bl (i == j)) := by
  simp only [eqD, okP_int, Bool.and_self, guardM, if_true, pure_bind, toP, eqv_int]
theorem neD_int (i j : Int) : neD (.int i) (.int j) = pure (.bl (!(i == j))) := by
  simp only [neD, okP_int, Bool.and_self, guardM, if_true, pure_bind, toP, eqv_int]
/-! items by place -/
theorem atI_lt {α : Type} {xs : List α} {i : Int} (h0 : 0 ≤ i) (h1 : i < xs.length) : atI xs i = xs[i.toNat]? := by
  unfold atI ixN
  rw [if_pos h0, if_pos h1]; rfl
theorem atI_int (ns : List Int) {i : Int} (h0 : 0 ≤ i) (h1 : i < ns.length) : atI (ns.map DV.int) i = some (.int (ns.getD i.toNat 0)) := by
  have hl : i.toNat < ns.length := by omega
  rw [atI_lt h0 (by simpa using h1), List.getElem?_map, List.getElem?_eq_getElem hl]
  simp [List.getD_eq_getElem?_getD, hl]
def opt : Option Int → DV
  | none => .non
  | some i => .int i
end D
namespace D
open PySem PySem.Spec PyProof.Rows L2
theorem forL_range0 {b : DV → DSx} (I : Nat → En → Prop) (n : Nat) (env : En) (h : I 0 env) (hs : ∀ (i : Nat), i < n → ∀ env, I i env → ∃ env', b (.int (i : Int)) env = pure (.nx, env') ∧ I (i + 1) env') : ∃ env', forL b (rangeL 0 n) env = pure (.nx, env') ∧ I n env' :=
  forL_range I 0 n env h fun i hi env h' => by rw [Int.zero_add]; exact hs i hi env h'
theorem modD_pos (x y : Int) (h : 0 < y) : modD (.int x) (.int y) = pure (.int (x % y)) := by simp [modD, int2, cMod, h]
theorem divD_pos (x y : Int) (h : 0 < y) (h' : y < 1073741824) : divD (.int x) (.int y) = pure (.int (x / y)) := by simp [divD, int2, cDiv, h, h']
theorem mulD_l (x y : Int) (h : -(2 ^ 64) < x) (h' : x < 2 ^ 64) : mulD (.int x) (.int y) = pure (.int (x * y)) := by
  simp only [mulD, int2, cMul, decide_eq_true (Or.inl (b := (-(2 ^ 64) < y ∧ y < 2 ^ 64)) (And.intro h h')), if_true]
theorem mulD_r (x y : Int) (h : -(2 ^ 64) < y) (h' : y < 2 ^ 64) : mulD (.int x) (.int y) = pure (.int (x * y)) := by
  simp only [mulD, int2, cMul, decide_eq_true (Or.inr (a := (-(2 ^ 64) < x ∧ x < 2 ^ 64)) (And.intro h h')), if_true]
theorem addD_int (x y : Int) : addD (.int x) (.int y) = pure (.int (x + y)) := rfl
theorem subD_int (x y : Int) : subD (.int x) (.int y) = pure (.int (x - y)) := rfl
theorem gtD_int (x y : Int) : gtD (.int x) (.int y) = pure (.bl (decide (y < x))) := rfl
theorem ltD_int (x y : Int) : ltD (.int x) (.int y) = pure (.bl (decide (x < y))) := rfl
theorem leD_int (x y : Int) : leD (.int x) (.int y) = pure (.bl (decide (x ≤ y))) := rfl
theorem geD_int (x y : Int) : geD (.int x) (.int y) = pure (.bl (decide (y ≤ x))) := rfl
theorem negD_int (x : Int) : negD (.int x) = pure (.int (-x)) := rfl
theorem pow30 : powD (.int 10) (.int 30) = pure (.int 1000000000000000000000000000000) := rfl
theorem pow21 : powD (.int 10) (.int 21) = pure (.int 1000000000000000000000) := rfl
theorem pow9 : powD (.int 10) (.int 9) = pure (.int 1000000000) := rfl
theorem small_ok {m : Int} (h0 : 0 ≤ m) (h1 : m ≤ 1000000) : smallI m = true := decide_eq_true ⟨by omega, by omega⟩
end D
namespace D
open PySem PySem.Spec PyProof.Rows L2
theorem sFor_range {f : DAx} {g : DGx} {body : DSx} {env : En} {m : Int} (hf : f env = pure [.int m]) (h0 : 0 ≤ m) (h1 : m ≤ 1000000) : sFor (iRg1 f) g body env = forL (fun d env => do let env' ← g d env; body env') (rangeL 0 m.toNat) env := by
  simp only [sFor, iRg1, hf, pure_bind, rng1, small_ok h0 h1, guardM, if_true]
theorem sFor_zip {f f' : DEx} {g : DGx} {body : DSx} {env : En} {ds es : List DV} (hf : f env = pure (.tup ds)) (hf' : f' env = pure (.tup es)) : sFor (iZip f f') g body env = forL (fun d env => do let env' ← g d env; body env') (zipL ds es) env := by
  simp only [sFor, iZip, hf, hf', pure_bind, tupD]
theorem short_ok' {ds : List DV} (h : ds.length ≤ 100000) : short ds = true := decide_eq_true h
/-- [g(x) for x in ints if p(x)] -/
theorem eComp_ints {src : DIx} {idx : List Nat} {t : DTx} {f : DEx} {env : En} {ns : List Int} {p : Int → Bool} {g : Int → Int} (hs : src env = pure (ns.map .int)) (hl : ns.length ≤ 100000) (ht : ∀ x, t (cE idx env (.int x)) = pure (p x)) (hf : ∀ x, f (cE idx env (.int x)) = pure (.int (g x))) :
    eComp src idx t f env = pure (.lst (((ns.filter p).map g).map .int)) := by
  simp only [eComp, hs, pure_bind, short_ok' (show (ns.map DV.int).length ≤ 100000 by rw [List.length_map]; exact hl), guardM, if_true, comp_ints (t := fun d => t (cE idx env d)) (f := fun d => f (cE idx env d)) ht hf ns]
theorem sSeq_nx {f g : DSx} {env env1 : En} (h : f env = pure (.nx, env1)) : sSeq f g env = g env1 := by simp only [sSeq, h, pure_bind]
theorem sSeq_rt {f g : DSx} {env env1 : En} {d : DV} (h : f env = pure (.rt d, env1)) : sSeq f g env = pure (.rt d, env1) := by simp only [sSeq, h, pure_bind]
theorem sSet_eq {i : Nat} {f : DEx} {env : En} {d : DV} (h : f env = pure d) : sSet i f env = pure (.nx, env.set i (.val d)) := by simp only [sSet, h, pure_bind]
theorem sIf_t {c : DTx} {f g : DSx} {env : En} (h : c env = pure true) : sIf c f g env = f env := by simp only [sIf, h, pure_bind, if_true]
theorem sIf_f {c : DTx} {f g : DSx} {env : En} (h : c env = pure false) : sIf c f g env = g env := by simp only [sIf, h, pure_bind, Bool.false_eq_true, if_false]
theorem sRet_eq {f : DEx} {env : En} {d : DV} (h : f env = pure d) : sRet f env = pure (.rt d, env) := by simp only [sRet, h, pure_bind]
theorem runF_rt {n : Nat} {body : DSx} {ds : List DV} {d : DV} {env : En} (h : body (ds.map .val ++ List.replicate (n - ds.length) .un) = pure (.rt d, env)) : runF n body ds = pure d := by simp only [runF, h, pure_bind]
theorem eB_eq {f : DEx} {env : En} {b : Bool} (h : f env = pure (.bl b)) : eB f env = pure b := by simp only [eB, h, pure_bind, asB]
theorem eNot_eq {c : DTx} {env : En} {b : Bool} (h : c env = pure b) : eNot c env = pure (!b) := by simp only [eNot, h, pure_bind]
theorem eBin_eq {g : DV → DV → M DV} {f f' : DEx} {env : En} {x y d : DV} (h : f env = pure x) (h' : f' env = pure y) (hg : g x y = pure d) : eBin g f f' env = pure d := by simp only [eBin, h, h', pure_bind, hg]
theorem eCall2 {F : List DV → M DV} {f f' : DEx} {env : En} {x y d : DV} (h : f env = pure x) (h' : f' env = pure y) (hF : F [x, y] = pure d) : eCall 2 F (aCons f (aCons f' aNil)) env = pure d := by simp [eCall, aCons, aNil, h, h', guardM, hF]
theorem eCall3 {F : List DV → M DV} {f f' f'' : DEx} {env : En} {x y z d : DV} (h : f env = pure x) (h' : f' env = pure y) (h'' : f'' env = pure z) (hF : F [x, y, z] = pure d) : eCall 3 F (aCons f (aCons f' (aCons f'' aNil))) env = pure d := by simp [eCall, aCons, aNil, h, h', h'', guardM, hF]
end D

/-! ## the world: lists that are known by number -/
namespace D
open PySem PySem.Spec PyProof.Rows L2
section
variable {K : PySem.W.Frag} {ρ : List Addr} {B : Addr → Prop} {hp : Hs} {H : Hp}
theorem Gr.wnew {p : Addr} {o : HO} (h : H p = none) (kf : K.lookup p = none) : Gr K ρ B H (ρ ++ [p]) (banP B p) (upd H p o) where
  pre := List.prefix_append _ _
  ban := fun _ h => .inl h
  new := fun a z => z.elim .inl fun e => .inr (e ▸ ⟨h, kf⟩)
  rnew := fun a z => (List.mem_append.mp z).elim .inl fun q => .inr (by rw [List.mem_singleton.mp q]; exact h)
  keep := fun a u _ q => by rw [upd_ne (ne_of_none q h)]; exact q
  trk := (Gr.laid (K := K) (ρ := ρ) (B := B) h).trk
theorem WOk.wnew {p : Addr} {o : HO} {v : OV} (W : WOk K ρ B hp H) (h : H p = none) (kf : K.lookup p = none) (hv : ORep K (ρ ++ [p]) (banP B p) (upd H p o) p v) : WOk K (ρ ++ [p]) (banP B p) (hp ++ [v]) (upd H p o) where
  len := by simp [W.len]
  nd := List.nodup_append.mpr ⟨W.nd, by simp, fun a ha b hb => by rw [List.mem_singleton.mp hb]; exact fun z => W.bt a (W.rb a ha) (z ▸ h)⟩
  obj := fun i a u e q => by
    by_cases hi : i < ρ.length
    · rw [List.getElem?_append_left hi] at e
      rw [List.getElem?_append_left (by rw [← W.len]; exact hi)] at q
      exact ORep.gs ((Gr.wnew h kf).gs W.rb) (upd_ne (fun z => W.bt a (W.rb a (List.mem_of_getElem? e)) (z ▸ h))) (W.obj i a u e q)
    · rw [List.getElem?_append_right (by omega)] at e
      rw [List.getElem?_append_right (by rw [← W.len]; omega)] at q
      have hi0 : i - ρ.length = 0 := by
        have := (List.getElem?_eq_some_iff.mp e).1
        simp at this; omega
      rw [hi0] at e
      rw [← W.len, hi0] at q
      simp at e q
      subst e q
      exact hv
  rb := fun a z => (List.mem_append.mp z).elim (fun q => .inl (W.rb a q)) fun q => .inr (List.mem_singleton.mp q)
  bt := fun a z q => by
    have q' := (Gr.laid (K := K) (ρ := ρ) (B := B) h).trk a q
    rcases z with z | rfl
    · exact W.bt a z q'
    · rw [upd_same] at q; cases q
  bk := fun a z => z.elim (W.bk a) fun e => e ▸ kf
/-- a thing of the world is written -/
theorem Gr.wset {i : Nat} {a : Addr} {o o' : HO} (ha : ρ[i]? = some a) (h : H a = some o) : Gr K ρ B H ρ B (upd H a o') where
  pre := List.prefix_rfl
  ban := fun _ h => h
  new := fun _ h => .inl h
  rnew := fun _ h => .inl h
  keep := fun b u nb q => by rw [upd_ne (show b ≠ a from fun z => nb (by rw [z]; exact List.mem_of_getElem? ha))]; exact q
  trk := fun b q => by
    by_cases e : b = a
    · subst e; rw [upd_same] at q; cases q
    · rw [upd_ne e] at q; exact q
theorem WOk.wset {i : Nat} {a : Addr} {o o' : HO} {v : OV} (W : WOk K ρ B hp H) (ha : ρ[i]? = some a) (h : H a = some o) (hv : ORep K ρ B (upd H a o') a v) : WOk K ρ B (hp.set i v) (upd H a o') where
  len := by simp [W.len]
  nd := W.nd
  obj := fun j b u e q => by
    by_cases hj : j = i
    · subst hj
      rw [ha] at e; cases e
      have hl : j < hp.length := by rw [← W.len]; exact (List.getElem?_eq_some_iff.mp ha).1
      rw [List.getElem?_set_self hl] at q; cases q
      exact hv
    · rw [List.getElem?_set_ne (Ne.symm hj)] at q
      have hb : b ≠ a := fun z => hj (by
        subst z
        exact (List.getElem?_inj (List.getElem?_eq_some_iff.mp e).1 W.nd).mp (e.trans ha.symm))
      exact ORep.gs ((Gr.wset ha h).gs W.rb) (upd_ne hb) (W.obj j b u e q)
  rb := W.rb
  bt := fun b z q => W.bt b z ((Gr.wset (K := K) (B := B) ha h).trk b q)
  bk := W.bk
end
section
variable {X : Cx} {e a b c : Expr} {f fa fb fc : DEx} {pos : Pos}
def allocW (o : OV) : M DV := fun h => some (.ref h.length, h ++ [o])
def getW (i : Nat) : M OV := fun h => match h[i]? with
  | some o => some (o, h)
  | none => none
def setW (i : Nat) (o : OV) : M Unit := fun h => some ((), h.set i o)
theorem getW_some {i : Nat} {o : OV} {hp hp' : Hs} (h : getW i hp = some (o, hp')) : hp[i]? = some o ∧ hp = hp' := by
  unfold getW at h
  cases q : hp[i]? with
  | none => rw [q] at h; cases h
  | some z => rw [q] at h; cases h; exact ⟨rfl, rfl⟩
def eNewL (f : DAx) : DEx := fun env => do let ds ← f env; guardM (short ds); allocW (.lst ds)
theorem fol_new {K : PySem.W.Frag} {ρ : List Addr} {B : Addr → Prop} {H : Hp} {hp : Hs} {ds : List DV} {xs : List V} {Q : VK} (W : WOk K ρ B hp H) (r : RepL K ρ B H ds xs) (k : Fol K ρ B H (.ref hp.length) (hp ++ [.lst ds]) Q) : ∀ p, H p = none → KFree K (upd H p (.lst xs)) → Q (.ref p) (upd H p (.lst xs)) := fun p hp' kf => by
  have kp := kf p _ upd_same
  have g : Gr K ρ B H (ρ ++ [p]) (banP B p) (upd H p (.lst xs)) := Gr.wnew hp' kp
  refine k _ _ _ _ g (W.wnew hp' kp ⟨xs, upd_same, RepL.grow W.rb g _ _ r⟩) ?_
  unfold RepV
  exact ⟨p, rfl, by rw [← W.len]; simp⟩
theorem de_newL {es : List Expr} {f : DAx} (h : DA X es f) : DE X (.List es pos) (eNewL f) :=
  L2.PE.imp (pe_lst h).kf fun σ H Q ⟨Z, env, ρ, B, hp, d, hp', S, e, k⟩ => by
    obtain ⟨xs, hp1, e1, e2⟩ := bind_some e
    obtain ⟨_, hp2, e3, e4⟩ := bind_some e2
    obtain ⟨hs, rfl⟩ := guardM_some e3
    cases e4
    exact tDA.run S e1 fun vs ρ1 B1 H1 g1 S1 r1 => ⟨by rw [← r1.length]; exact short_ok hs, fol_new S1.wo r1 (k.after g1)⟩
theorem RepV.refW {K : PySem.W.Frag} {ρ : List Addr} {B : Addr → Prop} {H : Hp} {hp : Hs} {i : Nat} {o : OV} {v : V} (W : WOk K ρ B hp H) (r : RepV K ρ B H (.ref i) v) (h : hp[i]? = some o) : ∃ a, v = .ref a ∧ ρ[i]? = some a ∧ ORep K ρ B H a o := by
  obtain ⟨a, rfl, e⟩ := r.refI
  exact ⟨a, rfl, e, W.obj i a o e h⟩
end
end D
namespace D
open PySem PySem.Spec PyProof.Rows L2
/-- a def that calls itself, with no call left -/
theorem has_none {P : Program} {w : World} {K : PySem.W.Frag} {mg : Str → Option Value} {base : Heap} {x : Str} {stm : Stmt} {g : Addr} {fd : FuncData} {ps : List Str} {k : Nat} (F : Fun K x x stm g fd) (hm : mg x = some (.ref g))
    (hb : ∀ (kV doc pm : Value) (an : Option Addr) (cdv ct : Value) (us : List Value), us.length = ps.length → bindArgs (PySem.W.fnOf x x (defArgs stm) (defBody stm) (defScope stm) .none kV doc pm an cdv ct) ⟨us, []⟩ = pure (ps.zip us)) :
    Has P w K mg base x k ps.length (fun _ => failure) := by
  have no : ∀ vs H Q E, ¬ spD K ps.length (fun _ => failure) vs H Q E := fun vs H Q E h => by
    obtain ⟨_, ρ, B, hp, ds, d, hp', _, _, e, _⟩ := h
    cases e
  exact ⟨g, fd, ps, ⟨fun vs H Q E h => absurd h (no vs H Q E), fun A outer s H args us vs Q E _ _ _ _ h => absurd h (no vs H Q E)⟩, F.binds hb, F.kp, hm⟩
end D

/-! ## running with a world -/
namespace D
open PySem PySem.Spec PyProof.Rows L2
/-- it comes to x, whatever the world (which may grow) -/
def Runs {α : Type} (m : M α) (x : α) : Prop := ∀ hp, ∃ hp', m hp = some (x, hp')
theorem Runs.pure {α : Type} (x : α) : Runs (pure x : M α) x := fun hp => ⟨hp, rfl⟩
theorem Runs.of {α : Type} {m : M α} {x : α} (h : m = Pure.pure x) : Runs m x := h ▸ Runs.pure x
theorem Runs.bind {α β : Type} {m : M α} {k : α → M β} {x : α} {y : β} (h : Runs m x) (h' : Runs (k x) y) : Runs (m >>= k) y := fun hp => by
  obtain ⟨hp1, e1⟩ := h hp
  obtain ⟨hp2, e2⟩ := h' hp1
  refine ⟨hp2, ?_⟩
  show (m hp).bind (fun p => k p.1 p.2) = _
  rw [e1]; exact e2
section
variable {f g : DSx} {env env1 env2 : En} {c ca cb : DTx} {e fa fb : DEx} {d x y : DV} {r : Fl × En}
end
/-- steps at a world -/
theorem bind_at {α β : Type} {m : M α} {k : α → M β} {x : α} {hp hp1 : Hs} (h : m hp = some (x, hp1)) : (m >>= k) hp = k x hp1 := by
  show (m hp).bind (fun p => k p.1 p.2) = _
  rw [h]; rfl
theorem ixD_lst {ds : List DV} {i : Int} {d : DV} (h : atI ds i = some d) : ixD (.lst ds) (.int i) = pure d := by simp only [ixD, h]
end D

/-! ## the world at large: dicts and lists known by number -/
namespace L2
open PySem PySem.Spec PyProof.Rows
section
variable {X : Cx}
def rIxD : R2 := fun x y H Q => ∃ a kvs k v, x = .ref a ∧ y = kV k ∧ H a = some (.dK kvs) ∧ valV kvs k = some v ∧ Q v H
theorem ix_dict (hu : X.A.units + 1 < cLine) : IxR X rIxD := by
  intro value slice pins s σ H x y v u Q I rx ry h hs
  obtain ⟨a, kvs, k, z, rfl, rfl, hH, hv, q⟩ := h
  cases rx
  have g : DGet H a (kV k) (some z) := hv ▸ DGet.k hH
  exact tail_any (dict_typeIs I g) PySem.F.slot_dict_getitem.lookup (d_getItem hu I g ry fun w' s' I' rw' => ⟨z, H, I', rw', q⟩) hs
def rSetD : V → V → V → Hp → (Hp → Prop) → Prop := fun o i v H Q => ∃ a kvs k, o = .ref a ∧ i = kV k ∧ H a = some (.dK kvs) ∧ kvs.length < sizeLine ∧ Q (upd H a (.dK (putK kvs k v)))
theorem set_dict (hu : X.A.units + 1 < cLine) : PSet X rSetD := fun pins s σ H o i v ov iv u Q I ro ri rv h => by
  obtain ⟨a, kvs, k, rfl, rfl, hH, hl, q⟩ := h
  cases ro
  exact d_setItem hu I (DPut.k hH hl) ri rv fun s' I' => ⟨_, I', q⟩
def insN (n : Nat) (i : Int) : Nat := if i < 0 then (i + (n : Int)).toNat else min i.toNat n
end
end L2
namespace D
open PySem PySem.Spec PyProof.Rows L2
/-! ### dicts as data -/
def dkey : DV → Option Key
  | .int i => some (.inl i)
  | .str x => some (.inr x)
  | _ => none
def valD (kvs : List (Key × DV)) (k : Key) : Option DV := (kvs.find? fun kv => decide (kv.1 = k)).map (·.2)
def putD (kvs : List (Key × DV)) (k : Key) (d : DV) : List (Key × DV) :=
  if (kvs.any fun kv => decide (kv.1 = k)) = true then kvs.map (fun kv => if kv.1 = k then (kv.1, d) else kv) else kvs ++ [(k, d)]
def dropD (kvs : List (Key × DV)) (k : Key) : List (Key × DV) := kvs.filter fun kv => decide (kv.1 ≠ k)
section
variable {K : PySem.W.Frag} {ρ : List Addr} {B : Addr → Prop} {H : Hp} {hp : Hs}
theorem dkey_rep {d : DV} {k : Key} {v : V} (h : dkey d = some k) (r : RepV K ρ B H d v) : v = kV k := by
  cases d <;> simp [dkey] at h <;> subst h
  · exact r.intI
  · exact r.strI
abbrev RepK (K : PySem.W.Frag) (ρ : List Addr) (B : Addr → Prop) (H : Hp) : List (Key × DV) → List (Key × V) → Prop := Paired fun p q => p.1 = q.1 ∧ RepV K ρ B H p.2 q.2
theorem repK_of : ∀ {kvs : List (Key × DV)} {xs : List (Key × V)}, xs.map (·.1) = kvs.map (·.1) → RepL K ρ B H (kvs.map (·.2)) (xs.map (·.2)) → RepK K ρ B H kvs xs
  | [], [], _, _ => .nil
  | [], _ :: _, e, _ => by simp at e
  | _ :: _, [], e, _ => by simp at e
  | p :: kvs, q :: xs, e, r => by
    simp only [List.map_cons, List.cons.injEq] at e
    simp only [List.map_cons] at r
    unfold RepL at r
    obtain ⟨x, t, e2, h1, h2⟩ := r
    simp only [List.cons.injEq] at e2
    obtain ⟨rfl, rfl⟩ := e2
    exact .cons ⟨e.1.symm, h1⟩ (repK_of e.2 h2)
theorem RepK.to {kvs : List (Key × DV)} {xs : List (Key × V)} (r : RepK K ρ B H kvs xs) : xs.map (·.1) = kvs.map (·.1) ∧ RepL K ρ B H (kvs.map (·.2)) (xs.map (·.2)) := by
  induction r with
  | nil => exact ⟨rfl, RepL.nil⟩
  | cons h _ ih => exact ⟨by simp [ih.1, h.1], by simpa using RepL.cons h.2 ih.2⟩
theorem RepK.val {kvs : List (Key × DV)} {xs : List (Key × V)} (r : RepK K ρ B H kvs xs) (k : Key) : (valD kvs k = none ∧ valV xs k = none) ∨ ∃ d v, valD kvs k = some d ∧ valV xs k = some v ∧ RepV K ρ B H d v := by
  induction r with
  | nil => exact .inl ⟨rfl, rfl⟩
  | @cons p q _ _ h _ ih =>
    by_cases e : p.1 = k
    · exact .inr ⟨p.2, q.2, by simp [valD, List.find?_cons, e], by simp [valV, List.find?_cons, h.1 ▸ e], h.2⟩
    · have e' : ¬ q.1 = k := h.1 ▸ e
      simpa [valD, valV, List.find?_cons, e, e'] using ih
theorem RepK.any {kvs : List (Key × DV)} {xs : List (Key × V)} (r : RepK K ρ B H kvs xs) (k : Key) : (kvs.any fun kv => decide (kv.1 = k)) = xs.any fun kv => decide (kv.1 = k) := by
  induction r with
  | nil => rfl
  | cons h _ ih => simp only [List.any_cons, ih, h.1]
theorem RepK.repl {kvs : List (Key × DV)} {xs : List (Key × V)} (r : RepK K ρ B H kvs xs) (k : Key) {d : DV} {v : V} (rd : RepV K ρ B H d v) : RepK K ρ B H (kvs.map fun kv => if kv.1 = k then (kv.1, d) else kv) (xs.map fun kv => if kv.1 = k then (kv.1, v) else kv) := by
  induction r with
  | nil => exact .nil
  | @cons p q _ _ h _ ih =>
    refine .cons ?_ ih
    dsimp only
    by_cases e : p.1 = k
    · rw [if_pos e, if_pos (h.1 ▸ e)]; exact ⟨h.1, rd⟩
    · rw [if_neg e, if_neg (h.1 ▸ e)]; exact h
theorem RepK.snoc {kvs : List (Key × DV)} {xs : List (Key × V)} (r : RepK K ρ B H kvs xs) {k : Key} {d : DV} {v : V} (rd : RepV K ρ B H d v) : RepK K ρ B H (kvs ++ [(k, d)]) (xs ++ [(k, v)]) := by
  induction r with
  | nil => exact .cons ⟨rfl, rd⟩ .nil
  | cons h _ ih => exact .cons h ih
theorem RepK.put {kvs : List (Key × DV)} {xs : List (Key × V)} (r : RepK K ρ B H kvs xs) (k : Key) {d : DV} {v : V} (rd : RepV K ρ B H d v) : RepK K ρ B H (putD kvs k d) (putK xs k v) := by
  unfold putD putK
  rw [r.any k]
  split
  · exact r.repl k rd
  · exact r.snoc rd
theorem RepK.drop {kvs : List (Key × DV)} {xs : List (Key × V)} (r : RepK K ρ B H kvs xs) (k : Key) : RepK K ρ B H (dropD kvs k) (dropK xs k) := by
  induction r with
  | nil => exact .nil
  | @cons p q _ _ h _ ih =>
    unfold dropD dropK at ih ⊢
    by_cases e : p.1 = k
    · have e' : q.1 = k := h.1 ▸ e
      simpa [e, e'] using ih
    · have e' : ¬ q.1 = k := h.1 ▸ e
      rw [List.filter_cons_of_pos (by simpa using e), List.filter_cons_of_pos (by simpa using e')]; exact .cons h ih
theorem RepK.len {kvs : List (Key × DV)} {xs : List (Key × V)} (r : RepK K ρ B H kvs xs) : kvs.length = xs.length := Paired.length r
theorem RepK.gs {ρ' : List Addr} {B' : Addr → Prop} {H' : Hp} {kvs : List (Key × DV)} {xs : List (Key × V)} (g : Gs K ρ B H ρ' B' H') (r : RepK K ρ B H kvs xs) : RepK K ρ' B' H' kvs xs := L2.Paired.mapP r fun _ _ h => ⟨h.1, RepV.gs g _ _ h.2⟩
theorem ORep.dic {a : Addr} {kvs : List (Key × DV)} (h : ORep K ρ B H a (.dic kvs)) : ∃ xs, H a = some (.dK xs) ∧ RepK K ρ B H kvs xs := by
  obtain ⟨xs, e, ek, rl⟩ := h
  exact ⟨xs, e, repK_of ek rl⟩
theorem RepK.orep {a : Addr} {kvs : List (Key × DV)} {xs : List (Key × V)} (r : RepK K ρ B H kvs xs) (e : H a = some (.dK xs)) : ORep K ρ B H a (.dic kvs) := ⟨xs, e, r.to.1, r.to.2⟩
/-- a dict of the world is written -/
theorem wset_dic {n : Nat} {a : Addr} {xs xs' : List (Key × V)} {kvs' : List (Key × DV)} (W : WOk K ρ B hp H) (i : ρ[n]? = some a) (e : H a = some (.dK xs)) (r : RepK K ρ B H kvs' xs') : Gr K ρ B H ρ B (upd H a (.dK xs')) ∧ WOk K ρ B (hp.set n (.dic kvs')) (upd H a (.dK xs')) := by
  have g : Gr K ρ B H ρ B (upd H a (.dK xs')) := Gr.wset i e
  exact ⟨g, W.wset (o' := .dK xs') (v := .dic kvs') i e ((r.gs (g.gs W.rb)).orep upd_same)⟩
theorem wset_lst {n : Nat} {a : Addr} {o : HO} {xs' : List V} {ds' : List DV} (W : WOk K ρ B hp H) (i : ρ[n]? = some a) (e : H a = some o) (r : RepL K ρ B H ds' xs') : Gr K ρ B H ρ B (upd H a (.lst xs')) ∧ WOk K ρ B (hp.set n (.lst ds')) (upd H a (.lst xs')) := by
  have g : Gr K ρ B H ρ B (upd H a (.lst xs')) := Gr.wset i e
  exact ⟨g, W.wset (o' := .lst xs') (v := .lst ds') i e ⟨xs', upd_same, RepL.grow W.rb g _ _ r⟩⟩
end
section
variable {X : Cx} {e a b c : Expr} {f fa fb fc : DEx} {pos : Pos}
def optM (o : Option DV) : M DV := match o with
  | some d => pure d
  | none => failure
theorem optM_some {o : Option DV} {d : DV} {hp hp' : Hs} (h : optM o hp = some (d, hp')) : o = some d ∧ hp = hp' := by
  cases o with
  | none => cases h
  | some z => obtain ⟨rfl, rfl⟩ := pure_some h; exact ⟨rfl, rfl⟩
def keyM (d : DV) : M Key := match dkey d with
  | some k => pure k
  | none => failure
theorem keyM_some {d : DV} {k : Key} {hp hp' : Hs} (h : keyM d hp = some (k, hp')) : dkey d = some k ∧ hp = hp' := by
  unfold keyM at h
  cases q : dkey d with
  | none => rw [q] at h; cases h
  | some z => rw [q] at h; obtain ⟨rfl, rfl⟩ := pure_some h; exact ⟨rfl, rfl⟩
/-- x[y], x data or of the world -/
def ixG : DV → DV → M DV
  | .ref n, y => do
    match ← getW n with
    | .lst ds => do let i ← asI y; optM (atI ds i)
    | .dic kvs => do let k ← keyM y; optM (valD kvs k)
    | _ => failure
  | x, y => ixD x y
theorem p_ixG (hu : X.A.units + 1 < cLine) : IxR X (tP2 X.K ixG) := by
  intro value slice pins s σ H x y v u Q I rx ry h hsub
  obtain ⟨ρ, B, hp, dx, dy, d, hp', W, r1, r2, e, k⟩ := h
  unfold ixG at e
  split at e
  · rename_i n
    obtain ⟨o, hp1, e1, e2⟩ := bind_some e
    obtain ⟨e3, rfl⟩ := getW_some e1
    obtain ⟨a, rfl, i1, ro⟩ := RepV.refW W r1 e3
    cases o with
    | ins _ _ => cases e2
    | dic kvs =>
      obtain ⟨ky, hp2, e4, e5⟩ := bind_some e2
      obtain ⟨hk, rfl⟩ := keyM_some e4
      obtain ⟨hv, rfl⟩ := optM_some e5
      obtain ⟨xs, h1, rk⟩ := ro.dic
      rcases rk.val ky with ⟨z, _⟩ | ⟨d', v', z, zv, rz⟩
      · rw [hv] at z; cases z
      · rw [hv] at z; cases z
        exact ix_dict hu value slice pins s σ H _ _ v u Q I rx ry ⟨a, xs, ky, v', rfl, dkey_rep hk r2, h1, zv, k _ ρ B H Gr.refl W rz⟩ hsub
    | lst ds =>
      obtain ⟨i, hp2, e4, e5⟩ := bind_some e2
      obtain ⟨rfl, rfl⟩ := asI_some e4
      obtain ⟨hv, rfl⟩ := optM_some e5
      obtain ⟨xs, h1, l1⟩ := ro
      obtain ⟨z, hz, rz⟩ := atI_rep l1 hv
      exact ix_list value slice pins s σ H _ _ v u Q I rx ry ⟨a, xs, i, z, rfl, r2.intI, SqL.of h1, hz, k _ ρ B H Gr.refl W rz⟩ hsub
  · exact p_ix value slice pins s σ H x y v u Q I rx ry ⟨ρ, B, hp, _, _, d, hp', W, r1, r2, e, k⟩ hsub
theorem de_ixG (hu : X.A.units + 1 < cLine) (ha : DE X a fa) (hb : DE X b fb) (hs : PlainIx b := by intro _ _; rfl) : DE X (.Subscript a b pos) (eBin ixG fa fb) := L2.PE.imp (pe_ix (p_ixG hu) ha hb hs) fun _ _ _ h => eBin_imp h
def lenG : List DV → M DV
  | [.ref n] => do
    match ← getW n with
    | .lst ds => pure (.int ds.length)
    | .dic kvs => pure (.int kvs.length)
    | _ => failure
  | xs => lenF xs
theorem c_lenG : CallR X (.builtin "len") (tPn X.K lenG) := by
  intro pins s σ H xs us Q I r h
  obtain ⟨ρ, B, hp, ds, d, hp', W, rl, e, k⟩ := h
  unfold lenG at e
  split at e
  · rename_i n
    obtain ⟨o, hp1, e1, e2⟩ := bind_some e
    obtain ⟨e3, rfl⟩ := getW_some e1
    obtain ⟨v, rfl, rv⟩ := rl.oneI
    obtain ⟨a, rfl, _, ro⟩ := RepV.refW W rv e3
    cases o with
    | ins _ _ => cases e2
    | lst zs =>
      obtain ⟨rfl, rfl⟩ := pure_some e2
      obtain ⟨ys, h1, l1⟩ := ro
      exact call_len_seq pins s σ H _ us Q I r ⟨a, ys, rfl, .inl (SqL.of h1), by rw [← l1.length]; exact k _ ρ B H Gr.refl W rep_int⟩
    | dic kvs =>
      obtain ⟨rfl, rfl⟩ := pure_some e2
      obtain ⟨ys, h1, l1⟩ := ro.dic
      exact call_lenD pins s σ H _ us Q I r ⟨a, ys, rfl, h1, by rw [← l1.len]; exact k _ ρ B H Gr.refl W rep_int⟩
  · exact c_len pins s σ H xs us Q I r ⟨ρ, B, hp, _, d, hp', W, rl, e, k⟩
theorem _root_.L2.CallR.kf {f : Value} {r : List V → Hp → VK → Prop} (h : CallR X f r) : CallR X f (fun xs H Q => r xs H fun v H' => KFree X.K H' → Q v H') := by
  intro pins s σ H xs us Q I rv q
  refine thn (h pins s σ H xs us _ I rv q) fun v s' ⟨x, H', I', rx, q'⟩ => ⟨x, H', I', rx, q' (Inv.kfree I')⟩
end
end D

namespace D
open PySem PySem.Spec PyProof.Rows L2
/-! ### == through the world -/
def drf : Nat → Hs → DV → Option DV
  | 0, _, _ => none
  | n + 1, hp, d => match d with
    | .ref i => match hp[i]? with
      | some (.lst ds) => (ds.mapM (drf n hp)).map .lst
      | _ => none
    | .tup ds => (ds.mapM (drf n hp)).map .tup
    | .lst ds => (ds.mapM (drf n hp)).map .lst
    | d => some d
theorem mapM_cons_some {α β : Type} {f : α → Option β} {x : α} {xs : List α} {ys : List β} (h : (x :: xs).mapM f = some ys) : ∃ y zs, f x = some y ∧ xs.mapM f = some zs ∧ ys = y :: zs := by
  rw [List.mapM_cons] at h
  cases q : f x with
  | none => rw [q] at h; cases h
  | some y =>
    cases q2 : xs.mapM f with
    | none => rw [q, q2] at h; cases h
    | some zs => rw [q, q2] at h; exact ⟨y, zs, rfl, rfl, (Option.some.inj h).symm⟩
section
variable {X : Cx} {pins : List (Addr × Obj)} {σ : St} {H : Hp} {s : Shared} {ρ : List Addr} {B : Addr → Prop} {hp : Hs}
theorem reads_drf (I : Inv X pins σ H s) (W : WOk X.K ρ B hp H) : ∀ (n : Nat) (d d' : DV) (v : V) (u : Value), drf n hp d = some d' → RepV X.K ρ B H d v → RelV v u → ∃ as, Reads s.heap u (toP d') as
  | 0, _, _, _, _, h, _, _ => by cases h
  | n + 1, d, d', v, u, h, r, ru => by
    have all : ∀ (ds ds' : List DV) (xs : List V) (us : List Value), ds.mapM (drf n hp) = some ds' → RepL X.K ρ B H ds xs → Vals xs us → ∃ as, ReadsAll s.heap us (toPs ds') as := by
      intro ds
      induction ds with
      | nil =>
        intro ds' xs us h r ru
        rw [List.mapM_nil] at h; cases h
        unfold RepL at r; subst r; cases ru
        exact ⟨[], by unfold toPs; exact .nil⟩
      | cons x ds ih =>
        intro ds' xs us h r ru
        obtain ⟨y, zs, h1, h2, rfl⟩ := mapM_cons_some h
        unfold RepL at r
        obtain ⟨z, t, rfl, r1, r2⟩ := r
        cases ru with
        | cons q1 q2 =>
          obtain ⟨as, a1⟩ := reads_drf I W n x y z _ h1 r1 q1
          obtain ⟨bs, a2⟩ := ih zs t _ h2 r2 q2
          exact ⟨_, by unfold toPs; exact .cons a1 a2⟩
    have lst : ∀ (ds ds' : List DV) (a : Addr) (xs : List V), ds.mapM (drf n hp) = some ds' → SqL X.K H a xs → RepL X.K ρ B H ds xs → ∃ as, Reads s.heap (.ref a) (toP (.lst ds')) as := by
      intro ds ds' a xs h sq rl
      obtain ⟨its, rv, ⟨o, k, e, hc, _, hd⟩, _⟩ := I.list sq
      obtain ⟨as, q⟩ := all ds ds' xs its h rl rv
      exact ⟨_, by unfold toP; exact reads_list_at e hc hd (by simpa using q)⟩
    unfold drf at h
    cases d with
    | non => cases h; obtain rfl := r.nonI; cases ru; exact ⟨[], by unfold toP; exact .none⟩
    | bl b => cases h; obtain rfl := r.blI; cases ru; exact ⟨[], by unfold toP; exact .bool b⟩
    | int i => cases h; obtain rfl := r.intI; obtain ⟨t, rfl⟩ := ru; exact ⟨[], by unfold toP; exact .int i t⟩
    | str x => cases h; obtain rfl := r.strI; obtain ⟨t, rfl⟩ := ru; exact ⟨[], by unfold toP; exact .str x t⟩
    | tup ds =>
      obtain ⟨ds', h1, rfl⟩ := Option.map_eq_some_iff.mp h
      obtain ⟨a, xs, rfl, _, sq, rl⟩ := r.tupI
      cases ru
      obtain ⟨its, rv, ⟨o, e, hc, k, hd⟩, _⟩ := I.tuple sq
      obtain ⟨as, q⟩ := all ds ds' xs its h1 rl rv
      exact ⟨_, by unfold toP; exact reads_tuple_at e hc hd (by simpa using q)⟩
    | lst ds =>
      obtain ⟨ds', h1, rfl⟩ := Option.map_eq_some_iff.mp h
      obtain ⟨a, xs, rfl, _, sq, rl⟩ := r.lstI
      cases ru
      exact lst ds ds' a xs h1 sq rl
    | ref i =>
      cases q : hp[i]? with
      | none => simp only [q] at h; cases h
      | some o =>
        simp only [q] at h
        cases o with
        | dic _ => cases h
        | ins _ _ => cases h
        | lst ds =>
          obtain ⟨ds', h1, rfl⟩ := Option.map_eq_some_iff.mp h
          obtain ⟨a, rfl, _, xs, h2, l⟩ := RepV.refW W r q
          cases ru
          exact lst ds ds' a xs h1 (SqL.of h2) l
end
def drfM (d : DV) : M DV := fun hp => (drf 40 hp d).map fun x => (x, hp)
theorem drfM_some {d d' : DV} {hp hp' : Hs} (h : drfM d hp = some (d', hp')) : drf 40 hp d = some d' ∧ hp = hp' := by
  obtain ⟨x, h1, h2⟩ := Option.map_eq_some_iff.mp h
  cases h2; exact ⟨h1, rfl⟩
def eqvG (x y : DV) : M Bool := do
  let x' ← drfM x
  let y' ← drfM y
  guardM (SeqAt.shaped (toP x') && SeqAt.shaped (toP y'))
  pure (PyData.eqv (toP x') (toP y'))
def eqG : DV → DV → M DV := fun x y => do let b ← eqvG x y; pure (.bl b)
section
variable {X : Cx} {e a b c : Expr} {f fa fb fc : DEx} {ca cb : DTx} {pos : Pos}
theorem eqvG_some {x y : DV} {k : Bool} {hp hp' : Hs} (h : eqvG x y hp = some (k, hp')) : ∃ x' y', drf 40 hp x = some x' ∧ drf 40 hp y = some y' ∧ SeqAt.shaped (toP x') = true ∧ SeqAt.shaped (toP y') = true ∧ k = PyData.eqv (toP x') (toP y') ∧ hp = hp' := by
  obtain ⟨x', hp1, e1, h⟩ := bind_some h
  obtain ⟨y', hp2, e2, h⟩ := bind_some h
  obtain ⟨_, hp3, e3, h⟩ := bind_some h
  obtain ⟨q1, rfl⟩ := drfM_some e1
  obtain ⟨q2, rfl⟩ := drfM_some e2
  obtain ⟨hs, rfl⟩ := guardM_some e3
  obtain ⟨rfl, rfl⟩ := pure_some h
  rw [Bool.and_eq_true] at hs
  exact ⟨x', y', q1, q2, hs.1, hs.2, rfl, rfl⟩
theorem p_eqG (hu : X.A.units + 64 < cLine) : P2 X (compareOp .Eq) eqG := by
  intro pins s σ H x y v u Q I rx ry h
  obtain ⟨ρ, B, hp, dx, dy, d, hp', W, r1, r2, e, k⟩ := h
  obtain ⟨b, hp1, e1, e2⟩ := bind_some e
  obtain ⟨rfl, rfl⟩ := pure_some e2
  obtain ⟨x', y', q1, q2, s1, s2, rfl, rfl⟩ := eqvG_some e1
  obtain ⟨as, a1⟩ := reads_drf I W _ _ _ _ _ q1 r1 rx
  obtain ⟨bs, a2⟩ := reads_drf I W _ _ _ _ _ q2 r2 ry
  exact eq_dataH a1 a2 s1 s2 hu ⟨.bl _, H, I, rfl, k _ ρ B H Gr.refl W rep_bl⟩
/-! ### o[i] = v -/
def putG (o i d : DV) : M Unit := match o with
  | .ref n => do
    match ← getW n with
    | .lst ds => do
      let k ← asI i
      match ixN ds.length k with
      | some j => setW n (.lst (ds.set j d))
      | none => failure
    | .dic kvs => do
      let k ← keyM i
      guardM (decide (kvs.length < lim))
      setW n (.dic (putD kvs k d))
    | _ => failure
  | _ => failure
def tP3 (K : PySem.W.Frag) (g : DV → DV → DV → M Unit) : TSet := fun o i v H Q => ∃ ρ B hp dO di dv hp', WOk K ρ B hp H ∧ RepV K ρ B H dO o ∧ RepV K ρ B H di i ∧ RepV K ρ B H dv v ∧ g dO di dv hp = some ((), hp') ∧ ∀ ρ' B' H', Gr K ρ B H ρ' B' H' → WOk K ρ' B' hp' H' → Q H'
theorem RepL.set {K : PySem.W.Frag} {ρ : List Addr} {B : Addr → Prop} {H : Hp} {d : DV} {x : V} (r : RepV K ρ B H d x) : ∀ {ds : List DV} {xs : List V} (i : Nat), RepL K ρ B H ds xs → RepL K ρ B H (ds.set i d) (xs.set i x)
  | [], _, i, h => by unfold RepL at h; subst h; exact RepL.nil
  | _ :: ds, _, 0, h => by
    unfold RepL at h
    obtain ⟨y, t, rfl, _, h2⟩ := h
    exact RepL.cons r h2
  | _ :: ds, _, i + 1, h => by
    unfold RepL at h
    obtain ⟨y, t, rfl, h1, h2⟩ := h
    exact RepL.cons h1 (RepL.set r i h2)
theorem p_put (hu : X.A.units + 1 < cLine) : PSet X (tP3 X.K putG) := by
  intro pins s σ H o i v ov iv u Q I ro ri rv h
  obtain ⟨ρ, B, hp, dO, di, dv, hp', W, r1, r2, r3, e, k⟩ := h
  cases dO with
  | ref n =>
    obtain ⟨ob, hp1, e1, e2⟩ := bind_some e
    obtain ⟨e3, rfl⟩ := getW_some e1
    obtain ⟨a, rfl, i1, rob⟩ := RepV.refW W r1 e3
    cases ob with
    | ins _ _ => cases e2
    | lst ds =>
      obtain ⟨j, hp2, e4, e5⟩ := bind_some e2
      obtain ⟨rfl, rfl⟩ := asI_some e4
      obtain ⟨xs, h1, l1⟩ := rob
      cases q : ixN ds.length j with
      | none => simp only [q] at e5; cases e5
      | some m =>
        simp only [q] at e5
        cases e5
        obtain ⟨g, W'⟩ := wset_lst W i1 h1 (RepL.set r3 m l1)
        exact set_list pins s σ H _ _ v ov iv u Q I ro ri rv ⟨a, xs, j, m, rfl, r2.intI, h1, by rw [← l1.length]; exact q, k ρ B _ g W'⟩
    | dic kvs =>
      obtain ⟨ky, hp2, e4, e5⟩ := bind_some e2
      obtain ⟨hk, rfl⟩ := keyM_some e4
      obtain ⟨_, hp3, e6, e7⟩ := bind_some e5
      obtain ⟨hl, rfl⟩ := guardM_some e6
      cases e7
      obtain ⟨xs, h1, rk⟩ := rob.dic
      obtain ⟨g, W'⟩ := wset_dic W i1 h1 (rk.put ky r3)
      exact set_dict hu pins s σ H _ _ v ov iv u Q I ro ri rv ⟨a, xs, ky, rfl, dkey_rep hk r2, h1, by rw [← rk.len]; exact Nat.lt_of_lt_of_le (of_decide_eq_true hl) lim_le, k ρ B _ g W'⟩
  | non => cases e
  | bl _ => cases e
  | int _ => cases e
  | str _ => cases e
  | tup _ => cases e
  | lst _ => cases e
def gSb (f g : DEx) : DGx := fun d env => do
  let o ← f env
  let i ← g env
  putG o i d
  pure env
theorem dg_sub {o i : Expr} {fo fi : DEx} (hu : X.A.units + 1 < cLine) (ho : DE X o fo) (hi : DE X i fi)
    (ha : ∀ v, assign (.Subscript o i pos) X.env v = (do
      let ov ← holding [v] (eval o X.env)
      let iv ← holding [v, ov] (eval i X.env)
      standAt pos
      holding [v, ov, iv] (setItem ov iv v)
      release [v, ov, iv] []) := by intro _; rfl) : PG X (.Subscript o i pos) (tDG X.K (gSb fo fi)) := by
  intro pins s σ H v u Q I r h
  refine pg_sub ho hi (p_put hu) ha pins s σ H v u Q I r ?_
  obtain ⟨Z, env, ρ, B, hp, d, env', hp', S, rd, e, k⟩ := h
  obtain ⟨x, hp1, e1, e⟩ := bind_some e
  obtain ⟨y, hp2, e2, e⟩ := bind_some e
  obtain ⟨z, hp3, e3, e⟩ := bind_some e
  obtain ⟨rfl, rfl⟩ := pure_some e
  refine tD.run S e1 fun vx ρ1 B1 H1 g1 S1 r1 => tD.run S1 e2 fun vy ρ2 B2 H2 g2 S2 r2 => ?_
  exact ⟨ρ2, B2, hp2, x, y, d, hp3, S2.wo, RepV.grow S1.wo.rb g2 _ _ r1, r2, RepV.grow S.wo.rb (g1.trans g2) _ _ rd, e3, fun ρ3 B3 H3 g3 W3 => k _ ρ3 B3 H3 ((g1.trans (g2.trans g3)).gs S.wo.rb) (S2.grow g3 W3)⟩
/-! ### methods of Python's own things -/
def kindG : String → DV → M Unit
  | "list", .lst _ => pure ()
  | "str", .str _ => pure ()
  | T, .ref n => do
    match ← getW n with
    | .lst _ => guardM (T == "list")
    | .dic _ => guardM (T == "dict")
    | _ => failure
  | _, _ => failure
theorem kindG_ty {T : String} {d : DV} {hp hp' : Hs} {K : PySem.W.Frag} {ρ : List Addr} {B : Addr → Prop} {H : Hp} {v : V} {u : Unit} (W : WOk K ρ B hp H) (r : RepV K ρ B H d v) (h : kindG T d hp = some (u, hp')) : hp = hp' ∧ tyV K T v H := by
  unfold kindG at h
  split at h
  · obtain ⟨_, rfl⟩ := pure_some h
    obtain ⟨a, xs, rfl, _, sq, _⟩ := r.lstI
    exact ⟨rfl, .inl ⟨rfl, xs, sq⟩⟩
  · obtain ⟨_, rfl⟩ := pure_some h
    obtain rfl := r.strI
    exact ⟨rfl, rfl⟩
  · obtain ⟨o, hp1, e1, e2⟩ := bind_some h
    obtain ⟨e3, rfl⟩ := getW_some e1
    obtain ⟨a, rfl, _, ro⟩ := RepV.refW W r e3
    cases o with
    | lst ds =>
      obtain ⟨hT, rfl⟩ := guardM_some e2
      obtain ⟨xs, h1, _⟩ := ro
      exact ⟨rfl, .inl ⟨by simpa using hT, xs, SqL.of h1⟩⟩
    | dic kvs =>
      obtain ⟨hT, rfl⟩ := guardM_some e2
      obtain ⟨xs, h1, _⟩ := ro
      exact ⟨rfl, .inr (.inr (.inl ⟨by simpa using hT, .inl ⟨xs, h1⟩⟩))⟩
    | ins _ _ => cases e2
  · cases h
def tPm (K : PySem.W.Frag) (m : DV → List DV → M DV) : V → List V → Hp → VK → Prop := fun x vs H Q => ∃ ρ B hp dx ds d hp', WOk K ρ B hp H ∧ RepV K ρ B H dx x ∧ RepL K ρ B H ds vs ∧ m dx ds hp = some (d, hp') ∧ Fol K ρ B H d hp' Q
def eMth (T : String) (m : DV → List DV → M DV) (f : DEx) (a : DAx) : DEx := fun env => do
  let x ← f env
  kindG T x
  let ds ← a env
  m x ds
theorem de_mth {T id : String} {name : Str} {o : Expr} {es : List Expr} {fo : DEx} {fs : DAx} {m : DV → List DV → M DV} {apos cpos : Pos} (hm : MtR X id (tPm X.K m)) (pa : PlainAttrs T) (slot : Slot T name id) (hty : typeOf (.builtin id) = pure (.type "method_descriptor")) (ho : DE X o fo) (ha : DA X (e :: es) fs)
    (hbase : attributeBase o name X.env (eval o X.env) = eval o X.env := by rfl)
    (hfew : ((backTo cpos (starEach (e :: es) X.env)).all (fun x => !x.1) && (backToKw cpos (keywordEach [] X.env)).all (fun x => x.1.isSome)
      && decide ((e :: es).length + ([] : List Keyword).length + (if ([] : List Keyword).isEmpty then 0 else 1) < 30)) = true := by rfl)
    (hline : (apos.endLine == cpos.line) = true := by rfl) (hs : starEach (e :: es) X.env = (false, eval e X.env) :: starEach es X.env := by rfl) (hplain : (backTo cpos (starEach es X.env)).any (·.1) = false := by rfl) :
    DE X (.Call (.Attribute o name apos) (e :: es) [] cpos) (eMth T m fo fs) :=
  L2.PE.imp (pe_bm pa slot hty hm ho ha hbase hfew hline hs hplain) fun σ H Q ⟨Z, env, ρ, B, hp, d, hp', S, e, k⟩ => by
    obtain ⟨x, hp1, e1, ea⟩ := bind_some e
    obtain ⟨_, hp2, e2, eb⟩ := bind_some ea
    obtain ⟨ds, hp3, e3, ec⟩ := bind_some eb
    refine tD.run S e1 fun v ρ1 B1 H1 g1 S1 r1 => ?_
    obtain ⟨z, ty⟩ := kindG_ty S1.wo r1 e2
    rw [← z] at e3
    exact ⟨ty, tDA.run S1 e3 fun vs ρ2 B2 H2 g2 S2 r2 => ⟨ρ2, B2, hp3, x, ds, d, hp', S2.wo, RepV.grow S1.wo.rb g2 _ _ r1, r2, ec, k.after (g1.trans g2)⟩⟩
/-- the list of the world at n -/
def onL (x : DV) (k : Nat → List DV → M DV) : M DV := match x with
  | .ref n => do
    match ← getW n with
    | .lst ds => k n ds
    | _ => failure
  | _ => failure
def onD (x : DV) (k : Nat → List (Key × DV) → M DV) : M DV := match x with
  | .ref n => do
    match ← getW n with
    | .dic ds => k n ds
    | _ => failure
  | _ => failure
theorem onL_some {x d : DV} {k : Nat → List DV → M DV} {hp hp' : Hs} (h : onL x k hp = some (d, hp')) : ∃ n ds, x = .ref n ∧ hp[n]? = some (.lst ds) ∧ k n ds hp = some (d, hp') := by
  cases x with
  | ref n =>
    obtain ⟨o, hp1, e1, e2⟩ := bind_some h
    obtain ⟨e3, rfl⟩ := getW_some e1
    cases o with
    | lst ds => exact ⟨n, ds, rfl, e3, e2⟩
    | dic _ => cases e2
    | ins _ _ => cases e2
  | _ => cases h
def mAppend (x : DV) : List DV → M DV
  | [d] => onL x fun n ds => do guardM (decide (ds.length < lim)); setW n (.lst (ds ++ [d])); pure .non
  | _ => failure
theorem m_append : MtR X "list.append" (tPm X.K mAppend) := by
  intro pins s σ H x vs v us Q I rx rv h
  obtain ⟨ρ, B, hp, dx, es, d, hp', W, r1, r2, e, k⟩ := h
  unfold mAppend at e
  split at e
  · rename_i y
    obtain ⟨n, ds, rfl, h0, e⟩ := onL_some e
    obtain ⟨_, hp1, e1, e2⟩ := bind_some e
    obtain ⟨hl, rfl⟩ := guardM_some e1
    cases e2
    obtain ⟨a, rfl, i1, xs, h1, l1⟩ := RepV.refW W r1 h0
    obtain ⟨w, rfl, rw'⟩ := r2.oneI
    obtain ⟨g, W'⟩ := wset_lst W i1 h1 (RepL.append l1 (RepL.one rw'))
    exact mt_append pins s σ H _ _ v us Q I rx rv ⟨a, xs, w, rfl, rfl, h1, by rw [← l1.length]; exact Nat.lt_of_lt_of_le (of_decide_eq_true hl) lim_le, k _ ρ B _ g W' rep_non⟩
  · cases e
def mInsert (x : DV) : List DV → M DV
  | [.int i, d] => onL x fun n ds => do guardM (decide (ds.length < lim) && smallI i); setW n (.lst (ds.take (insN ds.length i) ++ d :: ds.drop (insN ds.length i))); pure .non
  | _ => failure
def mDPop (x : DV) : List DV → M DV
  | [y] => onD x fun n kvs => do
    let k ← keyM y
    let d ← optM (valD kvs k)
    setW n (.dic (dropD kvs k))
    pure d
  | [y, z] => onD x fun n kvs => do
    let k ← keyM y
    match valD kvs k with
    | some d => do setW n (.dic (dropD kvs k)); pure d
    | none => pure z
  | _ => failure
def mDGet (x : DV) : List DV → M DV
  | [y] => onD x fun n kvs => do
    let k ← keyM y
    pure ((valD kvs k).getD .non)
  | [y, z] => onD x fun n kvs => do
    let k ← keyM y
    pure ((valD kvs k).getD z)
  | _ => failure
end
end D

namespace L2
open PySem PySem.Spec PyProof.Rows
theorem Inv.kfresh {X : Cx} {pins : List (Addr × Obj)} {σ : St} {H : Hp} {s : Shared} (I : Inv X pins σ H s) : X.K.lookup s.heap.objs.size = none := by
  cases q : X.K.lookup s.heap.objs.size with
  | none => rfl
  | some o => exact absurd (Heap.lt_size (I.kIn _ o q)) (Nat.lt_irrefl _)
def tDispK (K : PySem.W.Frag) (trs : List (TE × TE)) : TE := fun σ H Q => ∀ p, H p = none → K.lookup p = none → tPairs trs σ (upd H p (.dK [])) fun ps H2 => H2 p = some (.dK []) ∧ ∃ kvs : List (Key × V), ps = kvs.map (fun kv => (kV kv.1, kv.2)) ∧ kvs.length ≤ 15 ∧ Q (.ref p) (upd H2 p (.dK (mergeK [] kvs)))
theorem pe_dispK {X : Cx} {pos : Pos} {keys : List (Option Expr)} {values : List Expr} {trs : List (TE × TE)} (h : PPs X pos keys values trs) (hall : keys.all (·.isSome) = true) (hl : keys.length = values.length) (h0 : keys ≠ [])
    (h15 : keys.length ≤ 15) : PE X (.Dict keys values pos) (tDispK X.K trs) := by
  intro pins s σ H Q I q
  have hn := I.hok.fresh (Nat.le_refl s.heap.objs.size)
  have I1 := I.laid (a := s.heap.objs.size) (o := .dK []) (h' := s.heap.push { cls := .type "dict", data := .dict #[] }) (t' := s.toks) (fun _ _ q => Heap.get?_push_of_some _ q) (Nat.le_refl _) (dk_empty s.heap I.big)
  refine wpAny_Dict_walk (knd := mixKind X.prog X.w) hall hl h0 h15 (thn (h pins _ σ _ _ I1 (q _ hn I.kfresh)) fun ws s2 ⟨ps, H2, I2, rel, e, kvs, ep, lk, q2⟩ => ?_)
  subst ep
  obtain ⟨rs, c, rk⟩ := carries_of (P := X.prog) (w := X.w) rel
  obtain ⟨z, hd, vs0, r0, dd⟩ := dk_of I2.hok e
  cases r0
  refine ⟨rs, c, dd, fun h' dd' hs => ⟨.ref s.heap.objs.size, _, ?_, rfl, q2⟩⟩
  have hz : (mergeK [] kvs).length ≤ sizeLine := by
    have h1 := length_mergeK kvs []
    rw [List.length_nil] at h1
    rw [sizeLine_eq]; omega
  have he : ∃ q, h'.get? s.heap.objs.size = some q := let ⟨q, _, _, hq, _⟩ := dd'; ⟨q, hq⟩
  exact d_write I2 (by rw [e]; exact True.intro) hs he (dk_new hz hd (rk.merge .nil) dd')
end L2
namespace D
open PySem PySem.Spec PyProof.Rows L2
section
variable {X : Cx} {e a b c : Expr} {f fa fb fc : DEx} {ca cb : DTx} {pos : Pos}
/-! ### {k: v, ..} -/
def evP : List (DEx × DEx) → En → M (List (Key × DV))
  | [], _ => pure []
  | (f, g) :: r, env => do
    let x ← f env
    let k ← keyM x
    let y ← g env
    let ps ← evP r env
    pure ((k, y) :: ps)
def mergeD (kvs more : List (Key × DV)) : List (Key × DV) := more.foldl (fun acc kv => putD acc kv.1 kv.2) kvs
def eNewD (ps : List (DEx × DEx)) : DEx := fun env => do
  let kvs ← evP ps env
  guardM (decide (kvs.length ≤ 15))
  allocW (.dic (mergeD [] kvs))
def trsOf (K : PySem.W.Frag) (ps : List (DEx × DEx)) : List (TE × TE) := ps.map fun p => (tD K p.1, tD K p.2)
structure DPs (X : Cx) (pos : Pos) (keys : List (Option Expr)) (values : List Expr) (ps : List (DEx × DEx)) : Prop where
  out : PPs X pos keys values (trsOf X.K ps)
theorem dp_nil : DPs X pos [] [] [] := ⟨pps_nil⟩
theorem dp_cons {k v : Expr} {ks : List (Option Expr)} {vs : List Expr} {ps : List (DEx × DEx)} (hk : DE X k fa) (hv : DE X v fb) (hr : DPs X pos ks vs ps) : DPs X pos (some k :: ks) (v :: vs) ((fa, fb) :: ps) := ⟨pps_cons hk hv hr.out⟩
theorem RepK.merge {K : PySem.W.Frag} {ρ : List Addr} {B : Addr → Prop} {H : Hp} {more : List (Key × DV)} {ms : List (Key × V)} (r : RepK K ρ B H more ms) : ∀ {kvs : List (Key × DV)} {xs : List (Key × V)}, RepK K ρ B H kvs xs → RepK K ρ B H (mergeD kvs more) (mergeK xs ms) := by
  induction r with
  | nil => intro kvs xs r; exact r
  | @cons p q _ _ h _ ih =>
    intro kvs xs r
    unfold mergeD mergeK at ih ⊢
    rw [List.foldl_cons, List.foldl_cons, h.1]
    exact ih (r.put q.1 h.2)
theorem evP_run {K : PySem.W.Frag} : ∀ (ps : List (DEx × DEx)) {Z : Ent} {env : En} {σ : St} {ρ : List Addr} {B : Addr → Prop} {hp hp1 : Hs} {H : Hp} {kvs : List (Key × DV)} {R : List (V × V) → Hp → Prop}, SOk K Z env σ ρ B hp H → evP ps env hp = some (kvs, hp1) →
    (∀ xs ρ' B' H', Gr K ρ B H ρ' B' H' → SOk K Z env σ ρ' B' hp1 H' → RepK K ρ' B' H' kvs xs → R (xs.map fun kv => (kV kv.1, kv.2)) H') → tPairs (trsOf K ps) σ H R
  | [], _, _, _, _, _, _, _, _, _, _, S, e, k => by
    obtain ⟨rfl, rfl⟩ := pure_some e
    exact k [] _ _ _ Gr.refl S .nil
  | (f, g) :: r, _, _, _, _, _, _, _, _, _, _, S, e, k => by
    obtain ⟨x, hp2, e1, e⟩ := bind_some e
    obtain ⟨ky, hp3, e2, e⟩ := bind_some e
    obtain ⟨hk, rfl⟩ := keyM_some e2
    obtain ⟨y, hp4, e3, e⟩ := bind_some e
    obtain ⟨ps, hp5, e4, e⟩ := bind_some e
    obtain ⟨rfl, rfl⟩ := pure_some e
    refine tD.run S e1 fun v ρ1 B1 H1 g1 S1 r1 => tD.run S1 e3 fun u ρ2 B2 H2 g2 S2 r2 => evP_run r S2 e4 fun xs ρ3 B3 H3 g3 S3 r3 => ?_
    obtain rfl := dkey_rep hk r1
    exact k ((ky, u) :: xs) ρ3 B3 H3 (g1.trans (g2.trans g3)) S3 (.cons ⟨rfl, RepV.grow S2.wo.rb g3 _ _ r2⟩ r3)
theorem de_newD {keys : List (Option Expr)} {values : List Expr} {ps : List (DEx × DEx)} (h : DPs X pos keys values ps) (hall : keys.all (·.isSome) = true := by rfl) (hl : keys.length = values.length := by rfl) (h0 : keys ≠ [] := by exact List.cons_ne_nil _ _) (h15 : keys.length ≤ 15 := by exact Nat.le_of_ble_eq_true rfl) : DE X (.Dict keys values pos) (eNewD ps) :=
  L2.PE.imp (pe_dispK h.out hall hl h0 h15) fun σ H Q ⟨Z, env, ρ, B, hp, d, hp', S, e, k⟩ => by
    obtain ⟨kvs, hp1, e1, e2⟩ := bind_some e
    obtain ⟨_, hp2, e3, e4⟩ := bind_some e2
    obtain ⟨hs, rfl⟩ := guardM_some e3
    cases e4
    intro p hn hk
    have g0 : Gr X.K ρ B H ρ (banP B p) (upd H p (.dK [])) := Gr.banned hn hk
    have W0 := S.wo.banned (o := .dK []) hn hk
    have np : p ∉ ρ := fun z => S.wo.bt p (S.wo.rb p z) hn
    refine evP_run ps (S.grow g0 W0) e1 fun xs ρ1 B1 H1 g1 S1 r1 => ?_
    have np1 : p ∉ ρ1 := fun z => (g1.rnew p z).elim np fun q => by rw [upd_same] at q; cases q
    have hp1' : H1 p = some (.dK []) := g1.keep p _ np upd_same
    refine ⟨hp1', xs, rfl, by rw [← r1.len]; exact of_decide_eq_true hs, ?_⟩
    have G := g0.trans g1
    have trk : ∀ b, (upd H1 p (.dK (mergeK [] xs))) b = none → H1 b = none := fun b q => by
      by_cases e : b = p
      · subst e; rw [upd_same] at q; cases q
      · rw [upd_ne e] at q; exact q
    have bp : B1 p := g1.ban p (.inr rfl)
    have g2 : Gs X.K ρ1 B1 H1 (ρ1 ++ [p]) B1 (upd H1 p (.dK (mergeK [] xs))) := ⟨List.prefix_append _ _, fun _ h => .inl h, fun b o nb h => by rw [upd_ne (show b ≠ p from fun z => nb (by rw [z]; exact bp))]; exact h, trk⟩
    have G' : Gr X.K ρ B H (ρ1 ++ [p]) B1 (upd H1 p (.dK (mergeK [] xs))) :=
      ⟨G.pre.trans (List.prefix_append _ _), G.ban, G.new, fun a z => (List.mem_append.mp z).elim (G.rnew a) fun q => .inr (by rw [List.mem_singleton.mp q]; exact hn),
        fun a o na h => by rw [upd_ne (show a ≠ p from fun z => by rw [z, hn] at h; cases h)]; exact G.keep a o na h, fun a q => G.trk a (trk a q)⟩
    have W1 := S1.wo
    have oD : ORep X.K (ρ1 ++ [p]) B1 (upd H1 p (.dK (mergeK [] xs))) p (.dic (mergeD [] kvs)) := ((RepK.merge r1 (kvs := []) (xs := []) .nil).gs g2).orep upd_same
    have W2 : WOk X.K (ρ1 ++ [p]) B1 (hp1 ++ [.dic (mergeD [] kvs)]) (upd H1 p (.dK (mergeK [] xs))) := by
      refine ⟨by simp [W1.len], List.nodup_append.mpr ⟨W1.nd, by simp, fun a ha b hb => by rw [List.mem_singleton.mp hb]; exact fun z => np1 (z ▸ ha)⟩, fun i a u e q => ?_, fun a z => (List.mem_append.mp z).elim (W1.rb a) fun q => by rw [List.mem_singleton.mp q]; exact bp, fun a z q => W1.bt a z (trk a q), W1.bk⟩
      by_cases hi : i < ρ1.length
      · rw [List.getElem?_append_left hi] at e
        rw [List.getElem?_append_left (by rw [← W1.len]; exact hi)] at q
        exact ORep.gs g2 (upd_ne (fun z => np1 (by rw [← z]; exact List.mem_of_getElem? e))) (W1.obj i a u e q)
      · rw [List.getElem?_append_right (by omega)] at e
        rw [List.getElem?_append_right (by rw [← W1.len]; omega)] at q
        have hi0 : i - ρ1.length = 0 := by
          have := (List.getElem?_eq_some_iff.mp e).1
          simp at this; omega
        rw [hi0] at e
        rw [← W1.len, hi0] at q
        simp at e q
        subst e q
        exact oD
    refine k _ _ _ _ G' W2 ?_
    unfold RepV
    exact ⟨p, rfl, by rw [← W1.len]; simp⟩
def eNewD0 : DEx := fun _ => allocW (.dic [])
/-! ### walking: what comes next -/
abbrev NX := Nat → M (Option DV)
def NxtOk (K : PySem.W.Frag) (ρ : List Addr) (B : Addr → Prop) (H : Hp) (nxt : NX) (J : It) : Prop :=
  ∀ ρ1 B1 hp1 H1, Gs K ρ B H ρ1 B1 H1 → WOk K ρ1 B1 hp1 H1 → ∀ (i : Nat) (o : Option DV) (hp2 : Hs), nxt i hp1 = some (o, hp2) → hp2 = hp1 ∧ match o with
    | none => J.stop i H1
    | some d => J.go i H1 ∧ ∀ x H', J.yld i H1 x H' → RepV K ρ1 B1 H' d x ∧ (H' = H1 ∨ ∃ p o, H1 p = none ∧ H' = upd H1 p o)
abbrev DXx := En → M NX
def tDX (K : PySem.W.Frag) (f : DXx) : TI := fun σ H R => ∃ Z env ρ B hp nxt hp', SOk K Z env σ ρ B hp H ∧ f env hp = some (nxt, hp') ∧ ∀ J ρ' B' H', Gr K ρ B H ρ' B' H' → WOk K ρ' B' hp' H' → NxtOk K ρ' B' H' nxt J → R J H'
def DX (X : Cx) (tg iter : Expr) (f : DXx) : Prop := PI X tg iter (tDX X.K f)
def nxD (ds : List DV) : NX := fun i => if i ≤ ds.length then pure ds[i]? else failure
def nxW (n : Nat) : NX := fun i => do
  match ← getW n with
  | .lst ds => pure ds[i]?
  | _ => failure
theorem nxD_ok {K : PySem.W.Frag} {ρ : List Addr} {B : Addr → Prop} {H : Hp} {ds : List DV} {J : It} (h : ItOk K ρ B H ds J) : NxtOk K ρ B H (nxD ds) J := fun ρ1 B1 hp1 H1 g W i o hp2 e => by
  unfold nxD at e
  by_cases hi : i ≤ ds.length
  · rw [if_pos hi] at e
    obtain ⟨rfl, rfl⟩ := pure_some e
    obtain ⟨h1, h2⟩ := h ρ1 B1 H1 g W.rb W.bt
    refine ⟨rfl, ?_⟩
    cases q : ds[i]? with
    | none =>
      have : i = ds.length := by have := List.getElem?_eq_none_iff.mp q; omega
      subst this
      exact h2
    | some d => exact h1 i d q
  · rw [if_neg hi] at e; cases e
theorem nxW_ok {K : PySem.W.Frag} {ρ : List Addr} {B : Addr → Prop} {H : Hp} {n : Nat} {a : Addr} (ha : ρ[n]? = some a) (kf : ∀ H1 : Hp, ∀ xs ys, H1 a = some (.lst xs) → SqL K H1 a ys → ys = xs) : NxtOk K ρ B H (nxW n) (Itl K a) := fun ρ1 B1 hp1 H1 g W i o hp2 e => by
  obtain ⟨ob, hp3, e1, e2⟩ := bind_some e
  obtain ⟨e3, rfl⟩ := getW_some e1
  have ha1 := pre_get g.pre ha
  cases ob with
  | dic _ => cases e2
  | ins _ _ => cases e2
  | lst ds =>
    obtain ⟨rfl, rfl⟩ := pure_some e2
    obtain ⟨xs, h1, l1⟩ := W.obj n a _ ha1 e3
    refine ⟨rfl, ?_⟩
    cases q : ds[i]? with
    | none => exact ⟨xs, SqL.of h1, by rw [← l1.length]; exact List.getElem?_eq_none_iff.mp q⟩
    | some d =>
      obtain ⟨x, hx, rx⟩ := l1.get q
      refine ⟨⟨xs, x, SqL.of h1, hx⟩, fun y H' ⟨eH, hy⟩ => ?_⟩
      subst eH
      have := hy xs (SqL.of h1)
      rw [hx] at this; cases this
      exact ⟨rx, .inl rfl⟩
theorem sql_uniq {K : PySem.W.Frag} {a : Addr} (hk : K.lookup a = none) (H : Hp) (xs ys : List V) (h : H a = some (.lst xs)) (h' : SqL K H a ys) : ys = xs := by
  rcases h' with (h' | ⟨o, h'⟩) | ⟨o, _, _, h', _⟩
  · rw [h] at h'; cases h'; rfl
  · rw [h] at h'; cases h'
  · rw [hk] at h'; cases h'
/-- a list: data, or of the world -/
def xLs (f : DEx) : DXx := fun env => do
  match ← f env with
  | .lst ds => pure (nxD ds)
  | .ref n => do
    match ← getW n with
    | .lst _ => pure (nxW n)
    | _ => failure
  | _ => failure
variable {tg iter : Expr}
theorem dx_list (h : DE X iter f) : DX X tg iter (xLs f) := L2.PI.imp (pi_list (L2.PE.kf h)) fun σ H R ⟨Z, env, ρ, B, hp, nxt, hp', S, e, k⟩ => by
  obtain ⟨d, hp1, e1, e2⟩ := bind_some e
  refine tD.run S e1 fun v ρ1 B1 H1 g1 S1 r1 kf => ?_
  cases d with
  | lst ds =>
    obtain ⟨rfl, rfl⟩ := pure_some e2
    obtain ⟨a, xs, rfl, nb, sq, rl⟩ := r1.lstI
    exact ⟨a, rfl, ⟨xs, sq⟩, k _ ρ1 B1 H1 g1 S1.wo (nxD_ok (it_list nb sq rl))⟩
  | ref n =>
    obtain ⟨o, hp2, e3, e4⟩ := bind_some (show (getW n >>= fun o => (match o with | .lst _ => pure (nxW n) | _ => failure : M NX)) hp1 = some (nxt, hp') from e2)
    obtain ⟨e5, e6⟩ := getW_some e3
    cases o with
    | lst ds =>
      obtain ⟨rfl, z⟩ := pure_some e4
      rw [← z, ← e6] at k
      obtain ⟨a, rfl, i1, xs, h1, _⟩ := RepV.refW S1.wo r1 e5
      exact ⟨a, rfl, ⟨xs, SqL.of h1⟩, k _ ρ1 B1 H1 g1 S1.wo (nxW_ok i1 (sql_uniq (kf a _ h1)))⟩
    | dic _ => cases e4
    | ins _ _ => cases e4
  | non => cases e2
  | bl _ => cases e2
  | int _ => cases e2
  | str _ => cases e2
  | tup _ => cases e2
/-! ### for -/
def forX (nxt : NX) (b : DV → DSx) : Nat → Nat → DSx
  | 0, _, _ => failure
  | m + 1, i, env => do
    match ← nxt i with
    | none => pure (.nx, env)
    | some d => do
      let r ← b d env
      match r.1 with
      | .nx => forX nxt b m (i + 1) r.2
      | .ct => forX nxt b m (i + 1) r.2
      | .bk => pure (.nx, r.2)
      | .rt x => pure (.rt x, r.2)
def sForX (f : DXx) (g : DGx) (body : DSx) : DSx := fun env => do let nxt ← f env; forX nxt (fun d env => do let env' ← g d env; body env') 100000 0 env
theorem ds_forX {body : List Stmt} {fi : DXx} {g : DGx} {sb : DSx} (hp : PassesOwn (model X.prog X.w) X.A X.env X.xe) (hc : X.calm = true) (hi : DX X tg iter fi) (hg : PG X tg (tDG X.K g)) (hb : DSs X body sb)
    (hs : ∀ x, foldedSetIterable iter X.env x = pure x := by intro _; rfl) : DS X (.For tg iter body [] pos) (sForX fi g sb) :=
  (ps_for hp hc hi hg hb hs).imp fun D σ H ⟨Z, env, ρ, B, hp, fl, env', hp', S, e, k⟩ => by
    obtain ⟨nxt, hp1, e1, e2⟩ := bind_some e
    refine ⟨Z, env, ρ, B, hp, nxt, hp1, S, e1, fun J ρ1 B1 H1 g1 W1 it => ?_⟩
    have k1 := k.after (g1.gs S.wo.rb)
    refine ⟨fun i m σ H => ∃ env ρ B hp, SOk X.K Z env σ ρ B hp H ∧ Gs X.K ρ1 B1 H1 ρ B H ∧ forX nxt (fun d env => do let env' ← g d env; sb env') m i env hp = some ((fl, env'), hp'),
      ⟨100000, env, ρ1, B1, hp1, S.grow g1 W1, Gs.refl, e2⟩, ?_⟩
    rintro i m σ H ⟨env2, ρ2, B2, hp2, S2, g2, e3⟩
    cases m with
    | zero => cases e3
    | succ m =>
      obtain ⟨o, hpo, eo, e3⟩ := bind_some e3
      obtain ⟨rfl, ito⟩ := it ρ2 B2 hp2 H g2 S2.wo i o hpo eo
      cases o with
      | none =>
        obtain ⟨z, rfl⟩ := pure_some e3; cases z
        exact .inl ⟨ito, k1 σ ρ2 B2 H g2 S2⟩
      | some d =>
        obtain ⟨go, yl⟩ := ito
        obtain ⟨⟨f1, env4⟩, hp4, e4, e5⟩ := bind_some e3
        obtain ⟨env3, hp3, e6, e7⟩ := bind_some e4
        refine .inr ⟨go, fun σ' H' => ∃ env ρ B hp, SOk X.K Z env σ' ρ B hp H' ∧ Gs X.K ρ1 B1 H1 ρ B H' ∧ forX nxt (fun d env => do let env' ← g d env; sb env') m (i + 1) env hp = some ((fl, env'), hp'),
          fun σ' H' q => ⟨m, Nat.lt_succ_self m, q⟩, fun x H' y => ?_⟩
        obtain ⟨rx, hx⟩ := yl x H' y
        have S3 : SOk X.K Z env2 σ ρ2 B2 hpo H' ∧ Gs X.K ρ2 B2 H ρ2 B2 H' := by
          rcases hx with rfl | ⟨p, o, hn, rfl⟩
          · exact ⟨S2, Gs.refl⟩
          · exact ⟨S2.grow (Gr.laid hn) (S2.wo.laid hn), upd_gs S2.wo.rb hn⟩
        refine ⟨Z, env2, ρ2, B2, hpo, d, env3, hp3, S3.1, rx, e6, fun σ5 ρ5 B5 H5 g5 S5 => ⟨Z, env3, ρ5, B5, hp3, f1, env4, hp4, S5, e7, fun σ6 ρ6 B6 H6 g6 S6 => ?_⟩⟩
        have G6 := g2.trans (S3.2.trans (g5.trans g6))
        cases f1 with
        | nx => exact ⟨env4, ρ6, B6, hp4, S6, G6, e5⟩
        | ct => exact ⟨env4, ρ6, B6, hp4, S6, G6, e5⟩
        | bk => obtain ⟨z, rfl⟩ := pure_some e5; cases z; exact k1 σ6 ρ6 B6 H6 G6 S6
        | rt d => obtain ⟨z, rfl⟩ := pure_some e5; cases z; exact k1 σ6 ρ6 B6 H6 G6 S6
variable {elt : Expr} {x : Str} {px : Pos} {ifs : List Expr} {scope : Scope} {cl : List (Str × Addr)} {caps : List Str} {idx : List Nat} {src : DXx} {te : DTx} {nw : Bool}
end
end D

/-! ## what a run comes to -/
namespace D
open PySem PySem.Spec PyProof.Rows L2
def WP {α : Type} (m : M α) (hp : Hs) (Q : α → Hs → Prop) : Prop := ∃ x hp', m hp = some (x, hp') ∧ Q x hp'
section
variable {α β : Type} {m : M α} {k : α → M β} {hp : Hs} {Q : α → Hs → Prop} {R : β → Hs → Prop}
theorem WP_pure {x : α} : WP (pure x) hp Q ↔ Q x hp := ⟨fun ⟨y, h, e, q⟩ => by obtain ⟨rfl, rfl⟩ := pure_some e; exact q, fun q => ⟨x, hp, rfl, q⟩⟩
theorem WP_bind : WP (m >>= k) hp R ↔ WP m hp fun x h => WP (k x) h R := ⟨fun ⟨y, h, e, q⟩ => by obtain ⟨x, h1, e1, e2⟩ := bind_some e; exact ⟨x, h1, e1, y, h, e2, q⟩, fun ⟨x, h1, e1, y, h, e2, q⟩ => ⟨y, h, (bind_at e1).trans e2, q⟩⟩
theorem WP.mono {Q' : α → Hs → Prop} (h : WP m hp Q) (hq : ∀ x h, Q x h → Q' x h) : WP m hp Q' := let ⟨x, h1, e, q⟩ := h; ⟨x, h1, e, hq x h1 q⟩
theorem WP.of {x : α} {hp' : Hs} (e : m hp = some (x, hp')) (q : Q x hp') : WP m hp Q := ⟨x, hp', e, q⟩
theorem WP.eq {x : α} (e : m = pure x) (q : Q x hp) : WP m hp Q := e ▸ WP_pure.mpr q
end
section
variable {hp : Hs} {env : En} {Q : Fl × En → Hs → Prop}
theorem WP_forL {b : DV → DSx} (I : Nat → En → Hs → Prop) (ds : List DV) (h0 : I 0 env hp) (hs : ∀ (i : Nat) d, ds[i]? = some d → ∀ env hp, I i env hp → WP (b d env) hp fun r h => match r.1 with
    | .nx => I (i + 1) r.2 h
    | .ct => I (i + 1) r.2 h
    | .bk => Q (.nx, r.2) h
    | .rt x => Q (.rt x, r.2) h) (he : ∀ env hp, I ds.length env hp → Q (.nx, env) hp) : WP (forL b ds env) hp Q := by
  suffices h : ∀ (m i : Nat) env hp, m + i = ds.length → I i env hp → WP (forL b (ds.drop i) env) hp Q by simpa using h ds.length 0 env hp rfl h0
  intro m
  induction m with
  | zero =>
    intro i env hp e hI
    have : i = ds.length := by omega
    subst this
    rw [List.drop_length]
    exact WP_pure.mpr (he env hp hI)
  | succ m ih =>
    intro i env hp e hI
    have hlt : i < ds.length := by omega
    rw [List.drop_eq_getElem_cons hlt, forL, WP_bind]
    refine (hs i ds[i] (List.getElem?_eq_getElem hlt) env hp hI).mono fun r h q => ?_
    obtain ⟨fl, env1⟩ := r
    cases fl with
    | nx => exact ih (i + 1) env1 h (by omega) q
    | ct => exact ih (i + 1) env1 h (by omega) q
    | bk => exact WP_pure.mpr q
    | rt x => exact WP_pure.mpr q
theorem WP_forX {nxt : NX} {b : DV → DSx} (ds : List DV) (I : Nat → En → Hs → Prop) (hl : ds.length < 100000) (hn : ∀ (i : Nat) env hp, i ≤ ds.length → I i env hp → nxt i hp = some (ds[i]?, hp)) (h0 : I 0 env hp) (hs : ∀ (i : Nat) d, ds[i]? = some d → ∀ env hp, I i env hp → WP (b d env) hp fun r h => match r.1 with
    | .nx => I (i + 1) r.2 h
    | .ct => I (i + 1) r.2 h
    | .bk => Q (.nx, r.2) h
    | .rt x => Q (.rt x, r.2) h) (he : ∀ env hp, I ds.length env hp → Q (.nx, env) hp) : WP (forX nxt b 100000 0 env) hp Q := by
  suffices h : ∀ (m i n : Nat) env hp, m + i = ds.length → m < n → I i env hp → WP (forX nxt b n i env) hp Q from h ds.length 0 100000 env hp rfl hl h0
  intro m
  induction m with
  | zero =>
    intro i n env hp e hn' hI
    have : i = ds.length := by omega
    subst this
    obtain ⟨n, rfl⟩ : ∃ k, n = k + 1 := ⟨n - 1, by omega⟩
    rw [forX, WP_bind]
    refine WP.of (hn _ env hp (Nat.le_refl _) hI) ?_
    rw [show ds[ds.length]? = none by simp]
    exact WP_pure.mpr (he env hp hI)
  | succ m ih =>
    intro i n env hp e hn' hI
    have hlt : i < ds.length := by omega
    obtain ⟨n, rfl⟩ : ∃ k, n = k + 1 := ⟨n - 1, by omega⟩
    rw [forX, WP_bind]
    refine WP.of (hn i env hp (by omega) hI) ?_
    simp only [List.getElem?_eq_getElem hlt]
    rw [WP_bind]
    refine (hs i ds[i] (List.getElem?_eq_getElem hlt) env hp hI).mono fun r h q => ?_
    obtain ⟨fl, env1⟩ := r
    cases fl with
    | nx => exact ih (i + 1) n env1 h (by omega) (by omega) q
    | ct => exact ih (i + 1) n env1 h (by omega) (by omega) q
    | bk => exact WP_pure.mpr q
    | rt x => exact WP_pure.mpr q
theorem nxD_at (ds : List DV) (i : Nat) (h : i ≤ ds.length) (hp : Hs) : nxD ds i hp = some (ds[i]?, hp) := by unfold nxD; rw [if_pos h]; rfl
/-- over data -/
theorem WP_forXD {b : DV → DSx} (ds : List DV) (I : Nat → En → Hs → Prop) (hl : ds.length < 100000) (h0 : I 0 env hp) (hs : ∀ (i : Nat) d, ds[i]? = some d → ∀ env hp, I i env hp → WP (b d env) hp fun r h => match r.1 with
    | .nx => I (i + 1) r.2 h
    | .ct => I (i + 1) r.2 h
    | .bk => Q (.nx, r.2) h
    | .rt x => Q (.rt x, r.2) h) (he : ∀ env hp, I ds.length env hp → Q (.nx, env) hp) : WP (forX (nxD ds) b 100000 0 env) hp Q :=
  WP_forX ds I hl (fun i env hp h _ => nxD_at ds i h hp) h0 hs he
end
/-! ### plain data through the world -/
theorem drf_int (n : Nat) (hp : Hs) (i : Int) : drf (n + 1) hp (.int i) = some (.int i) := rfl
theorem drfM_of {d d' : DV} {hp : Hs} (h : drf 40 hp d = some d') : drfM d hp = some (d', hp) := by unfold drfM; rw [h]; rfl
theorem eqvG_of {x y x' y' : DV} {hp : Hs} (hx : drf 40 hp x = some x') (hy : drf 40 hp y = some y') (s1 : okP x' = true) (s2 : okP y' = true) : eqvG x y hp = some (PyData.eqv (toP x') (toP y'), hp) := by
  unfold eqvG
  simp only [okP, Bool.and_eq_true] at s1 s2
  rw [bind_at (drfM_of hx), bind_at (drfM_of hy)]
  simp only [s1.2, s2.2, Bool.and_self, guardM, if_true, pure_bind]
  rfl
theorem eqvG_int (i j : Int) (hp : Hs) : eqvG (.int i) (.int j) hp = some (i == j, hp) := eqvG_of (drf_int 39 hp i) (drf_int 39 hp j) (okP_int i) (okP_int j)
end D
namespace D
open PySem PySem.Spec PyProof.Rows L2
theorem at_of {α : Type} {m : M α} {x : α} (h : m = pure x) (hp : Hs) : m hp = some (x, hp) := by rw [h]; rfl
end D

/-! ## own classes: instances as things of the world -/
namespace D
open PySem PySem.Spec PyProof.Rows L2
abbrev ClsN (K : PySem.W.Frag) (c : Str) (C : Addr) : Prop := PySem.W.nsIn K mainGlobals c = some (some (.ref C))
theorem ClsN.uniq {K : PySem.W.Frag} {c : Str} {C C' : Addr} (h : ClsN K c C) (h' : ClsN K c C') : C = C' := by
  have e := h.symm.trans h'; cases e; rfl
/-- a value of the objects of class c -/
structure FldK (K : PySem.W.Frag) (c f : Str) : Prop where
  ex : ∃ C, ClsN K c C ∧ Cls K C ∧ NoAttr K C f
/-- a method of class c -/
structure HasM (P : Program) (w : World) (K : PySem.W.Frag) (mg : Str → Option Value) (base : Heap) (c m : Str) (k n : Nat) (F : List DV → M DV) : Prop where
  ex : ∃ (C f : Addr) (fd : FuncData) (ps : List Str), ClsN K c C ∧ Cls K C ∧ Meth K C m f ∧ FnOk P w K mg base CX0 k f fd ps (spD K n F) ∧ Binds K fd ps []
/-- the making of an object of class c -/
structure HasI (P : Program) (w : World) (K : PySem.W.Frag) (mg : Str → Option Value) (base : Heap) (c : Str) (k n : Nat) (F : List DV → M DV) : Prop where
  ex : ∃ (C f : Addr) (fd : FuncData) (ps : List Str), ClsN K c C ∧ mg c = some (.ref C) ∧ Mk K C f ∧ FnOk P w K mg base CX0 k f fd ps (spD K n F) ∧ Binds K fd ps []
section
variable {K : PySem.W.Frag} {ρ : List Addr} {B : Addr → Prop} {H : Hp} {hp : Hs}
abbrev RepF (K : PySem.W.Frag) (ρ : List Addr) (B : Addr → Prop) (H : Hp) : List (Str × DV) → List (Str × V) → Prop := Paired fun p q => p.1 = q.1 ∧ RepV K ρ B H p.2 q.2
theorem repF_of : ∀ {fs : List (Str × DV)} {xs : List (Str × V)}, xs.map (·.1) = fs.map (·.1) → RepL K ρ B H (fs.map (·.2)) (xs.map (·.2)) → RepF K ρ B H fs xs
  | [], [], _, _ => .nil
  | [], _ :: _, e, _ => by simp at e
  | _ :: _, [], e, _ => by simp at e
  | p :: fs, q :: xs, e, r => by
    simp only [List.map_cons, List.cons.injEq] at e
    simp only [List.map_cons] at r
    unfold RepL at r
    obtain ⟨x, t, e2, h1, h2⟩ := r
    simp only [List.cons.injEq] at e2
    obtain ⟨rfl, rfl⟩ := e2
    exact .cons ⟨e.1.symm, h1⟩ (repF_of e.2 h2)
theorem RepF.to {fs : List (Str × DV)} {xs : List (Str × V)} (r : RepF K ρ B H fs xs) : xs.map (·.1) = fs.map (·.1) ∧ RepL K ρ B H (fs.map (·.2)) (xs.map (·.2)) := by
  induction r with
  | nil => exact ⟨rfl, RepL.nil⟩
  | cons h _ ih => exact ⟨by simp [ih.1, h.1], by simpa using RepL.cons h.2 ih.2⟩
theorem RepF.look {fs : List (Str × DV)} {xs : List (Str × V)} (r : RepF K ρ B H fs xs) (f : Str) : (fs.lookup f = none ∧ xs.lookup f = none) ∨ ∃ d v, fs.lookup f = some d ∧ xs.lookup f = some v ∧ RepV K ρ B H d v := by
  induction r with
  | nil => exact .inl ⟨rfl, rfl⟩
  | @cons p q _ _ h _ ih =>
    obtain ⟨p1, p2⟩ := p
    obtain ⟨q1, q2⟩ := q
    obtain ⟨h1, h2⟩ := h
    have h1 : p1 = q1 := h1
    subst h1
    cases e : f == p1 with
    | true => exact .inr ⟨p2, q2, by simp [List.lookup, e], by simp [List.lookup, e], h2⟩
    | false => simpa [List.lookup, e] using ih
def putFD (f : Str) (d : DV) : List (Str × DV) → List (Str × DV)
  | [] => [(f, d)]
  | (g, x) :: r => if g = f then (g, d) :: r else (g, x) :: putFD f d r
theorem RepF.put {fs : List (Str × DV)} {xs : List (Str × V)} (r : RepF K ρ B H fs xs) (f : Str) {d : DV} {v : V} (rd : RepV K ρ B H d v) : RepF K ρ B H (putFD f d fs) (putF f v xs) := by
  induction r with
  | nil => exact .cons ⟨rfl, rd⟩ .nil
  | @cons p q _ _ h t ih =>
    obtain ⟨p1, p2⟩ := p
    obtain ⟨q1, q2⟩ := q
    obtain ⟨h1, h2⟩ := h
    have h1 : p1 = q1 := h1
    subst h1
    unfold putFD putF
    by_cases e : p1 = f
    · rw [if_pos e, if_pos e]; exact .cons ⟨rfl, rd⟩ t
    · rw [if_neg e, if_neg e]; exact .cons ⟨rfl, h2⟩ ih
theorem RepF.len {fs : List (Str × DV)} {xs : List (Str × V)} (r : RepF K ρ B H fs xs) : fs.length = xs.length := Paired.length r
theorem RepF.gs {ρ' : List Addr} {B' : Addr → Prop} {H' : Hp} {fs : List (Str × DV)} {xs : List (Str × V)} (g : Gs K ρ B H ρ' B' H') (r : RepF K ρ B H fs xs) : RepF K ρ' B' H' fs xs := L2.Paired.mapP r fun _ _ h => ⟨h.1, RepV.gs g _ _ h.2⟩
theorem ORep.ins {a : Addr} {c : Str} {fs : List (Str × DV)} (h : ORep K ρ B H a (.ins c fs)) : ∃ C dx xs, ClsN K c C ∧ H a = some (.ins C dx xs) ∧ RepF K ρ B H fs xs := by
  obtain ⟨C, dx, xs, nc, e, ek, rl⟩ := h
  exact ⟨C, dx, xs, nc, e, repF_of ek rl⟩
theorem RepF.orep {a C dx : Addr} {c : Str} {fs : List (Str × DV)} {xs : List (Str × V)} (nc : ClsN K c C) (r : RepF K ρ B H fs xs) (e : H a = some (.ins C dx xs)) : ORep K ρ B H a (.ins c fs) := ⟨C, dx, xs, nc, e, r.to.1, r.to.2⟩
/-- an object of the world is written -/
theorem wset_ins {n : Nat} {a C dx : Addr} {c : Str} {xs xs' : List (Str × V)} {fs' : List (Str × DV)} (W : WOk K ρ B hp H) (i : ρ[n]? = some a) (nc : ClsN K c C) (e : H a = some (.ins C dx xs)) (r : RepF K ρ B H fs' xs') : Gr K ρ B H ρ B (upd H a (.ins C dx xs')) ∧ WOk K ρ B (hp.set n (.ins c fs')) (upd H a (.ins C dx xs')) := by
  have g : Gr K ρ B H ρ B (upd H a (.ins C dx xs')) := Gr.wset i e
  exact ⟨g, W.wset (o' := .ins C dx xs') (v := .ins c fs') i e ((r.gs (g.gs W.rb)).orep nc upd_same)⟩
end
/-- the values of an object -/
def onI {α : Type} (c : Str) (x : DV) (k : Nat → List (Str × DV) → M α) : M α := match x with
  | .ref n => do
    match ← getW n with
    | .ins c' fs => do guardM (decide (c' = c)); k n fs
    | _ => failure
  | _ => failure
theorem onI_some {α : Type} {c : Str} {x : DV} {d : α} {k : Nat → List (Str × DV) → M α} {hp hp' : Hs} (h : onI c x k hp = some (d, hp')) : ∃ n fs, x = .ref n ∧ hp[n]? = some (.ins c fs) ∧ k n fs hp = some (d, hp') := by
  cases x with
  | ref n =>
    obtain ⟨o, hp1, e1, e2⟩ := bind_some (show (getW n >>= fun o => (match o with | .ins c' fs => do guardM (decide (c' = c)); k n fs | _ => failure : M α)) hp = some (d, hp') from h)
    obtain ⟨e3, rfl⟩ := getW_some e1
    cases o with
    | ins c' fs =>
      obtain ⟨_, hp2, e4, e5⟩ := bind_some e2
      obtain ⟨hl, rfl⟩ := guardM_some e4
      obtain rfl := of_decide_eq_true hl
      exact ⟨n, fs, rfl, e3, e5⟩
    | lst _ => cases e2
    | dic _ => cases e2
  | non => cases h
  | bl _ => cases h
  | int _ => cases h
  | str _ => cases h
  | tup _ => cases h
  | lst _ => cases h
def getF (c f : Str) (x : DV) : M DV := onI c x fun _ fs => optM (fs.lookup f)
def setF (c f : Str) (x d : DV) : M Unit := onI c x fun n fs => do guardM (decide (fs.length < 1000)); setW n (.ins c (putFD f d fs))
def eFld (c f : Str) (g : DEx) : DEx := fun env => do let x ← g env; getF c f x
def sFldD (c f : Str) (fo fv : DEx) : DSx := fun env => do let y ← fv env; let x ← fo env; setF c f x y; pure (.nx, env)
def sFldA (c f : Str) (op : DV → DV → M DV) (fo fv : DEx) : DSx := fun env => do let x ← fo env; let v ← getF c f x; let y ← fv env; let z ← op v y; setF c f x z; pure (.nx, env)
def addI : DV → DV → M DV
  | .int i, .int j => pure (.int (i + j))
  | _, _ => failure
def subI : DV → DV → M DV
  | .int i, .int j => pure (.int (i - j))
  | _, _ => failure
def eMeth (c m : Str) (n : Nat) (F : List DV → M DV) (fo : DEx) (fa : DAx) : DEx := fun env => do
  let x ← fo env
  onI c x fun _ fs => guardM (fs.lookup m).isNone
  let ds ← fa env
  guardM (decide (ds.length + 1 = n))
  F (x :: ds)
def eMake (c : Str) (n : Nat) (F : List DV → M DV) (fa : DAx) : DEx := fun env => do
  let ds ← fa env
  guardM (decide (ds.length + 1 = n))
  let x ← allocW (.ins c [])
  let r ← F (x :: ds)
  match r with
  | .non => pure x
  | _ => failure
section
variable {X : Cx} {o e value : Expr} {c f m : Str} {pos pos' tpos apos : Pos} {fo fv : DEx}
theorem getF_rep {K : PySem.W.Frag} {ρ : List Addr} {B : Addr → Prop} {H : Hp} {hp hp' : Hs} {x d : DV} {v : V} (W : WOk K ρ B hp H) (r : RepV K ρ B H x v) (h : getF c f x hp = some (d, hp')) : hp = hp' ∧ ∃ a C dx xs u, v = .ref a ∧ ClsN K c C ∧ H a = some (.ins C dx xs) ∧ xs.lookup f = some u ∧ RepV K ρ B H d u := by
  obtain ⟨n, fs, rfl, e1, e2⟩ := onI_some h
  obtain ⟨hl, rfl⟩ := optM_some e2
  obtain ⟨a, rfl, i, ro⟩ := RepV.refW W r e1
  obtain ⟨C, dx, xs, nc, e, rf⟩ := ro.ins
  rcases rf.look f with ⟨z, _⟩ | ⟨d', u, z, zu, ru⟩
  · rw [hl] at z; cases z
  · rw [hl] at z; cases z
    exact ⟨rfl, a, C, dx, xs, u, rfl, nc, e, zu, ru⟩
theorem setF_rep {K : PySem.W.Frag} {ρ : List Addr} {B : Addr → Prop} {H : Hp} {hp hp' : Hs} {x d : DV} {v y : V} {z : Unit} (W : WOk K ρ B hp H) (r : RepV K ρ B H x v) (rd : RepV K ρ B H d y) (h : setF c f x d hp = some (z, hp')) : ∃ a C dx xs, v = .ref a ∧ ClsN K c C ∧ H a = some (.ins C dx xs) ∧ xs.length < 1000 ∧ Gr K ρ B H ρ B (upd H a (.ins C dx (putF f y xs))) ∧ WOk K ρ B hp' (upd H a (.ins C dx (putF f y xs))) := by
  obtain ⟨n, fs, rfl, e1, e2⟩ := onI_some h
  obtain ⟨_, hp1, e3, e4⟩ := bind_some e2
  obtain ⟨hl, rfl⟩ := guardM_some e3
  cases e4
  obtain ⟨a, rfl, i, ro⟩ := RepV.refW W r e1
  obtain ⟨C, dx, xs, nc, e, rf⟩ := ro.ins
  obtain ⟨g, W'⟩ := wset_ins W i nc e (rf.put f rd)
  exact ⟨a, C, dx, xs, rfl, nc, e, by rw [← rf.len]; exact of_decide_eq_true hl, g, W'⟩
theorem de_fld (hk : FldK X.K c f) (ho : DE X o fo) (hb : attributeBase o f X.env (eval o X.env) = eval o X.env := by rfl) : DE X (.Attribute o f pos) (eFld c f fo) :=
  L2.PE.imp (pe_fld ho hb) fun σ H Q ⟨Z, env, ρ, B, hp, d, hp', S, e, k⟩ => by
    obtain ⟨x, hp1, e1, e2⟩ := bind_some e
    refine tD.run S e1 fun v ρ1 B1 H1 g1 S1 r1 => ?_
    obtain ⟨rfl, a, C, dx, xs, u, rfl, nc, ea, hl, ru⟩ := getF_rep S1.wo r1 e2
    obtain ⟨C', nc', cl, na⟩ := hk.ex
    obtain rfl := nc.uniq nc'
    exact ⟨a, C, dx, xs, u, rfl, ea, cl, na, hl, k u ρ1 B1 H1 g1 S1.wo ru⟩
theorem ds_fld (hk : FldK X.K c f) (ho : DE X o fo) (hv : DE X value fv) (hs : swapsWith value (some (.Attribute o f pos')) pos.line X.env = pure false := by rfl) : DS X (.Assign [.Attribute o f pos'] value pos) (sFldD c f fo fv) :=
  L2.PS.imp (ps_fld ho hv hs) fun D σ H ⟨Z, env, ρ, B, hp, fl, env', hp', S, e, k⟩ => by
    obtain ⟨y, hp1, e1, e⟩ := bind_some e
    obtain ⟨x, hp2, e2, e⟩ := bind_some e
    obtain ⟨z, hp3, e3, e⟩ := bind_some e
    obtain ⟨q, rfl⟩ := pure_some e
    cases q
    refine tD.run S e1 fun u ρ1 B1 H1 g1 S1 r1 => tD.run S1 e2 fun v ρ2 B2 H2 g2 S2 r2 => ?_
    obtain ⟨a, C, dx, xs, rfl, nc, ea, hl, g, W⟩ := setF_rep S2.wo r2 (RepV.grow S1.wo.rb g2 _ _ r1) e3
    obtain ⟨C', nc', cl, na⟩ := hk.ex
    obtain rfl := nc.uniq nc'
    exact ⟨a, C, dx, xs, rfl, ea, cl, na, hl, k σ ρ2 B2 _ ((g1.trans (g2.trans g)).gs S.wo.rb) (S2.grow g W)⟩
theorem ds_fldadd (hk : FldK X.K c f) (ho : DE X o fo) (hv : DE X value fv) : DS X (.AugAssign (.Attribute o f tpos) .Add value pos) (sFldA c f addI fo fv) :=
  L2.PS.imp (ps_fldaug ho hv in_add) fun D σ H ⟨Z, env, ρ, B, hp, fl, env', hp', S, e, k⟩ => by
    obtain ⟨x, hp1, e1, e⟩ := bind_some e
    obtain ⟨v, hp2, e2, e⟩ := bind_some e
    obtain ⟨y, hp3, e3, e⟩ := bind_some e
    obtain ⟨z, hp4, e4, e⟩ := bind_some e
    obtain ⟨_, hp5, e5, e⟩ := bind_some e
    obtain ⟨q, rfl⟩ := pure_some e
    cases q
    refine tD.run S e1 fun vx ρ1 B1 H1 g1 S1 r1 => ?_
    obtain ⟨rfl, a, C, dx, xs, u, rfl, nc, ea, hl, ru⟩ := getF_rep S1.wo r1 e2
    obtain ⟨C', nc', cl, na⟩ := hk.ex
    obtain rfl := nc.uniq nc'
    refine ⟨a, C, dx, xs, u, rfl, ea, cl, na, hl, tD.run S1 e3 fun w ρ2 B2 H2 g2 S2 r2 => ?_⟩
    have ru2 := RepV.grow S1.wo.rb g2 _ _ ru
    have r12 := RepV.grow S1.wo.rb g2 _ _ r1
    unfold addI at e4
    split at e4
    · obtain ⟨rfl, rfl⟩ := pure_some e4
      refine ⟨_, _, ru2.intI, r2.intI, ?_⟩
      obtain ⟨a', C2, dx', xs', q1, nc2, ea', hl', g, W⟩ := setF_rep S2.wo r12 rep_int e5
      cases q1
      obtain rfl := nc2.uniq nc
      exact ⟨dx', xs', ea', hl', k σ ρ2 B2 _ ((g1.trans (g2.trans g)).gs S.wo.rb) (S2.grow g W)⟩
    · cases e4
/-- o.m(..) -/
theorem meth_imp {C : Addr} {n : Nat} {F : List DV → M DV} {fa : DAx} {σ : St} {H : Hp} {Q : VK} (nc : ClsN X.K c C) (h : tD X.K (eMeth c m n F fo fa) σ H Q) : tMeth C m (spD X.K n F) [] E0 (tD X.K fo) (tDA X.K fa) σ H Q := by
  obtain ⟨Z, env, ρ, B, hp, d, hp', S, e, k⟩ := h
  obtain ⟨x, hp1, e1, e⟩ := bind_some e
  obtain ⟨_, hp2, e2, e⟩ := bind_some e
  obtain ⟨ds, hp3, e3, e⟩ := bind_some e
  obtain ⟨_, hp4, e4, ef⟩ := bind_some e
  obtain ⟨hl, rfl⟩ := guardM_some e4
  refine tD.run S e1 fun v ρ1 B1 H1 g1 S1 r1 => ?_
  obtain ⟨i, fs, rfl, w1, w2⟩ := onI_some e2
  obtain ⟨hn, rfl⟩ := guardM_some w2
  obtain ⟨a, rfl, _, ro⟩ := RepV.refW S1.wo r1 w1
  obtain ⟨C', dx, xs, nc', ea, rf⟩ := ro.ins
  obtain rfl := nc'.uniq nc
  have hx : xs.lookup m = none := by
    rcases rf.look m with ⟨_, z⟩ | ⟨_, _, z, _, _⟩
    · exact z
    · rw [z] at hn; cases hn
  refine ⟨a, dx, xs, rfl, ea, hx, tDA.run S1 e3 fun vs ρ2 B2 H2 g2 S2 r2 => ?_⟩
  refine ⟨?_, ρ2, B2, hp3, _, d, hp', S2.wo, ?_, ef, k.after (g1.trans g2)⟩
  · rw [List.append_nil, List.length_cons, ← r2.length]; exact of_decide_eq_true hl
  · rw [List.append_nil]; exact RepL.cons (RepV.grow S1.wo.rb g2 _ _ r1) r2
theorem de_meth {k j n : Nat} {F : List DV → M DV} {es : List Expr} {fa : DAx} {pl : Sem Bool} (h : HasM X.prog X.w X.K X.mg X.base c m j n F) (hr : Room k X.A) (hj : j ≤ k) (hx : Passes CX0 X E0) (ho : DE X o fo) (ha : DA X (e :: es) fa)
    (hst : starEach (e :: es) X.env = (false, eval e X.env) :: starEach es X.env := by rfl) (hpl : (backTo pos (starEach es X.env)).any (·.1) = false := by rfl)
    (ht : eval (.Call (.Attribute o m apos) (e :: es) [] pos) X.env = (do
      let ov ← eval o X.env
      standAt apos.atName
      let (f, first) ← holding [ov] (getMethod ov m pl)
      callWith pos f first (backTo pos (starEach (e :: es) X.env)) (backToKw pos (keywordEach [] X.env))) := by rfl) : DE X (.Call (.Attribute o m apos) (e :: es) [] pos) (eMeth c m n F fo fa) := by
  obtain ⟨C, g, fd, ps, nc, cl, hm, F', hb⟩ := h.ex
  exact L2.PE.imp (pe_meth (pl := pl) ho cl hm F' (hr.mono hj) hb .nil hx ha hst hpl ht) fun σ H Q q => meth_imp nc q
theorem de_meth0 {k j n : Nat} {F : List DV → M DV} {pl : Sem Bool} (h : HasM X.prog X.w X.K X.mg X.base c m j n F) (hr : Room k X.A) (hj : j ≤ k) (hx : Passes CX0 X E0) (ho : DE X o fo)
    (ht : eval (.Call (.Attribute o m apos) [] [] pos) X.env = (do
      let ov ← eval o X.env
      standAt apos.atName
      let (f, first) ← holding [ov] (getMethod ov m pl)
      callWith pos f first (backTo pos (starEach [] X.env)) (backToKw pos (keywordEach [] X.env))) := by rfl) : DE X (.Call (.Attribute o m apos) [] [] pos) (eMeth c m n F fo aNil) := by
  obtain ⟨C, g, fd, ps, nc, cl, hm, F', hb⟩ := h.ex
  refine L2.PE.imp (pe_meth0 (pl := pl) ho cl hm F' (hr.mono hj) hb .nil hx ht) fun σ H Q q => ?_
  obtain ⟨Z, env, ρ, B, hp, d, hp', S, e, k⟩ := q
  obtain ⟨x, hp1, e1, e⟩ := bind_some e
  obtain ⟨_, hp2, e2, e⟩ := bind_some e
  obtain ⟨ds, hp3, e3, e⟩ := bind_some e
  obtain ⟨_, hp4, e4, ef⟩ := bind_some e
  obtain ⟨hl, rfl⟩ := guardM_some e4
  obtain ⟨rfl, rfl⟩ := pure_some e3
  refine tD.run S e1 fun v ρ1 B1 H1 g1 S1 r1 => ?_
  obtain ⟨i, fs, rfl, w1, w2⟩ := onI_some e2
  obtain ⟨hn, rfl⟩ := guardM_some w2
  obtain ⟨a, rfl, _, ro⟩ := RepV.refW S1.wo r1 w1
  obtain ⟨C', dx, xs, nc', ea, rf⟩ := ro.ins
  obtain rfl := nc'.uniq nc
  have hx : xs.lookup m = none := by
    rcases rf.look m with ⟨_, z⟩ | ⟨_, _, z, _, _⟩
    · exact z
    · rw [z] at hn; cases hn
  exact ⟨a, dx, xs, rfl, ea, hx, of_decide_eq_true hl, ρ1, B1, hp1, _, d, hp', S1.wo, RepL.cons r1 RepL.nil, ef, k.after g1⟩
theorem run_makeK {k : Nat} {C g : Addr} {fd : FuncData} {ps : List Str} {sp : Sp} {pins : List (Addr × Obj)} {σ : St} {H : Hp} {s : Shared} {Q : VK} {us : List Value} {vs : List V} (M : Mk X.K C g) (F : FnOk X.prog X.w X.K X.mg X.base CX0 k g fd ps sp) (hr : Room (k + 1) X.A) (hb : Binds X.K fd ps [])
    (hx : Passes CX0 X E0) (I : Inv X pins σ H s) (r : Vals vs us)
    (h : ∀ x dx, H x = none → H dx = none → dx ≠ x → X.K.lookup x = none → sp (.ref x :: vs) (upd (upd H dx (.own x)) x (.ins C dx [])) (fun v H2 => v = .non ∧ Q (.ref x) H2) E0) :
    wpAny (model X.prog X.w) X.A (call (.ref C) us) (EP X pins σ Q) X.xe s := by
  have kf : X.K.lookup (s.heap.objs.size + 1) = none := by
    cases q : X.K.lookup (s.heap.objs.size + 1) with
    | none => rfl
    | some o => exact absurd (Heap.lt_size (I.kIn _ _ q)) (Nat.not_lt.mpr (Nat.le_succ _))
  have hq := h _ _ (I.hok.fresh (Nat.le_succ _)) (I.hok.fresh (Nat.le_refl _)) (Nat.ne_of_lt (Nat.lt_succ_self _)) kf
  have J := Inv.made (C := C) I
  have rr : Vals (V.ref (s.heap.objs.size + 1) :: vs) (Value.ref (s.heap.objs.size + 1) :: us) := .cons rfl r
  have ll : ((Value.ref (s.heap.objs.size + 1) :: us) ++ []).length = ps.length := by
    rw [List.append_nil, ← rr.length]; exact F.len _ _ _ _ hq
  have bb := hb _ (Value.ref (s.heap.objs.size + 1) :: us) J.kIn ll
  rw [List.append_nil] at bb
  refine wpAny_call (make_map (f := g) I.kIn M.makes M.init (beq_iff_eq.mp M.fn) (codeAny_mono (F.run _ X.stack _ _ ⟨Value.ref (s.heap.objs.size + 1) :: us, []⟩ _ _ _ E0 (hr.make C us []) (J.env0.make C us []) bb rr hq) fun q s' z => ?_))
  cases q with
  | error e => exact hx pins σ _ _ e s' J z
  | ok fl =>
    cases fl with
    | ret u =>
      obtain ⟨v, H', I3, rv, ev, q3⟩ := J.after z
      subst ev
      exact ⟨rv, ⟨V.ref (s.heap.objs.size + 1), H', I3, rfl, q3⟩⟩
    | next => exact z.elim
    | brk => exact z.elim
    | cont => exact z.elim
theorem make_imp {C : Addr} {n : Nat} {F : List DV → M DV} {vs : List V} {K : PySem.W.Frag} {ρ : List Addr} {B : Addr → Prop} {hp hp' : Hs} {H : Hp} {ds : List DV} {d : DV} {Q : VK} (nc : ClsN K c C) (hl : ds.length + 1 = n) (W : WOk K ρ B hp H) (r : RepL K ρ B H ds vs)
    (e : (do let x ← allocW (.ins c []); let r ← F (x :: ds); match r with | .non => pure x | _ => failure : M DV) hp = some (d, hp')) (k : Fol K ρ B H d hp' Q) :
    ∀ x dx, H x = none → H dx = none → dx ≠ x → K.lookup x = none → spD K n F (.ref x :: vs) (upd (upd H dx (.own x)) x (.ins C dx [])) (fun v H2 => v = .non ∧ Q (.ref x) H2) E0 := by
  intro x dx hx hdx ne kf
  have e1 : F (.ref hp.length :: ds) (hp ++ [.ins c []]) = some (.non, hp') ∧ d = .ref hp.length := by
    obtain ⟨y, hp1, a1, a2⟩ := bind_some e
    cases a1
    obtain ⟨y, hp2, a3, a4⟩ := bind_some a2
    cases y with
    | non => obtain ⟨rfl, rfl⟩ := pure_some a4; exact ⟨a3, rfl⟩
    | bl _ => cases a4
    | int _ => cases a4
    | str _ => cases a4
    | tup _ => cases a4
    | lst _ => cases a4
    | ref _ => cases a4
  obtain ⟨e1, rfl⟩ := e1
  have hx' : upd H dx (.own x) x = none := by rw [upd_ne (Ne.symm ne)]; exact hx
  have g0 : Gr K ρ B H ρ B (upd H dx (.own x)) := Gr.laid hdx
  have g1 : Gr K ρ B (upd H dx (.own x)) (ρ ++ [x]) (banP B x) (upd (upd H dx (.own x)) x (.ins C dx [])) := Gr.wnew hx' kf
  have W1 : WOk K (ρ ++ [x]) (banP B x) (hp ++ [.ins c []]) (upd (upd H dx (.own x)) x (.ins C dx [])) := (W.laid hdx).wnew hx' kf (RepF.orep nc .nil upd_same)
  have rx : RepV K (ρ ++ [x]) (banP B x) (upd (upd H dx (.own x)) x (.ins C dx [])) (.ref hp.length) (.ref x) := by
    unfold RepV
    exact ⟨x, rfl, by rw [← W.len]; simp⟩
  refine ⟨?_, ρ ++ [x], banP B x, hp ++ [.ins c []], .ref hp.length :: ds, .non, hp', W1, RepL.cons rx (RepL.grow W.rb (g0.trans g1) _ _ r), e1, fun v ρ' B' H' g' W' r' => ?_⟩
  · rw [List.length_cons, ← r.length]; exact hl
  · exact ⟨r'.nonI, k _ ρ' B' H' ((g0.trans g1).trans g') W' (RepV.grow W1.rb g' _ _ rx)⟩
theorem de_make {k j n : Nat} {F : List DV → M DV} {es : List Expr} {fa : DAx} {p : Pos} (h : HasI X.prog X.w X.K X.mg X.base c j n F) (hr : Room k X.A) (hj : j + 1 ≤ k) (hx : Passes CX0 X E0) (ha : DA X (e :: es) fa) (hg : Gl X c := by rfl)
    (hdb : (c == ("__debug__" : Str)) = false := by decide) (he : starEach (e :: es) X.env = (false, eval e X.env) :: starEach es X.env := by rfl) (hpl : (backTo pos (starEach es X.env)).any (·.1) = false := by rfl) : DE X (.Call (.Name c p) (e :: es) [] pos) (eMake c n F fa) := by
  obtain ⟨C, g, fd, ps, nc, hm, M, F', hb⟩ := h.ex
  intro pins s σ H Q I q
  obtain ⟨Z, env, ρ, B, hp, d, hp', S, e, k⟩ := q
  obtain ⟨ds, hp1, e1, e2⟩ := bind_some e
  obtain ⟨_, hp2, e3, e4⟩ := bind_some e2
  obtain ⟨hl, rfl⟩ := guardM_some e3
  refine wpAny_Call_Name_kw (ld_glob I hg hm ?_ hdb)
  refine PySem.W.callWith_K (h₀ := X.base) I.ok.mod.kin M.kp (thn (ha pos pins s σ H _ I (tDA.run S e1 fun vs ρ1 B1 H1 g1 S1 r1 => make_imp (Q := Q) nc (of_decide_eq_true hl) S1.wo r1 e4 (k.after g1))) fun us s1 ⟨vs, H1, I1, r, q⟩ => ⟨I1.kIn, ?_⟩) he hpl
  exact run_makeK M F' (hr.mono hj) hb hx I1 r q
end
/-- a method's body -/
theorem fn_okM {P : Program} {w : World} {K : PySem.W.Frag} {mg : Str → Option Value} {base : Heap} {x qual : Str} {stm : Stmt} {g : Addr} {fd : FuncData} {N ps : List Str} {k : Nat} {body : DSx} (F : Fun K x qual stm g fd) (Sc : FnScope N ps (defScope stm))
    (h : ∀ (cdv : Value) (A : Around) (outer : List Env) (s : Shared) (H : Hp) (E : XK), Room k (A.deeper (envOfC qual (defScope stm) s.heap.objs.size g cdv)) → DSs (cxOf CX0 P w K mg base N qual (defScope stm) g cdv A outer s H E).nox (defBody stm) body) :
    FnOk P w K mg base CX0 (k + 1) g fd ps (spD K ps.length (runF N.length body)) := by
  refine F.ok Sc (fun vs H Q E h => h.1) (fun cdv A outer s H vs Q E hr sp => ?_)
  obtain ⟨hn, ρ, B, hp, ds, d, hp', W, r, e, k⟩ := sp
  obtain ⟨⟨fl, env'⟩, hp1, e1, e2⟩ := bind_some e
  refine ⟨_, h cdv A outer s H E hr, ⟨ρ, B, H⟩, _, ρ, B, hp, fl, env', hp1, sOk_start W r, e1, fun σ' ρ' B' H' g' S' => ?_⟩
  cases fl with
  | nx => obtain ⟨rfl, rfl⟩ := pure_some e2; exact k .non ρ' B' H' S'.gr S'.wo rep_non
  | rt x => obtain ⟨rfl, rfl⟩ := pure_some e2; exact fun v rv => k v ρ' B' H' S'.gr S'.wo rv
  | bk => cases e2
  | ct => cases e2
theorem meth_has {P : Program} {w : World} {K : PySem.W.Frag} {mg : Str → Option Value} {base : Heap} {c m qual : Str} {stm : Stmt} {C g : Addr} {fd : FuncData} {N ps : List Str} {k : Nat} {body : DSx} (nc : ClsN K c C) (cl : Cls K C) (me : Meth K C m g) (F : Fun K m qual stm g fd) (Sc : FnScope N ps (defScope stm))
    (hb : ∀ (kV doc pm : Value) (an : Option Addr) (cdv ct : Value) (us : List Value), us.length = ps.length → bindArgs (PySem.W.fnOf m qual (defArgs stm) (defBody stm) (defScope stm) .none kV doc pm an cdv ct) ⟨us, []⟩ = pure (ps.zip us))
    (h : ∀ (cdv : Value) (A : Around) (outer : List Env) (s : Shared) (H : Hp) (E : XK), Room k (A.deeper (envOfC qual (defScope stm) s.heap.objs.size g cdv)) → DSs (cxOf CX0 P w K mg base N qual (defScope stm) g cdv A outer s H E).nox (defBody stm) body) :
    HasM P w K mg base c m (k + 1) ps.length (runF N.length body) := ⟨C, g, fd, ps, nc, cl, me, fn_okM F Sc h, F.binds hb⟩
theorem init_has {P : Program} {w : World} {K : PySem.W.Frag} {mg : Str → Option Value} {base : Heap} {c qual : Str} {stm : Stmt} {C g : Addr} {fd : FuncData} {N ps : List Str} {k : Nat} {body : DSx} (nc : ClsN K c C) (hm : mg c = some (.ref C)) (me : Mk K C g) (F : Fun K "__init__" qual stm g fd) (Sc : FnScope N ps (defScope stm))
    (hb : ∀ (kV doc pm : Value) (an : Option Addr) (cdv ct : Value) (us : List Value), us.length = ps.length → bindArgs (PySem.W.fnOf "__init__" qual (defArgs stm) (defBody stm) (defScope stm) .none kV doc pm an cdv ct) ⟨us, []⟩ = pure (ps.zip us))
    (h : ∀ (cdv : Value) (A : Around) (outer : List Env) (s : Shared) (H : Hp) (E : XK), Room k (A.deeper (envOfC qual (defScope stm) s.heap.objs.size g cdv)) → DSs (cxOf CX0 P w K mg base N qual (defScope stm) g cdv A outer s H E).nox (defBody stm) body) :
    HasI P w K mg base c (k + 1) ps.length (runF N.length body) := ⟨C, g, fd, ps, nc, hm, me, fn_okM F Sc h, F.binds hb⟩
section
variable {X : Cx}
/-- code at which the reading stops -/
def sFail : DSx := fun _ => failure
theorem ds_fail {st : Stmt} : DS X st sFail := L2.PS.imp ps_never fun D σ H ⟨Z, env, ρ, B, hp, fl, env', hp', S, e, k⟩ => by cases e
/-- x op= e of ints -/
def sAug (i : Nat) (op : DV → DV → M DV) (fe : DEx) : DSx := fun env => do let v ← eVar i env; let y ← fe env; let z ← op v y; pure (.nx, env.set i (.val z))
end
end D

/-! ## a run worked out by simp, the world any list of which some places are known -/
namespace D
open PySem PySem.Spec PyProof.Rows L2
theorem run_bind {α β : Type} (m : M α) (k : α → M β) (hp : Hs) : (m >>= k) hp = (m hp).bind fun p => k p.1 p.2 := by
  show (StateT.bind m k hp) = _
  unfold StateT.bind
  cases m hp with
  | none => rfl
  | some p => obtain ⟨a, h⟩ := p; rfl
theorem run_map {α β : Type} (f : α → β) (m : M α) (hp : Hs) : (f <$> m) hp = (m hp).map fun p => (f p.1, p.2) := by
  show (StateT.map f m hp) = _
  unfold StateT.map
  cases m hp with
  | none => rfl
  | some p => obtain ⟨a, h⟩ := p; rfl
theorem run_pure {α : Type} (a : α) (hp : Hs) : (pure a : M α) hp = some (a, hp) := rfl
theorem run_fail {α : Type} (hp : Hs) : (failure : M α) hp = none := rfl
theorem run_guard (b : Bool) (hp : Hs) : guardM b hp = if b = true then some ((), hp) else none := by cases b <;> rfl
theorem run_get (n : Nat) (hp : Hs) : getW n hp = (hp[n]?).map fun o => (o, hp) := by unfold getW; cases hp[n]? <;> rfl
theorem run_set (n : Nat) (o : OV) (hp : Hs) : setW n o hp = some ((), hp.set n o) := rfl
theorem run_new (o : OV) (hp : Hs) : allocW o hp = some (.ref hp.length, hp ++ [o]) := rfl
theorem getSet_self (hp : Hs) (k : Nat) (X : OV) (h : (hp[k]?).isSome = true) : (hp.set k X)[k]? = some X := by
  have : k < hp.length := by
    rcases Nat.lt_or_ge k hp.length with q | q
    · exact q
    · rw [List.getElem?_eq_none q] at h; cases h
  rw [List.getElem?_set_self this]
theorem getSet_ne (hp : Hs) (k n : Nat) (X : OV) (h : k ≠ n) : (hp.set k X)[n]? = hp[n]? := List.getElem?_set_ne h
theorem getApp_new (hp : Hs) (X : OV) : (hp ++ [X])[hp.length]? = some X := by simp
end D

/-! ## a module's constant that is a tuple -/
namespace D
open PySem PySem.Spec PyProof.Rows L2
mutual
def KRep (K : PySem.W.Frag) : DV → V → Prop
  | .non, v => v = .non
  | .bl b, v => v = .bl b
  | .int i, v => v = .int i
  | .str x, v => v = .str x
  | .tup ds, v => ∃ (a : Addr) (o : Obj) (its : Array Value) (n : Nat) (xs : List V), v = .ref a ∧ K.lookup a = some o ∧ o.cls = .type "tuple" ∧ o.data = .seq its n ∧ its.size ≤ sizeLine ∧ Vals xs its.toList ∧ KRepL K ds xs
  | _, _ => False
def KRepL (K : PySem.W.Frag) : List DV → List V → Prop
  | [], xs => xs = []
  | d :: ds, xs => ∃ x r, xs = x :: r ∧ KRep K d x ∧ KRepL K ds r
end
mutual
theorem KRep.rep {K : PySem.W.Frag} {ρ : List Addr} {B : Addr → Prop} {H : Hp} (hb : ∀ a, B a → K.lookup a = none) : ∀ (d : DV) (v : V), KRep K d v → RepV K ρ B H d v
  | .non, _, h => by unfold KRep at h; unfold RepV; exact h
  | .bl _, _, h => by unfold KRep at h; unfold RepV; exact h
  | .int _, _, h => by unfold KRep at h; unfold RepV; exact h
  | .str _, _, h => by unfold KRep at h; unfold RepV; exact h
  | .lst _, _, h => by unfold KRep at h; exact h.elim
  | .ref _, _, h => by unfold KRep at h; exact h.elim
  | .tup ds, _, h => by
    unfold KRep at h; unfold RepV
    obtain ⟨a, o, its, n, xs, rfl, h1, h2, h3, h4, h5, h6⟩ := h
    exact ⟨a, xs, rfl, fun z => (by rw [hb a z] at h1; cases h1), .inr ⟨o, its, n, h1, h2, h3, h4, h5⟩, KRepL.rep hb ds xs h6⟩
theorem KRepL.rep {K : PySem.W.Frag} {ρ : List Addr} {B : Addr → Prop} {H : Hp} (hb : ∀ a, B a → K.lookup a = none) : ∀ (ds : List DV) (xs : List V), KRepL K ds xs → RepL K ρ B H ds xs
  | [], _, h => by unfold KRepL at h; unfold RepL; exact h
  | d :: ds, _, h => by
    unfold KRepL at h; unfold RepL
    obtain ⟨x, r, e, h1, h2⟩ := h
    exact ⟨x, r, e, KRep.rep hb d x h1, KRepL.rep hb ds r h2⟩
end
theorem kr_tup {K : PySem.W.Frag} {ds : List DV} {a : Addr} {od : Option Addr} {its : Array Value} {n : Nat} {sl : Array (Option Value)} {xs : List V} (h : K.lookup a = some ⟨.type "tuple", od, .seq its n, sl⟩) (hs : its.size ≤ sizeLine) (hv : Vals xs its.toList) (hl : KRepL K ds xs) : KRep K (.tup ds) (.ref a) := by
  unfold KRep; exact ⟨a, _, its, n, xs, rfl, h, rfl, rfl, hs, hv, hl⟩
theorem kr_non {K : PySem.W.Frag} : KRep K .non .non := by unfold KRep; rfl
theorem kr_int {K : PySem.W.Frag} {i : Int} : KRep K (.int i) (.int i) := by unfold KRep; rfl
theorem krl_nil {K : PySem.W.Frag} : KRepL K [] [] := by unfold KRepL; rfl
theorem krl_cons {K : PySem.W.Frag} {d : DV} {ds : List DV} {x : V} {r : List V} (h : KRep K d x) (h' : KRepL K ds r) : KRepL K (d :: ds) (x :: r) := by unfold KRepL; exact ⟨x, r, rfl, h, h'⟩
theorem de_gtup {X : Cx} {x : Str} {ds : List DV} {a : Addr} {pos : Pos} (hg : Gl X x) (hm : X.mg x = some (.ref a)) (hk : KRep X.K (.tup ds) (.ref a)) (hd : (x == ("__debug__" : Str)) = false := by decide) : DE X (.Name x pos) (eC (.tup ds)) :=
  (pe_glob (v := .ref a) hg hm rfl hd).imp fun σ H Q ⟨Z, env, ρ, B, hp, d', hp', S, e, k⟩ => by
    obtain ⟨rfl, rfl⟩ := pure_some e
    exact k _ ρ B H Gr.refl S.wo (KRep.rep S.wo.bk _ _ hk)
end D

/-! ## loops, a turn at a time -/
namespace D
open PySem PySem.Spec PyProof.Rows L2
theorem forL_nx {b : DV → DSx} {d : DV} {ds : List DV} {env env1 : En} {hp hp1 : Hs} (h : b d env hp = some ((.nx, env1), hp1)) : forL b (d :: ds) env hp = forL b ds env1 hp1 := by
  rw [forL, bind_at h]
theorem forL_end {b : DV → DSx} {env : En} {hp : Hs} : forL b [] env hp = some ((.nx, env), hp) := rfl
theorem getMid (hp : Hs) (x : OV) (t : Hs) : (hp ++ x :: t)[hp.length]? = some x := by simp
theorem setMid (hp : Hs) (x y : OV) (t : Hs) : (hp ++ x :: t).set hp.length y = hp ++ y :: t := by
  rw [List.set_append_right _ _ (Nat.le_refl _)]; simp
theorem setSame {hp : Hs} {n : Nat} {x : OV} (h : hp[n]? = some x) : hp.set n x = hp := by
  obtain ⟨hl, rfl⟩ := List.getElem?_eq_some_iff.mp h
  exact List.set_getElem_self hl
theorem rng_get {n i : Nat} {d : DV} (h : (rangeL 0 n)[i]? = some d) : i < n ∧ d = .int (i : Int) := by
  obtain ⟨h1, h2⟩ := rangeL_get h
  exact ⟨h1, by rw [h2]; simp⟩
theorem small_nat {n : Nat} (h : n ≤ 1000000) : smallI (n : Int) = true := small_ok (by omega) (by omega)
theorem nat_of {i : Int} (h : 0 ≤ i) : ∃ j : Nat, i = j := ⟨i.toNat, by omega⟩
theorem ixN_nat {n i : Nat} (h : i < n) : ixN n (i : Int) = some i := by unfold ixN; rw [if_pos (by omega), if_pos (by omega)]; simp
theorem isD_non : isD .non .non = pure (.bl true) := rfl
/-- a walk over data by the run -/
theorem sForX_data {f : DXx} {g : DGx} {body : DSx} {env : En} {hp hp1 : Hs} {ds : List DV} {r : (Fl × En) × Hs} (h : f env hp = some (nxD ds, hp1)) (h' : forX (nxD ds) (fun d env => do let env' ← g d env; body env') 100000 0 env hp1 = some r) : sForX f g body env hp = some r := by
  unfold sForX
  rw [bind_at h]; exact h'
theorem sFor_data {f : DIx} {g : DGx} {body : DSx} {env : En} {hp hp1 : Hs} {ds : List DV} {r : (Fl × En) × Hs} (h : f env hp = some (ds, hp1)) (h' : forL (fun d env => do let env' ← g d env; body env') ds env hp1 = some r) : sFor f g body env hp = some r := by
  unfold sFor
  rw [bind_at h]; exact h'
theorem rng1_at {m : Nat} (h : m ≤ 1000000) (hp : Hs) : rng1 [.int (m : Int)] hp = some (rangeL 0 m, hp) := by
  have e : rng1 [.int (m : Int)] = pure (rangeL 0 (m : Int).toNat) := by
    simp only [rng1, small_nat h, guardM, if_true, pure_bind]
  rw [e, Int.toNat_natCast]; rfl
theorem iRg1_at {f : DAx} {env : En} {hp hp1 : Hs} {m : Nat} (h : f env hp = some ([.int (m : Int)], hp1)) (hm : m ≤ 1000000) : iRg1 f env hp = some (rangeL 0 m, hp1) := by
  unfold iRg1
  rw [bind_at h]; exact rng1_at hm hp1
end D

namespace K11
open PySem PySem.Spec PyProof.Rows L2 D
def top (i : Nat) : Stmt := PySem.Challenge.pw_sidelink_k11_pages_kept.main.body.getD i (.Pass ⟨0, 0, 0, 0⟩)
abbrev s_Shelf_check_number : Stmt := inClass (top 6) 12
def b_Shelf_check_number : DSx := sIf (eNot (eB (eChain leD ltD (eC (.int 0)) (eVar 1) (eBlt lenG (aCons (eFld "Shelf" "kept" (eVar 0)) (aNil)))))) (sFail) (sNil)
def F_Shelf_check_number : List DV → M DV := runF 2 b_Shelf_check_number
abbrev s_Shelf_read : Stmt := inClass (top 6) 1
def b_Shelf_read : DSx := sSeq (sDrop (eMeth "Shelf" "check_number" 2 F_Shelf_check_number (eVar 0) (aCons (eVar 1) (aNil)))) (sSeq (sFldA "Shelf" "read_count" addI (eVar 0) (eC (.int 1))) (sRet (eBin ixG (eFld "Shelf" "kept" (eVar 0)) (eVar 1))))
def F_Shelf_read : List DV → M DV := runF 2 b_Shelf_read
abbrev s_law_same : Stmt := top 12
def l_law_same_1 (self : List DV → M DV) : DSx := sIf (eNot (eB (eCall 2 self (aCons (eVar 2) (aCons (eVar 3) (aNil)))))) (sRet (eC (.bl false))) (sNil)
def L_law_same_1 (self : List DV → M DV) : DSx := sFor (iZip (eVar 0) (eVar 1)) (gT [2, 3]) (l_law_same_1 self)
def b_law_same (self : List DV → M DV) : DSx := sSeq (sIf (eB (eIsi "tuple" (eVar 1))) (sSeq (sIf (eOr (eNot (eB (eIsi "tuple" (eVar 0)))) (eB (eBin neD (eBlt lenF (aCons (eVar 0) (aNil))) (eBlt lenF (aCons (eVar 1) (aNil)))))) (sRet (eC (.bl false))) (sNil)) (sSeq (L_law_same_1 self) (sRet (eC (.bl true))))) (sNil)) (sSeq (sIf (eB (eBin isD (eVar 1) (eC .non))) (sRet (eBin isD (eVar 0) (eC .non))) (sNil)) (sRet (eAndV (eIsi "int" (eVar 0)) (eAndV (eNotV (eIsi "bool" (eVar 0))) (eBin eqD (eVar 0) (eVar 1))))))
def F_law_same : Nat → List DV → M DV
  | 0 => fun _ => failure
  | n + 1 => runF 4 (b_law_same (F_law_same n))
abbrev s_law_stays : Stmt := top 15
def l_law_stays_1 : DSx := sIf (eNot (eB (eCall 2 (F_law_same 6) (aCons (eMeth "Shelf" "read" 2 F_Shelf_read (eVar 0) (aCons (eVar 2) (aNil))) (aCons (eBin ixG (eBin ixG (eVar 1) (eC (.str "pages"))) (eVar 2)) (aNil)))))) (sRet (eC (.bl false))) (sNil)
def L_law_stays_1 : DSx := sFor (iRg1 (aCons (eBlt lenG (aCons (eBin ixG (eVar 1) (eC (.str "pages"))) (aNil))) (aNil))) (gN 2) (l_law_stays_1)
def b_law_stays : DSx := sSeq (L_law_stays_1) (sRet (eC (.bl true)))
def F_law_stays : List DV → M DV := runF 3 b_law_stays
abbrev s_Shelf_writings : Stmt := inClass (top 6) 10
def b_Shelf_writings : DSx := sRet (eFld "Shelf" "write_count" (eVar 0))
def F_Shelf_writings : List DV → M DV := runF 1 b_Shelf_writings
abbrev s_Shelf_readings : Stmt := inClass (top 6) 9
def b_Shelf_readings : DSx := sRet (eFld "Shelf" "read_count" (eVar 0))
def F_Shelf_readings : List DV → M DV := runF 1 b_Shelf_readings
abbrev s_Shelf_root : Stmt := inClass (top 6) 4
def b_Shelf_root : DSx := sRet (eFld "Shelf" "top" (eVar 0))
def F_Shelf_root : List DV → M DV := runF 1 b_Shelf_root
abbrev s_Shelf_room : Stmt := inClass (top 6) 7
def b_Shelf_room : DSx := sRet (eFld "Shelf" "page_room" (eVar 0))
def F_Shelf_room : List DV → M DV := runF 1 b_Shelf_room
abbrev s_Shelf_pages : Stmt := inClass (top 6) 8
def b_Shelf_pages : DSx := sRet (eBlt lenG (aCons (eFld "Shelf" "kept" (eVar 0)) (aNil)))
def F_Shelf_pages : List DV → M DV := runF 1 b_Shelf_pages
abbrev s_law_counted : Stmt := top 14
def b_law_counted : DSx := sSeq (sSet 2 (eTup (aCons (eMeth "Shelf" "pages" 1 F_Shelf_pages (eVar 0) aNil) (aCons (eMeth "Shelf" "room" 1 F_Shelf_room (eVar 0) aNil) (aCons (eMeth "Shelf" "root" 1 F_Shelf_root (eVar 0) aNil) (aCons (eMeth "Shelf" "readings" 1 F_Shelf_readings (eVar 0) aNil) (aCons (eMeth "Shelf" "writings" 1 F_Shelf_writings (eVar 0) aNil) (aNil)))))))) (sRet (eCall 2 (F_law_same 6) (aCons (eVar 2) (aCons (eTup (aCons (eBlt lenG (aCons (eBin ixG (eVar 1) (eC (.str "pages"))) (aNil))) (aCons (eBin ixG (eVar 1) (eC (.str "room"))) (aCons (eBin ixG (eVar 1) (eC (.str "root"))) (aCons (eBin ixG (eVar 1) (eC (.str "readings"))) (aCons (eBin ixG (eVar 1) (eC (.str "writings"))) (aNil))))))) (aNil)))))
def F_law_counted : List DV → M DV := runF 3 b_law_counted
abbrev s_Shelf_write : Stmt := inClass (top 6) 2
def b_Shelf_write : DSx := sSeq (sDrop (eMeth "Shelf" "check_number" 2 F_Shelf_check_number (eVar 0) (aCons (eVar 1) (aNil)))) (sSeq (sFldA "Shelf" "write_count" addI (eVar 0) (eC (.int 1))) (sAsg (eVar 2) (gSb (eFld "Shelf" "kept" (eVar 0)) (eVar 1))))
def F_Shelf_write : List DV → M DV := runF 3 b_Shelf_write
abbrev s_law_pick : Stmt := top 9
def b_law_pick : DSx := sSeq (sSet 3 (eBin modD (eBin addD (eVar 0) (eBin divD (eVar 1) (eC (.int 3)))) (eVar 1))) (sRet (eBin modD (eBin modD (eBin mulD (eBin modD (eBin mulD (eVar 3) (eVar 3)) (eVar 1)) (eVar 3)) (eVar 1)) (eVar 2)))
def F_law_pick : List DV → M DV := runF 4 b_law_pick
abbrev s_law_number : Stmt := top 10
def b_law_number : DSx := sSeq (sIf (eB (eBin eqD (eCall 3 F_law_pick (aCons (eVar 0) (aCons (eVar 1) (aCons (eC (.int 3)) (aNil))))) (eC (.int 0)))) (sRet (eBin addD (eBin subD (eBin modD (eBin addD (eBin mulD (eBin modD (eVar 0) (eBin powD (eC (.int 10)) (eC (.int 40)))) (eC (.int 1000000000039))) (eVar 1)) (eBin subD (eBin mulD (eC (.int 2)) (eBin powD (eC (.int 10)) (eC (.int 30)))) (eC (.int 1999)))) (eBin powD (eC (.int 10)) (eC (.int 30)))) (eC (.int 999)))) (sNil)) (sRet (eBin subD (eCall 3 F_law_pick (aCons (eVar 0) (aCons (eVar 1) (aCons (eC (.int 41)) (aNil))))) (eC (.int 20))))
def F_law_number : List DV → M DV := runF 2 b_law_number
abbrev s_law_page : Stmt := top 11
def C_law_page_1 : DEx := eComp (iRg1 (aCons (eBlt lenF (aCons (eVar 4) (aNil))) (aNil))) [0] (tAll) (eCall 2 F_law_number (aCons (eBin addD (eVar 1) (eVar 0)) (aCons (eC (.int 10067)) (aNil))))
def C_law_page_2 : DEx := eComp (iRg1 (aCons (eBin addD (eBlt lenF (aCons (eVar 4) (aNil))) (eC (.int 1))) (aNil))) [0] (tAll) (eCall 3 F_law_pick (aCons (eBin addD (eVar 1) (eVar 0)) (aCons (eC (.int 10061)) (aCons (eC (.int 300)) (aNil)))))
def l_law_page_1 : DSx := sSeq (sSet 3 (eBin addD (eBin addD (eVar 3) (eC (.int 1))) (eCall 3 F_law_pick (aCons (eBin addD (eVar 0) (eVar 5)) (aCons (eC (.int 10039)) (aCons (eC (.int 5)) (aNil))))))) (sApp 4 (eVar 3))
def L_law_page_1 : DSx := sFor (iRg1 (aCons (eCall 3 F_law_pick (aCons (eVar 0) (aCons (eC (.int 10037)) (aCons (eBin addD (eVar 1) (eC (.int 2))) (aNil))))) (aNil))) (gN 5) (l_law_page_1)
def b_law_page : DSx := sSeq (sSet 2 (eBin ixD (eLst (aCons (eC (.int 0)) (aCons (eC (.int 0)) (aCons (eC (.int 1)) (aCons (eC (.int 2)) (aCons (eC (.int 3)) (aNil))))))) (eCall 3 F_law_pick (aCons (eVar 0) (aCons (eC (.int 10007)) (aCons (eC (.int 5)) (aNil))))))) (sSeq (sSet 3 (eCall 2 F_law_number (aCons (eVar 0) (aCons (eC (.int 10009)) (aNil))))) (sSeq (sAcc 4) (sSeq (L_law_page_1) (sSeq (sDis 4 (sSet 6 (C_law_page_2))) (sSeq (sDis 4 (sIf (eB (eBin eqD (eVar 2) (eC (.int 0)))) (sDis 4 (sSet 6 (C_law_page_1))) (sNil))) (sSeq (sDis 4 (sIf (eB (eBin eqD (eCall 3 F_law_pick (aCons (eVar 0) (aCons (eC (.int 10069)) (aCons (eC (.int 3)) (aNil))))) (eC (.int 0)))) (sDis 4 (sRet (eTup (aCons (eVar 2) (aCons (eBlt tupF (aCons (eVar 4) (aNil))) (aCons (eBlt tupF (aCons (eVar 6) (aNil))) (aCons (eC .non) (aCons (eC .non) (aNil))))))))) (sNil))) (sDis 4 (sRet (eTup (aCons (eVar 2) (aCons (eBlt tupF (aCons (eVar 4) (aNil))) (aCons (eBlt tupF (aCons (eVar 6) (aNil))) (aCons (eBin addD (eBin addD (eVar 3) (eC (.int 1))) (eCall 3 F_law_pick (aCons (eVar 0) (aCons (eC (.int 10079)) (aCons (eC (.int 9)) (aNil)))))) (aCons (eCall 3 F_law_pick (aCons (eVar 0) (aCons (eC (.int 10091)) (aCons (eC (.int 300)) (aNil))))) (aNil)))))))))))))))
def F_law_page : List DV → M DV := runF 7 b_law_page
abbrev s_Shelf_lay : Stmt := inClass (top 6) 3
def b_Shelf_lay : DSx := sSeq (sFldA "Shelf" "write_count" addI (eVar 0) (eC (.int 1))) (sSeq (sDrop (eMth "list" mAppend (eFld "Shelf" "kept" (eVar 0)) (aCons (eVar 1) (aNil)))) (sRet (eBin subD (eBlt lenG (aCons (eFld "Shelf" "kept" (eVar 0)) (aNil))) (eC (.int 1)))))
def F_Shelf_lay : List DV → M DV := runF 2 b_Shelf_lay
abbrev s_Shelf_make_root : Stmt := inClass (top 6) 5
def b_Shelf_make_root : DSx := sSeq (sDrop (eMeth "Shelf" "check_number" 2 F_Shelf_check_number (eVar 0) (aCons (eVar 1) (aNil)))) (sFldD "Shelf" "top" (eVar 0) (eVar 1))
def F_Shelf_make_root : List DV → M DV := runF 2 b_Shelf_make_root
abbrev s_law_done : Stmt := top 13
def b_law_done : DSx := sSeq (sSet 3 (eBlt lenG (aCons (eBin ixG (eVar 1) (eC (.str "pages"))) (aNil)))) (sSeq (sSet 4 (eCall 3 F_law_pick (aCons (eVar 2) (aCons (eC (.int 10093)) (aCons (eVar 3) (aNil)))))) (sSeq (sSet 5 (eCall 3 F_law_pick (aCons (eVar 2) (aCons (eC (.int 10099)) (aCons (eC (.int 8)) (aNil)))))) (sSeq (sIf (eB (eBin eqG (eVar 5) (eC (.int 0)))) (sSeq (sAsg (eVar 4) (gSb (eVar 1) (eC (.str "root")))) (sRet (eBin isD (eMeth "Shelf" "make_root" 2 F_Shelf_make_root (eVar 0) (aCons (eVar 4) (aNil))) (eC .non)))) (sNil)) (sSeq (sIf (eB (eBin ltD (eVar 5) (eC (.int 4)))) (sSeq (sSet 6 (eCall 2 F_law_page (aCons (eVar 2) (aCons (eBin ixG (eVar 1) (eC (.str "room"))) (aNil))))) (sSeq (sDrop (eMth "list" mAppend (eBin ixG (eVar 1) (eC (.str "pages"))) (aCons (eVar 6) (aNil)))) (sSeq (sAsg (eBin addD (eBin ixG (eVar 1) (eC (.str "writings"))) (eC (.int 1))) (gSb (eVar 1) (eC (.str "writings")))) (sRet (eCall 2 (F_law_same 6) (aCons (eMeth "Shelf" "lay" 2 F_Shelf_lay (eVar 0) (aCons (eVar 6) (aNil))) (aCons (eVar 3) (aNil)))))))) (sNil)) (sSeq (sIf (eB (eBin ltD (eVar 5) (eC (.int 6)))) (sSeq (sAsg (eCall 2 F_law_page (aCons (eVar 2) (aCons (eBin ixG (eVar 1) (eC (.str "room"))) (aNil)))) (gSb (eBin ixG (eVar 1) (eC (.str "pages"))) (eVar 4))) (sSeq (sAsg (eBin addD (eBin ixG (eVar 1) (eC (.str "writings"))) (eC (.int 1))) (gSb (eVar 1) (eC (.str "writings")))) (sRet (eBin isD (eMeth "Shelf" "write" 3 F_Shelf_write (eVar 0) (aCons (eVar 4) (aCons (eBin ixG (eBin ixG (eVar 1) (eC (.str "pages"))) (eVar 4)) (aNil)))) (eC .non))))) (sNil)) (sSeq (sAsg (eBin addD (eBin ixG (eVar 1) (eC (.str "readings"))) (eC (.int 1))) (gSb (eVar 1) (eC (.str "readings")))) (sRet (eCall 2 (F_law_same 6) (aCons (eMeth "Shelf" "read" 2 F_Shelf_read (eVar 0) (aCons (eVar 4) (aNil))) (aCons (eBin ixG (eBin ixG (eVar 1) (eC (.str "pages"))) (eVar 4)) (aNil)))))))))))
def F_law_done : List DV → M DV := runF 7 b_law_done
abbrev s_Shelf___init__ : Stmt := inClass (top 6) 0
def b_Shelf___init__ : DSx := sSeq (sFldD "Shelf" "page_room" (eVar 0) (eVar 1)) (sSeq (sFldD "Shelf" "kept" (eVar 0) (eNewL (aCons (eC (.tup [.int 0, .tup [], .tup [], .non, .non])) (aNil)))) (sSeq (sFldD "Shelf" "top" (eVar 0) (eC (.int 0))) (sSeq (sFldD "Shelf" "read_count" (eVar 0) (eC (.int 0))) (sFldD "Shelf" "write_count" (eVar 0) (eC (.int 0))))))
def F_Shelf___init__ : List DV → M DV := runF 2 b_Shelf___init__
abbrev s_law_cell_at : Stmt := top 8
def b_law_cell_at : DSx := sSeq (sIf (eB (eBin ltD (eVar 1) (eBlt lenF (aCons (eVar 0) (aNil))))) (sRet (eBin ixD (eVar 0) (eVar 1))) (sNil)) (sRet (eC (.int 0)))
def F_law_cell_at : List DV → M DV := runF 2 b_law_cell_at
abbrev s_law : Stmt := top 16
def l_law_1 : DSx := sSeq (sSet 6 (eCall 3 F_law_pick (aCons (eVar 4) (aCons (eC (.int 10111)) (aCons (eC (.int 2)) (aNil)))))) (sSeq (sIf (eNot (eB (eCall 3 F_law_done (aCons (eBin ixG (eVar 1) (eVar 6)) (aCons (eBin ixG (eVar 2) (eVar 6)) (aCons (eVar 4) (aNil))))))) (sRet (eC (.bl false))) (sNil)) (sIf (eOr (eNot (eB (eCall 2 F_law_counted (aCons (eBin ixG (eVar 1) (eC (.int 0))) (aCons (eBin ixG (eVar 2) (eC (.int 0))) (aNil)))))) (eNot (eB (eCall 2 F_law_counted (aCons (eBin ixG (eVar 1) (eC (.int 1))) (aCons (eBin ixG (eVar 2) (eC (.int 1))) (aNil))))))) (sRet (eC (.bl false))) (sNil)))
def L_law_1 : DSx := sForX (xLs (eSl (eVar 0) (oSome (eC (.int 2))) (oSome (eC (.int 122))))) (gN 4) (l_law_1)
def l_law_2 : DSx := sSeq (sSet 5 (eBin addD (eC (.int 2)) (eCall 3 F_law_pick (aCons (eCall 2 F_law_cell_at (aCons (eVar 0) (aCons (eVar 3) (aNil)))) (aCons (eC (.int 10103)) (aCons (eC (.int 7)) (aNil))))))) (sSeq (sDrop (eMth "list" mAppend (eVar 1) (aCons (eMake "Shelf" 2 F_Shelf___init__ (aCons (eVar 5) (aNil))) (aNil)))) (sDrop (eMth "list" mAppend (eVar 2) (aCons (eNewD [(eC (.str "pages"), eNewL (aCons (eTup (aCons (eC (.int 0)) (aCons (eTup (aNil)) (aCons (eTup (aNil)) (aCons (eC .non) (aCons (eC .non) (aNil))))))) (aNil))), (eC (.str "room"), eVar 5), (eC (.str "root"), eC (.int 0)), (eC (.str "readings"), eC (.int 0)), (eC (.str "writings"), eC (.int 0))]) (aNil)))))
def L_law_2 : DSx := sFor (iRg1 (aCons (eC (.int 2)) (aNil))) (gN 3) (l_law_2)
def b_law : DSx := sSeq (sSet 1 (eNewL (aNil))) (sSeq (sSet 2 (eNewL (aNil))) (sSeq (L_law_2) (sSeq (sIf (eOr (eNot (eB (eCall 2 F_law_counted (aCons (eBin ixG (eVar 1) (eC (.int 0))) (aCons (eBin ixG (eVar 2) (eC (.int 0))) (aNil)))))) (eNot (eB (eCall 2 F_law_counted (aCons (eBin ixG (eVar 1) (eC (.int 1))) (aCons (eBin ixG (eVar 2) (eC (.int 1))) (aNil))))))) (sRet (eC (.bl false))) (sNil)) (sSeq (L_law_1) (sRet (eAndV (eCall 2 F_law_stays (aCons (eBin ixG (eVar 1) (eC (.int 0))) (aCons (eBin ixG (eVar 2) (eC (.int 0))) (aNil)))) (eCall 2 F_law_stays (aCons (eBin ixG (eVar 1) (eC (.int 1))) (aCons (eBin ixG (eVar 2) (eC (.int 1))) (aNil))))))))))
def F_law : List DV → M DV := runF 7 b_law
section
variable {P : Program} {w : World} {K : PySem.W.Frag} {mg : Str → Option Value} {base : Heap} {g : Addr} {fd : FuncData}

theorem sc_Shelf_check_number : FnScope ["self", "number"] ["self", "number"] (defScope s_Shelf_check_number) := ⟨rfl, rfl, rfl, by decide +kernel, rfl, by decide +kernel, by decide +kernel⟩
theorem has_Shelf_check_number {C : Addr} (F : Fun K "check_number" "Shelf.check_number" s_Shelf_check_number g fd) (nc : ClsN K "Shelf" C) (cl : Cls K C) (me : Meth K C "check_number" g) (z_len : mg "len" = none) (k_Shelf_kept : FldK K "Shelf" "kept") : HasM P w K mg base "Shelf" "check_number" 1 2 F_Shelf_check_number :=
  meth_has nc cl me F sc_Shelf_check_number (fun _ _ _ _ _ _ us hl => match us, hl with | [_, _], _ => rfl) fun cdv A outer s H E hr => by
    have Sc := sc_Shelf_check_number
    refine dss_one ?_; (refine ds_if ?_ ?_ ?_; (refine dt_not ?_; (refine dt_chain p_le p_lt ?_ ?_ ?_; exact de_int; exact de_var 1; (refine de_blt c_lenG z_len PySem.boot_len ?_; (refine da_cons ?_ ?_; (refine de_fld k_Shelf_kept ?_; exact de_var 0); exact da_nil)))); (refine dss_one ?_; exact ds_fail); exact dss_nil)
theorem sc_Shelf_read : FnScope ["self", "number"] ["self", "number"] (defScope s_Shelf_read) := ⟨rfl, rfl, rfl, by decide +kernel, rfl, by decide +kernel, by decide +kernel⟩
theorem has_Shelf_read {C : Addr} (F : Fun K "read" "Shelf.read" s_Shelf_read g fd) (nc : ClsN K "Shelf" C) (cl : Cls K C) (me : Meth K C "read" g) (h_Shelf_check_number : HasM P w K mg base "Shelf" "check_number" 1 2 F_Shelf_check_number) (k_Shelf_kept : FldK K "Shelf" "kept") (k_Shelf_read_count : FldK K "Shelf" "read_count") : HasM P w K mg base "Shelf" "read" 2 2 F_Shelf_read :=
  meth_has nc cl me F sc_Shelf_read (fun _ _ _ _ _ _ us hl => match us, hl with | [_, _], _ => rfl) fun cdv A outer s H E hr => by
    have Sc := sc_Shelf_read
    refine dss_cons ?_ ?_; (refine ds_expr ?_; (refine de_meth h_Shelf_check_number hr (by decide) pass0 ?_ ?_; exact de_var 0; (refine da_cons ?_ ?_; exact de_var 1; exact da_nil))); (refine dss_cons ?_ ?_; (refine ds_fldadd k_Shelf_read_count ?_ ?_; exact de_var 0; exact de_int); (refine dss_one ?_; (refine ds_ret ?_; (refine de_ixG (hu_of hr) ?_ ?_; (refine de_fld k_Shelf_kept ?_; exact de_var 0); exact de_var 1))))
theorem sc_law_same : FnScope ["found", "due", "one", "other"] ["found", "due"] (defScope s_law_same) := ⟨rfl, rfl, rfl, by decide +kernel, rfl, by decide +kernel, by decide +kernel⟩
theorem has_law_same (F : Fun K "_law_same" "_law_same" s_law_same g fd) (hm : mg "_law_same" = some (.ref g)) (z_isinstance : mg "isinstance" = none) (z_int : mg "int" = none) (z_bool : mg "bool" = none) (z_tuple : mg "tuple" = none) (z_zip : mg "zip" = none) (z_len : mg "len" = none) : ∀ j : Nat, Has P w K mg base "_law_same" (0 + j) 2 (F_law_same j)
  | 0 => has_none F hm (ps := ["found", "due"]) (fun _ _ _ _ _ _ us hl => match us, hl with | [_, _], _ => rfl)
  | j + 1 => by
    have h_law_same := has_law_same F hm z_isinstance z_int z_bool z_tuple z_zip z_len j
    exact fn_has F sc_law_same hm (fun _ _ _ _ _ _ us hl => match us, hl with | [_, _], _ => rfl) fun cdv A outer s H E hr => by
      have Sc := sc_law_same
      refine dss_cons ?_ ?_; (refine ds_if ?_ ?_ ?_; (refine dt_of ?_; (refine de_isi z_isinstance z_tuple boot_tuple (by decide) ?_; exact de_var 1)); (refine dss_cons ?_ ?_; (refine ds_if ?_ ?_ ?_; (refine DW.pt ?_; (refine dw_or ?_ ?_; (refine dt_not ?_; (refine dt_of ?_; (refine de_isi z_isinstance z_tuple boot_tuple (by decide) ?_; exact de_var 0))); (refine dw_or1 ?_; (refine dt_cmp (p_ne hr.units) ?_ ?_ (nomark _); (refine de_blt c_len z_len PySem.boot_len ?_; (refine da_cons ?_ ?_; exact de_var 0; exact da_nil)); (refine de_blt c_len z_len PySem.boot_len ?_; (refine da_cons ?_ ?_; exact de_var 1; exact da_nil)))))); (refine dss_one ?_; (refine ds_ret ?_; exact de_bl)); exact dss_nil); (refine dss_cons ?_ ?_; (refine ds_for PassesOwn.never rfl ?_ ?_ ?_; (refine di_zip (by rfl) (by exact z_zip) ?_ ?_; exact de_var 0; exact de_var 1); exact dg_tup [2, 3] Sc.nd (by repeat' (first | exact trivial | refine ⟨rfl, (by first | exact .inl rfl | exact .inr rfl), .inl rfl, ?_⟩)) rfl (fun _ _ _ => rfl); (refine dss_one ?_; (refine ds_if ?_ ?_ ?_; (refine dt_not ?_; (refine dt_of ?_; (refine de_call h_law_same hr (Nat.le_refl _) pass0 ?_; (refine da_cons ?_ ?_; exact de_var 2; (refine da_cons ?_ ?_; exact de_var 3; exact da_nil))))); (refine dss_one ?_; (refine ds_ret ?_; exact de_bl)); exact dss_nil))); (refine dss_one ?_; (refine ds_ret ?_; exact de_bl)))); exact dss_nil); (refine dss_cons ?_ ?_; (refine ds_if ?_ ?_ ?_; (refine dt_cmp p_is ?_ ?_ (nomark _); exact de_var 1; exact de_non); (refine dss_one ?_; (refine ds_ret ?_; (refine de_cmp p_is ?_ ?_ (nomark _); exact de_var 0; exact de_non))); exact dss_nil); (refine dss_one ?_; (refine ds_ret ?_; (refine de_and ?_ ?_; (refine de_isi z_isinstance z_int boot_int (by decide) ?_; exact de_var 0); (refine de_and ?_ ?_; (refine de_not ?_; (refine de_isi z_isinstance z_bool boot_bool (by decide) ?_; exact de_var 0)); (refine de_one ?_; (refine de_cmp (p_eq hr.units) ?_ ?_ (nomark _); exact de_var 0; exact de_var 1)))))))
theorem sc_law_stays : FnScope ["shelf", "side", "number"] ["shelf", "side"] (defScope s_law_stays) := ⟨rfl, rfl, rfl, by decide +kernel, rfl, by decide +kernel, by decide +kernel⟩
theorem has_law_stays (F : Fun K "_law_stays" "_law_stays" s_law_stays g fd) (hm : mg "_law_stays" = some (.ref g)) (h_Shelf_read : HasM P w K mg base "Shelf" "read" 2 2 F_Shelf_read) (h_law_same : Has P w K mg base "_law_same" 6 2 (F_law_same 6)) (z_len : mg "len" = none) (z_range : mg "range" = none) : Has P w K mg base "_law_stays" 7 2 F_law_stays :=
  fn_has F sc_law_stays hm (fun _ _ _ _ _ _ us hl => match us, hl with | [_, _], _ => rfl) fun cdv A outer s H E hr => by
    have Sc := sc_law_stays
    refine dss_cons ?_ ?_; (refine ds_for PassesOwn.never rfl ?_ ?_ ?_; (refine di_range1 rfl z_range ?_; (refine da_cons ?_ ?_; (refine de_blt c_lenG z_len PySem.boot_len ?_; (refine da_cons ?_ ?_; (refine de_ixG (hu_of hr) ?_ ?_; exact de_var 1; exact de_str); exact da_nil)); exact da_nil)); exact dg_name 2 Sc.nd; (refine dss_one ?_; (refine ds_if ?_ ?_ ?_; (refine dt_not ?_; (refine dt_of ?_; (refine de_call h_law_same hr (by decide) pass0 ?_; (refine da_cons ?_ ?_; (refine de_meth h_Shelf_read hr (by decide) pass0 ?_ ?_; exact de_var 0; (refine da_cons ?_ ?_; exact de_var 2; exact da_nil)); (refine da_cons ?_ ?_; (refine de_ixG (hu_of hr) ?_ ?_; (refine de_ixG (hu_of hr) ?_ ?_; exact de_var 1; exact de_str); exact de_var 2); exact da_nil))))); (refine dss_one ?_; (refine ds_ret ?_; exact de_bl)); exact dss_nil))); (refine dss_one ?_; (refine ds_ret ?_; exact de_bl))
theorem sc_Shelf_writings : FnScope ["self"] ["self"] (defScope s_Shelf_writings) := ⟨rfl, rfl, rfl, by decide +kernel, rfl, by decide +kernel, by decide +kernel⟩
theorem has_Shelf_writings {C : Addr} (F : Fun K "writings" "Shelf.writings" s_Shelf_writings g fd) (nc : ClsN K "Shelf" C) (cl : Cls K C) (me : Meth K C "writings" g) (k_Shelf_write_count : FldK K "Shelf" "write_count") : HasM P w K mg base "Shelf" "writings" 1 1 F_Shelf_writings :=
  meth_has nc cl me F sc_Shelf_writings (fun _ _ _ _ _ _ us hl => match us, hl with | [_], _ => rfl) fun cdv A outer s H E hr => by
    have Sc := sc_Shelf_writings
    refine dss_one ?_; (refine ds_ret ?_; (refine de_fld k_Shelf_write_count ?_; exact de_var 0))
theorem sc_Shelf_readings : FnScope ["self"] ["self"] (defScope s_Shelf_readings) := ⟨rfl, rfl, rfl, by decide +kernel, rfl, by decide +kernel, by decide +kernel⟩
theorem has_Shelf_readings {C : Addr} (F : Fun K "readings" "Shelf.readings" s_Shelf_readings g fd) (nc : ClsN K "Shelf" C) (cl : Cls K C) (me : Meth K C "readings" g) (k_Shelf_read_count : FldK K "Shelf" "read_count") : HasM P w K mg base "Shelf" "readings" 1 1 F_Shelf_readings :=
  meth_has nc cl me F sc_Shelf_readings (fun _ _ _ _ _ _ us hl => match us, hl with | [_], _ => rfl) fun cdv A outer s H E hr => by
    have Sc := sc_Shelf_readings
    refine dss_one ?_; (refine ds_ret ?_; (refine de_fld k_Shelf_read_count ?_; exact de_var 0))
theorem sc_Shelf_root : FnScope ["self"] ["self"] (defScope s_Shelf_root) := ⟨rfl, rfl, rfl, by decide +kernel, rfl, by decide +kernel, by decide +kernel⟩
theorem has_Shelf_root {C : Addr} (F : Fun K "root" "Shelf.root" s_Shelf_root g fd) (nc : ClsN K "Shelf" C) (cl : Cls K C) (me : Meth K C "root" g) (k_Shelf_top : FldK K "Shelf" "top") : HasM P w K mg base "Shelf" "root" 1 1 F_Shelf_root :=
  meth_has nc cl me F sc_Shelf_root (fun _ _ _ _ _ _ us hl => match us, hl with | [_], _ => rfl) fun cdv A outer s H E hr => by
    have Sc := sc_Shelf_root
    refine dss_one ?_; (refine ds_ret ?_; (refine de_fld k_Shelf_top ?_; exact de_var 0))
theorem sc_Shelf_room : FnScope ["self"] ["self"] (defScope s_Shelf_room) := ⟨rfl, rfl, rfl, by decide +kernel, rfl, by decide +kernel, by decide +kernel⟩
theorem has_Shelf_room {C : Addr} (F : Fun K "room" "Shelf.room" s_Shelf_room g fd) (nc : ClsN K "Shelf" C) (cl : Cls K C) (me : Meth K C "room" g) (k_Shelf_page_room : FldK K "Shelf" "page_room") : HasM P w K mg base "Shelf" "room" 1 1 F_Shelf_room :=
  meth_has nc cl me F sc_Shelf_room (fun _ _ _ _ _ _ us hl => match us, hl with | [_], _ => rfl) fun cdv A outer s H E hr => by
    have Sc := sc_Shelf_room
    refine dss_one ?_; (refine ds_ret ?_; (refine de_fld k_Shelf_page_room ?_; exact de_var 0))
theorem sc_Shelf_pages : FnScope ["self"] ["self"] (defScope s_Shelf_pages) := ⟨rfl, rfl, rfl, by decide +kernel, rfl, by decide +kernel, by decide +kernel⟩
theorem has_Shelf_pages {C : Addr} (F : Fun K "pages" "Shelf.pages" s_Shelf_pages g fd) (nc : ClsN K "Shelf" C) (cl : Cls K C) (me : Meth K C "pages" g) (z_len : mg "len" = none) (k_Shelf_kept : FldK K "Shelf" "kept") : HasM P w K mg base "Shelf" "pages" 1 1 F_Shelf_pages :=
  meth_has nc cl me F sc_Shelf_pages (fun _ _ _ _ _ _ us hl => match us, hl with | [_], _ => rfl) fun cdv A outer s H E hr => by
    have Sc := sc_Shelf_pages
    refine dss_one ?_; (refine ds_ret ?_; (refine de_blt c_lenG z_len PySem.boot_len ?_; (refine da_cons ?_ ?_; (refine de_fld k_Shelf_kept ?_; exact de_var 0); exact da_nil)))
theorem sc_law_counted : FnScope ["shelf", "side", "told"] ["shelf", "side"] (defScope s_law_counted) := ⟨rfl, rfl, rfl, by decide +kernel, rfl, by decide +kernel, by decide +kernel⟩
theorem has_law_counted (F : Fun K "_law_counted" "_law_counted" s_law_counted g fd) (hm : mg "_law_counted" = some (.ref g)) (h_law_same : Has P w K mg base "_law_same" 6 2 (F_law_same 6)) (h_Shelf_writings : HasM P w K mg base "Shelf" "writings" 1 1 F_Shelf_writings) (h_Shelf_readings : HasM P w K mg base "Shelf" "readings" 1 1 F_Shelf_readings) (h_Shelf_root : HasM P w K mg base "Shelf" "root" 1 1 F_Shelf_root) (h_Shelf_room : HasM P w K mg base "Shelf" "room" 1 1 F_Shelf_room) (h_Shelf_pages : HasM P w K mg base "Shelf" "pages" 1 1 F_Shelf_pages) (z_len : mg "len" = none) : Has P w K mg base "_law_counted" 7 2 F_law_counted :=
  fn_has F sc_law_counted hm (fun _ _ _ _ _ _ us hl => match us, hl with | [_, _], _ => rfl) fun cdv A outer s H E hr => by
    have Sc := sc_law_counted
    refine dss_cons ?_ ?_; (refine ds_set 2 Sc.nd ?_; (refine de_tup ?_; (refine da_cons ?_ ?_; (refine de_meth0 h_Shelf_pages hr (by decide) pass0 ?_; exact de_var 0); (refine da_cons ?_ ?_; (refine de_meth0 h_Shelf_room hr (by decide) pass0 ?_; exact de_var 0); (refine da_cons ?_ ?_; (refine de_meth0 h_Shelf_root hr (by decide) pass0 ?_; exact de_var 0); (refine da_cons ?_ ?_; (refine de_meth0 h_Shelf_readings hr (by decide) pass0 ?_; exact de_var 0); (refine da_cons ?_ ?_; (refine de_meth0 h_Shelf_writings hr (by decide) pass0 ?_; exact de_var 0); exact da_nil))))))); (refine dss_one ?_; (refine ds_ret ?_; (refine de_call h_law_same hr (by decide) pass0 ?_; (refine da_cons ?_ ?_; exact de_var 2; (refine da_cons ?_ ?_; (refine de_tup ?_; (refine da_cons ?_ ?_; (refine de_blt c_lenG z_len PySem.boot_len ?_; (refine da_cons ?_ ?_; (refine de_ixG (hu_of hr) ?_ ?_; exact de_var 1; exact de_str); exact da_nil)); (refine da_cons ?_ ?_; (refine de_ixG (hu_of hr) ?_ ?_; exact de_var 1; exact de_str); (refine da_cons ?_ ?_; (refine de_ixG (hu_of hr) ?_ ?_; exact de_var 1; exact de_str); (refine da_cons ?_ ?_; (refine de_ixG (hu_of hr) ?_ ?_; exact de_var 1; exact de_str); (refine da_cons ?_ ?_; (refine de_ixG (hu_of hr) ?_ ?_; exact de_var 1; exact de_str); exact da_nil)))))); exact da_nil)))))
theorem sc_Shelf_write : FnScope ["self", "number", "page"] ["self", "number", "page"] (defScope s_Shelf_write) := ⟨rfl, rfl, rfl, by decide +kernel, rfl, by decide +kernel, by decide +kernel⟩
theorem has_Shelf_write {C : Addr} (F : Fun K "write" "Shelf.write" s_Shelf_write g fd) (nc : ClsN K "Shelf" C) (cl : Cls K C) (me : Meth K C "write" g) (h_Shelf_check_number : HasM P w K mg base "Shelf" "check_number" 1 2 F_Shelf_check_number) (k_Shelf_kept : FldK K "Shelf" "kept") (k_Shelf_write_count : FldK K "Shelf" "write_count") : HasM P w K mg base "Shelf" "write" 2 3 F_Shelf_write :=
  meth_has nc cl me F sc_Shelf_write (fun _ _ _ _ _ _ us hl => match us, hl with | [_, _, _], _ => rfl) fun cdv A outer s H E hr => by
    have Sc := sc_Shelf_write
    refine dss_cons ?_ ?_; (refine ds_expr ?_; (refine de_meth h_Shelf_check_number hr (by decide) pass0 ?_ ?_; exact de_var 0; (refine da_cons ?_ ?_; exact de_var 1; exact da_nil))); (refine dss_cons ?_ ?_; (refine ds_fldadd k_Shelf_write_count ?_ ?_; exact de_var 0; exact de_int); (refine dss_one ?_; (refine ds_asg ?_ ?_; exact de_var 2; (refine dg_sub (hu_of hr) ?_ ?_; (refine de_fld k_Shelf_kept ?_; exact de_var 0); exact de_var 1))))
theorem sc_law_pick : FnScope ["cell", "prime", "many", "low"] ["cell", "prime", "many"] (defScope s_law_pick) := ⟨rfl, rfl, rfl, by decide +kernel, rfl, by decide +kernel, by decide +kernel⟩
theorem has_law_pick (F : Fun K "_law_pick" "_law_pick" s_law_pick g fd) (hm : mg "_law_pick" = some (.ref g)) : Has P w K mg base "_law_pick" 1 3 F_law_pick :=
  fn_has F sc_law_pick hm (fun _ _ _ _ _ _ us hl => match us, hl with | [_, _, _], _ => rfl) fun cdv A outer s H E hr => by
    have Sc := sc_law_pick
    refine dss_cons ?_ ?_; (refine ds_set 3 Sc.nd ?_; (refine de_bin p_mod ?_ ?_; (refine de_bin p_add ?_ ?_; exact de_var 0; (refine de_bin p_div ?_ ?_; exact de_var 1; exact de_int)); exact de_var 1)); (refine dss_one ?_; (refine ds_ret ?_; (refine de_bin p_mod ?_ ?_; (refine de_bin p_mod ?_ ?_; (refine de_bin p_mul ?_ ?_; (refine de_bin p_mod ?_ ?_; (refine de_bin p_mul ?_ ?_; exact de_var 3; exact de_var 3); exact de_var 1); exact de_var 3); exact de_var 1); exact de_var 2)))
theorem sc_law_number : FnScope ["cell", "prime"] ["cell", "prime"] (defScope s_law_number) := ⟨rfl, rfl, rfl, by decide +kernel, rfl, by decide +kernel, by decide +kernel⟩
theorem has_law_number (F : Fun K "_law_number" "_law_number" s_law_number g fd) (hm : mg "_law_number" = some (.ref g)) (h_law_pick : Has P w K mg base "_law_pick" 1 3 F_law_pick) : Has P w K mg base "_law_number" 2 2 F_law_number :=
  fn_has F sc_law_number hm (fun _ _ _ _ _ _ us hl => match us, hl with | [_, _], _ => rfl) fun cdv A outer s H E hr => by
    have Sc := sc_law_number
    refine dss_cons ?_ ?_; (refine ds_if ?_ ?_ ?_; (refine dt_cmp (p_eq hr.units) ?_ ?_ (nomark _); (refine de_call h_law_pick hr (by decide) pass0 ?_; (refine da_cons ?_ ?_; exact de_var 0; (refine da_cons ?_ ?_; exact de_var 1; (refine da_cons ?_ ?_; exact de_int; exact da_nil)))); exact de_int); (refine dss_one ?_; (refine ds_ret ?_; (refine de_bin p_add ?_ ?_; (refine de_bin p_sub ?_ ?_; (refine de_bin p_mod ?_ ?_; (refine de_bin p_add ?_ ?_; (refine de_bin p_mul ?_ ?_; (refine de_bin p_mod ?_ ?_; exact de_var 0; (refine de_bin p_pow ?_ ?_; exact de_int; exact de_int)); exact de_int); exact de_var 1); (refine de_bin p_sub ?_ ?_; (refine de_bin p_mul ?_ ?_; exact de_int; (refine de_bin p_pow ?_ ?_; exact de_int; exact de_int)); exact de_int)); (refine de_bin p_pow ?_ ?_; exact de_int; exact de_int)); exact de_int))); exact dss_nil); (refine dss_one ?_; (refine ds_ret ?_; (refine de_bin p_sub ?_ ?_; (refine de_call h_law_pick hr (by decide) pass0 ?_; (refine da_cons ?_ ?_; exact de_var 0; (refine da_cons ?_ ?_; exact de_var 1; (refine da_cons ?_ ?_; exact de_int; exact da_nil)))); exact de_int)))
theorem sc_law_page : FnScope ["cell", "room", "level", "key", "keys", "k", "parts"] ["cell", "room"] (defScope s_law_page) := ⟨rfl, rfl, rfl, by decide +kernel, rfl, by decide +kernel, by decide +kernel⟩
theorem has_law_page (F : Fun K "_law_page" "_law_page" s_law_page g fd) (hm : mg "_law_page" = some (.ref g)) (h_law_pick : Has P w K mg base "_law_pick" 1 3 F_law_pick) (h_law_number : Has P w K mg base "_law_number" 2 2 F_law_number) (z_tuple : mg "tuple" = none) (z_len : mg "len" = none) (z_range : mg "range" = none) : Has P w K mg base "_law_page" 3 2 F_law_page :=
  fn_has F sc_law_page hm (fun _ _ _ _ _ _ us hl => match us, hl with | [_, _], _ => rfl) fun cdv A outer s H E hr => by
    have Sc := sc_law_page
    refine dss_cons ?_ ?_; (refine ds_set 2 Sc.nd ?_; (refine de_ix ?_ ?_; (refine de_lst ?_; (refine da_cons ?_ ?_; exact de_int; (refine da_cons ?_ ?_; exact de_int; (refine da_cons ?_ ?_; exact de_int; (refine da_cons ?_ ?_; exact de_int; (refine da_cons ?_ ?_; exact de_int; exact da_nil)))))); (refine de_call h_law_pick hr (by decide) pass0 ?_; (refine da_cons ?_ ?_; exact de_var 0; (refine da_cons ?_ ?_; exact de_int; (refine da_cons ?_ ?_; exact de_int; exact da_nil)))))); (refine dss_cons ?_ ?_; (refine ds_set 3 Sc.nd ?_; (refine de_call h_law_number hr (by decide) pass0 ?_; (refine da_cons ?_ ?_; exact de_var 0; (refine da_cons ?_ ?_; exact de_int; exact da_nil)))); (refine dss_cons ?_ ?_; exact ds_acc 4 Sc.nd; (refine dss_cons ?_ ?_; (refine ds_for PassesOwn.never rfl ?_ ?_ ?_; (refine di_range1 rfl z_range ?_; (refine da_cons ?_ ?_; (refine de_call h_law_pick hr (by decide) pass0 ?_; (refine da_cons ?_ ?_; exact de_var 0; (refine da_cons ?_ ?_; exact de_int; (refine da_cons ?_ ?_; (refine de_bin p_add ?_ ?_; exact de_var 1; exact de_int); exact da_nil)))); exact da_nil)); exact dg_name 5 Sc.nd; (refine dss_cons ?_ ?_; (refine ds_set 3 Sc.nd ?_; (refine de_bin p_add ?_ ?_; (refine de_bin p_add ?_ ?_; exact de_var 3; exact de_int); (refine de_call h_law_pick hr (by decide) pass0 ?_; (refine da_cons ?_ ?_; (refine de_bin p_add ?_ ?_; exact de_var 0; exact de_var 5); (refine da_cons ?_ ?_; exact de_int; (refine da_cons ?_ ?_; exact de_int; exact da_nil)))))); (refine dss_one ?_; (refine ds_app 4 ?_; exact de_var 3)))); (refine dss_cons ?_ ?_; (refine ds_dis 4 ?_; (refine ds_comp 6 Sc.nd (caps := ["cell"]) (idx := [0]) ⟨by with_unfolding_all rfl, by decide +kernel, rfl, by decide +kernel, rfl, (by exact ⟨rfl, trivial⟩), by with_unfolding_all rfl, (by exact ⟨rfl, .inl rfl, ⟨_, rfl⟩, (fun h => NameKind.noConfusion (Option.some.inj (show some NameKind.cell = some NameKind.local from h))), trivial⟩), by decide⟩ rfl ?_ ?_ ?_; (refine di_range1 rfl z_range ?_; (refine da_cons ?_ ?_; (refine de_bin p_add ?_ ?_; (refine de_blt c_len z_len PySem.boot_len ?_; (refine da_cons ?_ ?_; exact de_var 4; exact da_nil)); exact de_int); exact da_nil)); (exact fun _ _ _ _ => by exact dts_nil); (exact fun _ _ _ _ => by refine de_call h_law_pick hr (by decide) pass0 ?_; (refine da_cons ?_ ?_; (refine de_bin p_add ?_ ?_; exact de_var 1; exact de_var 0); (refine da_cons ?_ ?_; exact de_int; (refine da_cons ?_ ?_; exact de_int; exact da_nil)))))); (refine dss_cons ?_ ?_; (refine ds_dis 4 ?_; (refine ds_if ?_ ?_ ?_; (refine dt_cmp (p_eq hr.units) ?_ ?_ (nomark _); exact de_var 2; exact de_int); (refine dss_one ?_; (refine ds_dis 4 ?_; (refine ds_comp 6 Sc.nd (caps := ["cell"]) (idx := [0]) ⟨by with_unfolding_all rfl, by decide +kernel, rfl, by decide +kernel, rfl, (by exact ⟨rfl, trivial⟩), by with_unfolding_all rfl, (by exact ⟨rfl, .inl rfl, ⟨_, rfl⟩, (fun h => NameKind.noConfusion (Option.some.inj (show some NameKind.cell = some NameKind.local from h))), trivial⟩), by decide⟩ rfl ?_ ?_ ?_; (refine di_range1 rfl z_range ?_; (refine da_cons ?_ ?_; (refine de_blt c_len z_len PySem.boot_len ?_; (refine da_cons ?_ ?_; exact de_var 4; exact da_nil)); exact da_nil)); (exact fun _ _ _ _ => by exact dts_nil); (exact fun _ _ _ _ => by refine de_call h_law_number hr (by decide) pass0 ?_; (refine da_cons ?_ ?_; (refine de_bin p_add ?_ ?_; exact de_var 1; exact de_var 0); (refine da_cons ?_ ?_; exact de_int; exact da_nil)))))); exact dss_nil)); (refine dss_cons ?_ ?_; (refine ds_dis 4 ?_; (refine ds_if ?_ ?_ ?_; (refine dt_cmp (p_eq hr.units) ?_ ?_ (nomark _); (refine de_call h_law_pick hr (by decide) pass0 ?_; (refine da_cons ?_ ?_; exact de_var 0; (refine da_cons ?_ ?_; exact de_int; (refine da_cons ?_ ?_; exact de_int; exact da_nil)))); exact de_int); (refine dss_one ?_; (refine ds_dis 4 ?_; (refine ds_ret ?_; (refine de_tup ?_; (refine da_cons ?_ ?_; exact de_var 2; (refine da_cons ?_ ?_; (refine de_ty c_tuple z_tuple boot_tuple ?_; (refine da_cons ?_ ?_; exact de_var 4; exact da_nil)); (refine da_cons ?_ ?_; (refine de_ty c_tuple z_tuple boot_tuple ?_; (refine da_cons ?_ ?_; exact de_var 6; exact da_nil)); (refine da_cons ?_ ?_; exact de_non; (refine da_cons ?_ ?_; exact de_non; exact da_nil))))))))); exact dss_nil)); (refine dss_one ?_; (refine ds_dis 4 ?_; (refine ds_ret ?_; (refine de_tup ?_; (refine da_cons ?_ ?_; exact de_var 2; (refine da_cons ?_ ?_; (refine de_ty c_tuple z_tuple boot_tuple ?_; (refine da_cons ?_ ?_; exact de_var 4; exact da_nil)); (refine da_cons ?_ ?_; (refine de_ty c_tuple z_tuple boot_tuple ?_; (refine da_cons ?_ ?_; exact de_var 6; exact da_nil)); (refine da_cons ?_ ?_; (refine de_bin p_add ?_ ?_; (refine de_bin p_add ?_ ?_; exact de_var 3; exact de_int); (refine de_call h_law_pick hr (by decide) pass0 ?_; (refine da_cons ?_ ?_; exact de_var 0; (refine da_cons ?_ ?_; exact de_int; (refine da_cons ?_ ?_; exact de_int; exact da_nil))))); (refine da_cons ?_ ?_; (refine de_call h_law_pick hr (by decide) pass0 ?_; (refine da_cons ?_ ?_; exact de_var 0; (refine da_cons ?_ ?_; exact de_int; (refine da_cons ?_ ?_; exact de_int; exact da_nil)))); exact da_nil)))))))))))))))
theorem sc_Shelf_lay : FnScope ["self", "page"] ["self", "page"] (defScope s_Shelf_lay) := ⟨rfl, rfl, rfl, by decide +kernel, rfl, by decide +kernel, by decide +kernel⟩
theorem has_Shelf_lay {C : Addr} (F : Fun K "lay" "Shelf.lay" s_Shelf_lay g fd) (nc : ClsN K "Shelf" C) (cl : Cls K C) (me : Meth K C "lay" g) (z_len : mg "len" = none) (k_Shelf_kept : FldK K "Shelf" "kept") (k_Shelf_write_count : FldK K "Shelf" "write_count") : HasM P w K mg base "Shelf" "lay" 1 2 F_Shelf_lay :=
  meth_has nc cl me F sc_Shelf_lay (fun _ _ _ _ _ _ us hl => match us, hl with | [_, _], _ => rfl) fun cdv A outer s H E hr => by
    have Sc := sc_Shelf_lay
    refine dss_cons ?_ ?_; (refine ds_fldadd k_Shelf_write_count ?_ ?_; exact de_var 0; exact de_int); (refine dss_cons ?_ ?_; (refine ds_expr ?_; (refine de_mth m_append PySem.F.plainAttrs_list PySem.F.slot_list_append PySem.F.type_list_append ?_ ?_; (refine de_fld k_Shelf_kept ?_; exact de_var 0); (refine da_cons ?_ ?_; exact de_var 1; exact da_nil))); (refine dss_one ?_; (refine ds_ret ?_; (refine de_bin p_sub ?_ ?_; (refine de_blt c_lenG z_len PySem.boot_len ?_; (refine da_cons ?_ ?_; (refine de_fld k_Shelf_kept ?_; exact de_var 0); exact da_nil)); exact de_int))))
theorem sc_Shelf_make_root : FnScope ["self", "number"] ["self", "number"] (defScope s_Shelf_make_root) := ⟨rfl, rfl, rfl, by decide +kernel, rfl, by decide +kernel, by decide +kernel⟩
theorem has_Shelf_make_root {C : Addr} (F : Fun K "make_root" "Shelf.make_root" s_Shelf_make_root g fd) (nc : ClsN K "Shelf" C) (cl : Cls K C) (me : Meth K C "make_root" g) (h_Shelf_check_number : HasM P w K mg base "Shelf" "check_number" 1 2 F_Shelf_check_number) (k_Shelf_top : FldK K "Shelf" "top") : HasM P w K mg base "Shelf" "make_root" 2 2 F_Shelf_make_root :=
  meth_has nc cl me F sc_Shelf_make_root (fun _ _ _ _ _ _ us hl => match us, hl with | [_, _], _ => rfl) fun cdv A outer s H E hr => by
    have Sc := sc_Shelf_make_root
    refine dss_cons ?_ ?_; (refine ds_expr ?_; (refine de_meth h_Shelf_check_number hr (by decide) pass0 ?_ ?_; exact de_var 0; (refine da_cons ?_ ?_; exact de_var 1; exact da_nil))); (refine dss_one ?_; (refine ds_fld k_Shelf_top ?_ ?_; exact de_var 0; exact de_var 1))
theorem sc_law_done : FnScope ["shelf", "side", "cell", "many", "at", "way", "page"] ["shelf", "side", "cell"] (defScope s_law_done) := ⟨rfl, rfl, rfl, by decide +kernel, rfl, by decide +kernel, by decide +kernel⟩
theorem has_law_done (F : Fun K "_law_done" "_law_done" s_law_done g fd) (hm : mg "_law_done" = some (.ref g)) (h_Shelf_read : HasM P w K mg base "Shelf" "read" 2 2 F_Shelf_read) (h_law_same : Has P w K mg base "_law_same" 6 2 (F_law_same 6)) (h_Shelf_write : HasM P w K mg base "Shelf" "write" 2 3 F_Shelf_write) (h_law_page : Has P w K mg base "_law_page" 3 2 F_law_page) (h_Shelf_lay : HasM P w K mg base "Shelf" "lay" 1 2 F_Shelf_lay) (h_Shelf_make_root : HasM P w K mg base "Shelf" "make_root" 2 2 F_Shelf_make_root) (h_law_pick : Has P w K mg base "_law_pick" 1 3 F_law_pick) (z_len : mg "len" = none) : Has P w K mg base "_law_done" 7 3 F_law_done :=
  fn_has F sc_law_done hm (fun _ _ _ _ _ _ us hl => match us, hl with | [_, _, _], _ => rfl) fun cdv A outer s H E hr => by
    have Sc := sc_law_done
    refine dss_cons ?_ ?_; (refine ds_set 3 Sc.nd ?_; (refine de_blt c_lenG z_len PySem.boot_len ?_; (refine da_cons ?_ ?_; (refine de_ixG (hu_of hr) ?_ ?_; exact de_var 1; exact de_str); exact da_nil))); (refine dss_cons ?_ ?_; (refine ds_set 4 Sc.nd ?_; (refine de_call h_law_pick hr (by decide) pass0 ?_; (refine da_cons ?_ ?_; exact de_var 2; (refine da_cons ?_ ?_; exact de_int; (refine da_cons ?_ ?_; exact de_var 3; exact da_nil))))); (refine dss_cons ?_ ?_; (refine ds_set 5 Sc.nd ?_; (refine de_call h_law_pick hr (by decide) pass0 ?_; (refine da_cons ?_ ?_; exact de_var 2; (refine da_cons ?_ ?_; exact de_int; (refine da_cons ?_ ?_; exact de_int; exact da_nil))))); (refine dss_cons ?_ ?_; (refine ds_if ?_ ?_ ?_; (refine dt_cmp (p_eqG hr.units) ?_ ?_ (nomark _); exact de_var 5; exact de_int); (refine dss_cons ?_ ?_; (refine ds_asg ?_ ?_; exact de_var 4; (refine dg_sub (hu_of hr) ?_ ?_; exact de_var 1; exact de_str)); (refine dss_one ?_; (refine ds_ret ?_; (refine de_cmp p_is ?_ ?_ (nomark _); (refine de_meth h_Shelf_make_root hr (by decide) pass0 ?_ ?_; exact de_var 0; (refine da_cons ?_ ?_; exact de_var 4; exact da_nil)); exact de_non)))); exact dss_nil); (refine dss_cons ?_ ?_; (refine ds_if ?_ ?_ ?_; (refine dt_cmp p_lt ?_ ?_ (nomark _); exact de_var 5; exact de_int); (refine dss_cons ?_ ?_; (refine ds_set 6 Sc.nd ?_; (refine de_call h_law_page hr (by decide) pass0 ?_; (refine da_cons ?_ ?_; exact de_var 2; (refine da_cons ?_ ?_; (refine de_ixG (hu_of hr) ?_ ?_; exact de_var 1; exact de_str); exact da_nil)))); (refine dss_cons ?_ ?_; (refine ds_expr ?_; (refine de_mth m_append PySem.F.plainAttrs_list PySem.F.slot_list_append PySem.F.type_list_append ?_ ?_; (refine de_ixG (hu_of hr) ?_ ?_; exact de_var 1; exact de_str); (refine da_cons ?_ ?_; exact de_var 6; exact da_nil))); (refine dss_cons ?_ ?_; (refine ds_asg ?_ ?_; (refine de_bin p_add ?_ ?_; (refine de_ixG (hu_of hr) ?_ ?_; exact de_var 1; exact de_str); exact de_int); (refine dg_sub (hu_of hr) ?_ ?_; exact de_var 1; exact de_str)); (refine dss_one ?_; (refine ds_ret ?_; (refine de_call h_law_same hr (by decide) pass0 ?_; (refine da_cons ?_ ?_; (refine de_meth h_Shelf_lay hr (by decide) pass0 ?_ ?_; exact de_var 0; (refine da_cons ?_ ?_; exact de_var 6; exact da_nil)); (refine da_cons ?_ ?_; exact de_var 3; exact da_nil)))))))); exact dss_nil); (refine dss_cons ?_ ?_; (refine ds_if ?_ ?_ ?_; (refine dt_cmp p_lt ?_ ?_ (nomark _); exact de_var 5; exact de_int); (refine dss_cons ?_ ?_; (refine ds_asg ?_ ?_; (refine de_call h_law_page hr (by decide) pass0 ?_; (refine da_cons ?_ ?_; exact de_var 2; (refine da_cons ?_ ?_; (refine de_ixG (hu_of hr) ?_ ?_; exact de_var 1; exact de_str); exact da_nil))); (refine dg_sub (hu_of hr) ?_ ?_; (refine de_ixG (hu_of hr) ?_ ?_; exact de_var 1; exact de_str); exact de_var 4)); (refine dss_cons ?_ ?_; (refine ds_asg ?_ ?_; (refine de_bin p_add ?_ ?_; (refine de_ixG (hu_of hr) ?_ ?_; exact de_var 1; exact de_str); exact de_int); (refine dg_sub (hu_of hr) ?_ ?_; exact de_var 1; exact de_str)); (refine dss_one ?_; (refine ds_ret ?_; (refine de_cmp p_is ?_ ?_ (nomark _); (refine de_meth h_Shelf_write hr (by decide) pass0 ?_ ?_; exact de_var 0; (refine da_cons ?_ ?_; exact de_var 4; (refine da_cons ?_ ?_; (refine de_ixG (hu_of hr) ?_ ?_; (refine de_ixG (hu_of hr) ?_ ?_; exact de_var 1; exact de_str); exact de_var 4); exact da_nil))); exact de_non))))); exact dss_nil); (refine dss_cons ?_ ?_; (refine ds_asg ?_ ?_; (refine de_bin p_add ?_ ?_; (refine de_ixG (hu_of hr) ?_ ?_; exact de_var 1; exact de_str); exact de_int); (refine dg_sub (hu_of hr) ?_ ?_; exact de_var 1; exact de_str)); (refine dss_one ?_; (refine ds_ret ?_; (refine de_call h_law_same hr (by decide) pass0 ?_; (refine da_cons ?_ ?_; (refine de_meth h_Shelf_read hr (by decide) pass0 ?_ ?_; exact de_var 0; (refine da_cons ?_ ?_; exact de_var 4; exact da_nil)); (refine da_cons ?_ ?_; (refine de_ixG (hu_of hr) ?_ ?_; (refine de_ixG (hu_of hr) ?_ ?_; exact de_var 1; exact de_str); exact de_var 4); exact da_nil)))))))))))
theorem sc_Shelf___init__ : FnScope ["self", "room"] ["self", "room"] (defScope s_Shelf___init__) := ⟨rfl, rfl, rfl, by decide +kernel, rfl, by decide +kernel, by decide +kernel⟩
theorem has_Shelf___init__ {C : Addr} (F : Fun K "__init__" "Shelf.__init__" s_Shelf___init__ g fd) (nc : ClsN K "Shelf" C) (hm : mg "Shelf" = some (.ref C)) (me : Mk K C g) {a_EMPTY_LEAF : Addr} (g_EMPTY_LEAF : mg "EMPTY_LEAF" = some (.ref a_EMPTY_LEAF)) (q_EMPTY_LEAF : KRep K (.tup [.int 0, .tup [], .tup [], .non, .non]) (.ref a_EMPTY_LEAF)) (k_Shelf_write_count : FldK K "Shelf" "write_count") (k_Shelf_read_count : FldK K "Shelf" "read_count") (k_Shelf_top : FldK K "Shelf" "top") (k_Shelf_kept : FldK K "Shelf" "kept") (k_Shelf_page_room : FldK K "Shelf" "page_room") : HasI P w K mg base "Shelf" 1 2 F_Shelf___init__ :=
  init_has nc hm me F sc_Shelf___init__ (fun _ _ _ _ _ _ us hl => match us, hl with | [_, _], _ => rfl) fun cdv A outer s H E hr => by
    have Sc := sc_Shelf___init__
    refine dss_cons ?_ ?_; (refine ds_fld k_Shelf_page_room ?_ ?_; exact de_var 0; exact de_var 1); (refine dss_cons ?_ ?_; (refine ds_fld k_Shelf_kept ?_ ?_; exact de_var 0; (refine de_newL ?_; (refine da_cons ?_ ?_; exact de_gtup rfl g_EMPTY_LEAF q_EMPTY_LEAF; exact da_nil))); (refine dss_cons ?_ ?_; (refine ds_fld k_Shelf_top ?_ ?_; exact de_var 0; exact de_int); (refine dss_cons ?_ ?_; (refine ds_fld k_Shelf_read_count ?_ ?_; exact de_var 0; exact de_int); (refine dss_one ?_; (refine ds_fld k_Shelf_write_count ?_ ?_; exact de_var 0; exact de_int)))))
theorem sc_law_cell_at : FnScope ["script", "k"] ["script", "k"] (defScope s_law_cell_at) := ⟨rfl, rfl, rfl, by decide +kernel, rfl, by decide +kernel, by decide +kernel⟩
theorem has_law_cell_at (F : Fun K "_law_cell_at" "_law_cell_at" s_law_cell_at g fd) (hm : mg "_law_cell_at" = some (.ref g)) (z_len : mg "len" = none) : Has P w K mg base "_law_cell_at" 1 2 F_law_cell_at :=
  fn_has F sc_law_cell_at hm (fun _ _ _ _ _ _ us hl => match us, hl with | [_, _], _ => rfl) fun cdv A outer s H E hr => by
    have Sc := sc_law_cell_at
    refine dss_cons ?_ ?_; (refine ds_if ?_ ?_ ?_; (refine dt_cmp p_lt ?_ ?_ (nomark _); exact de_var 1; (refine de_blt c_len z_len PySem.boot_len ?_; (refine da_cons ?_ ?_; exact de_var 0; exact da_nil))); (refine dss_one ?_; (refine ds_ret ?_; (refine de_ix ?_ ?_; exact de_var 0; exact de_var 1))); exact dss_nil); (refine dss_one ?_; (refine ds_ret ?_; exact de_int))
theorem sc_law : FnScope ["script", "shelves", "sides", "k", "cell", "room", "which"] ["script"] (defScope s_law) := ⟨rfl, rfl, rfl, by decide +kernel, rfl, by decide +kernel, by decide +kernel⟩
theorem law_fn (F : Fun K "law" "law" s_law g fd) (h_law_stays : Has P w K mg base "_law_stays" 7 2 F_law_stays) (h_law_counted : Has P w K mg base "_law_counted" 7 2 F_law_counted) (h_law_done : Has P w K mg base "_law_done" 7 3 F_law_done) (h_law_pick : Has P w K mg base "_law_pick" 1 3 F_law_pick) (h_Shelf___init__ : HasI P w K mg base "Shelf" 1 2 F_Shelf___init__) (h_law_cell_at : Has P w K mg base "_law_cell_at" 1 2 F_law_cell_at) (z_range : mg "range" = none) : FnOk P w K mg base CX0 8 g fd ["script"] (spD K 1 F_law) :=
  fn_ok F sc_law fun cdv A outer s H E hr => by
    have Sc := sc_law
    refine dss_cons ?_ ?_; (refine ds_set 1 Sc.nd ?_; (refine de_newL ?_; exact da_nil)); (refine dss_cons ?_ ?_; (refine ds_set 2 Sc.nd ?_; (refine de_newL ?_; exact da_nil)); (refine dss_cons ?_ ?_; (refine ds_for PassesOwn.never rfl ?_ ?_ ?_; (refine di_range1 rfl z_range ?_; (refine da_cons ?_ ?_; exact de_int; exact da_nil)); exact dg_name 3 Sc.nd; (refine dss_cons ?_ ?_; (refine ds_set 5 Sc.nd ?_; (refine de_bin p_add ?_ ?_; exact de_int; (refine de_call h_law_pick hr (by decide) pass0 ?_; (refine da_cons ?_ ?_; (refine de_call h_law_cell_at hr (by decide) pass0 ?_; (refine da_cons ?_ ?_; exact de_var 0; (refine da_cons ?_ ?_; exact de_var 3; exact da_nil))); (refine da_cons ?_ ?_; exact de_int; (refine da_cons ?_ ?_; exact de_int; exact da_nil)))))); (refine dss_cons ?_ ?_; (refine ds_expr ?_; (refine de_mth m_append PySem.F.plainAttrs_list PySem.F.slot_list_append PySem.F.type_list_append ?_ ?_; exact de_var 1; (refine da_cons ?_ ?_; (refine de_make h_Shelf___init__ hr (by decide) pass0 ?_; (refine da_cons ?_ ?_; exact de_var 5; exact da_nil)); exact da_nil))); (refine dss_one ?_; (refine ds_expr ?_; (refine de_mth m_append PySem.F.plainAttrs_list PySem.F.slot_list_append PySem.F.type_list_append ?_ ?_; exact de_var 2; (refine da_cons ?_ ?_; (refine de_newD ?_; (refine dp_cons ?_ ?_ ?_; exact de_str; (refine de_newL ?_; (refine da_cons ?_ ?_; (refine de_tup ?_; (refine da_cons ?_ ?_; exact de_int; (refine da_cons ?_ ?_; (refine de_tup ?_; exact da_nil); (refine da_cons ?_ ?_; (refine de_tup ?_; exact da_nil); (refine da_cons ?_ ?_; exact de_non; (refine da_cons ?_ ?_; exact de_non; exact da_nil)))))); exact da_nil)); (refine dp_cons ?_ ?_ ?_; exact de_str; exact de_var 5; (refine dp_cons ?_ ?_ ?_; exact de_str; exact de_int; (refine dp_cons ?_ ?_ ?_; exact de_str; exact de_int; (refine dp_cons ?_ ?_ ?_; exact de_str; exact de_int; exact dp_nil)))))); exact da_nil))))))); (refine dss_cons ?_ ?_; (refine ds_if ?_ ?_ ?_; (refine DW.pt ?_; (refine dw_or ?_ ?_; (refine dt_not ?_; (refine dt_of ?_; (refine de_call h_law_counted hr (by decide) pass0 ?_; (refine da_cons ?_ ?_; (refine de_ixG (hu_of hr) ?_ ?_; exact de_var 1; exact de_int); (refine da_cons ?_ ?_; (refine de_ixG (hu_of hr) ?_ ?_; exact de_var 2; exact de_int); exact da_nil))))); (refine dw_or1 ?_; (refine dt_not ?_; (refine dt_of ?_; (refine de_call h_law_counted hr (by decide) pass0 ?_; (refine da_cons ?_ ?_; (refine de_ixG (hu_of hr) ?_ ?_; exact de_var 1; exact de_int); (refine da_cons ?_ ?_; (refine de_ixG (hu_of hr) ?_ ?_; exact de_var 2; exact de_int); exact da_nil)))))))); (refine dss_one ?_; (refine ds_ret ?_; exact de_bl)); exact dss_nil); (refine dss_cons ?_ ?_; (refine ds_forX PassesOwn.never rfl ?_ ?_ ?_; (refine dx_list ?_; (refine de_sl ?_ ?_ ?_; exact de_var 0; (refine do_some ?_; exact de_int); (refine do_some ?_; exact de_int))); exact dg_name 4 Sc.nd; (refine dss_cons ?_ ?_; (refine ds_set 6 Sc.nd ?_; (refine de_call h_law_pick hr (by decide) pass0 ?_; (refine da_cons ?_ ?_; exact de_var 4; (refine da_cons ?_ ?_; exact de_int; (refine da_cons ?_ ?_; exact de_int; exact da_nil))))); (refine dss_cons ?_ ?_; (refine ds_if ?_ ?_ ?_; (refine dt_not ?_; (refine dt_of ?_; (refine de_call h_law_done hr (by decide) pass0 ?_; (refine da_cons ?_ ?_; (refine de_ixG (hu_of hr) ?_ ?_; exact de_var 1; exact de_var 6); (refine da_cons ?_ ?_; (refine de_ixG (hu_of hr) ?_ ?_; exact de_var 2; exact de_var 6); (refine da_cons ?_ ?_; exact de_var 4; exact da_nil)))))); (refine dss_one ?_; (refine ds_ret ?_; exact de_bl)); exact dss_nil); (refine dss_one ?_; (refine ds_if ?_ ?_ ?_; (refine DW.pt ?_; (refine dw_or ?_ ?_; (refine dt_not ?_; (refine dt_of ?_; (refine de_call h_law_counted hr (by decide) pass0 ?_; (refine da_cons ?_ ?_; (refine de_ixG (hu_of hr) ?_ ?_; exact de_var 1; exact de_int); (refine da_cons ?_ ?_; (refine de_ixG (hu_of hr) ?_ ?_; exact de_var 2; exact de_int); exact da_nil))))); (refine dw_or1 ?_; (refine dt_not ?_; (refine dt_of ?_; (refine de_call h_law_counted hr (by decide) pass0 ?_; (refine da_cons ?_ ?_; (refine de_ixG (hu_of hr) ?_ ?_; exact de_var 1; exact de_int); (refine da_cons ?_ ?_; (refine de_ixG (hu_of hr) ?_ ?_; exact de_var 2; exact de_int); exact da_nil)))))))); (refine dss_one ?_; (refine ds_ret ?_; exact de_bl)); exact dss_nil))))); (refine dss_one ?_; (refine ds_ret ?_; (refine de_and ?_ ?_; (refine de_call h_law_stays hr (by decide) pass0 ?_; (refine da_cons ?_ ?_; (refine de_ixG (hu_of hr) ?_ ?_; exact de_var 1; exact de_int); (refine da_cons ?_ ?_; (refine de_ixG (hu_of hr) ?_ ?_; exact de_var 2; exact de_int); exact da_nil))); (refine de_one ?_; (refine de_call h_law_stays hr (by decide) pass0 ?_; (refine da_cons ?_ ?_; (refine de_ixG (hu_of hr) ?_ ?_; exact de_var 1; exact de_int); (refine da_cons ?_ ?_; (refine de_ixG (hu_of hr) ?_ ?_; exact de_var 2; exact de_int); exact da_nil)))))))))))
end
def shF (r : Int) (k : Nat) (t a b : Int) : List (Str × DV) := [("page_room", .int r), ("kept", .ref k), ("top", .int t), ("read_count", .int a), ("write_count", .int b)]
theorem shF_room (r : Int) (k : Nat) (t a b : Int) : List.lookup ("page_room" : Str) (shF r k t a b) = some (DV.int r) := by rfl
theorem shF_kept (r : Int) (k : Nat) (t a b : Int) : List.lookup ("kept" : Str) (shF r k t a b) = some (DV.ref k) := by rfl
theorem shF_top (r : Int) (k : Nat) (t a b : Int) : List.lookup ("top" : Str) (shF r k t a b) = some (DV.int t) := by rfl
theorem shF_w (r : Int) (k : Nat) (t a b : Int) : List.lookup ("write_count" : Str) (shF r k t a b) = some (DV.int b) := by rfl
theorem shF_r (r : Int) (k : Nat) (t a b : Int) : List.lookup ("read_count" : Str) (shF r k t a b) = some (DV.int a) := by rfl
theorem shF_putw (r : Int) (k : Nat) (t a b c : Int) : putFD ("write_count" : Str) (.int c) (shF r k t a b) = shF r k t a c := by rfl
theorem shF_putr (r : Int) (k : Nat) (t a b c : Int) : putFD ("read_count" : Str) (.int c) (shF r k t a b) = shF r k t c b := by rfl
theorem shF_putt (r : Int) (k : Nat) (t a b c : Int) : putFD ("top" : Str) (.int c) (shF r k t a b) = shF r k c a b := by rfl
theorem shF_len (r : Int) (k : Nat) (t a b : Int) : (shF r k t a b).length = 5 := rfl
theorem shF_nochk (r : Int) (k : Nat) (t a b : Int) : List.lookup ("check_number" : Str) (shF r k t a b) = none := by rfl
theorem shF_nolay (r : Int) (k : Nat) (t a b : Int) : List.lookup ("lay" : Str) (shF r k t a b) = none := by rfl
theorem shF_noread (r : Int) (k : Nat) (t a b : Int) : List.lookup ("read" : Str) (shF r k t a b) = none := by rfl
theorem shF_nowrite (r : Int) (k : Nat) (t a b : Int) : List.lookup ("write" : Str) (shF r k t a b) = none := by rfl
theorem shF_noroot (r : Int) (k : Nat) (t a b : Int) : List.lookup ("root" : Str) (shF r k t a b) = none := by rfl
theorem shF_nomake (r : Int) (k : Nat) (t a b : Int) : List.lookup ("make_root" : Str) (shF r k t a b) = none := by rfl
theorem shF_norm (r : Int) (k : Nat) (t a b : Int) : List.lookup ("room" : Str) (shF r k t a b) = none := by rfl
theorem shF_nopages (r : Int) (k : Nat) (t a b : Int) : List.lookup ("pages" : Str) (shF r k t a b) = none := by rfl
theorem shF_nord (r : Int) (k : Nat) (t a b : Int) : List.lookup ("readings" : Str) (shF r k t a b) = none := by rfl
theorem shF_nowr (r : Int) (k : Nat) (t a b : Int) : List.lookup ("writings" : Str) (shF r k t a b) = none := by rfl
section
variable {r t a b : Int} {n k : Nat} {ps : List DV} {hp : Hs}
theorem pages_at (h1 : hp[n]? = some (.ins "Shelf" (shF r k t a b))) (h2 : hp[k]? = some (.lst ps)) : F_Shelf_pages [.ref n] hp = some (.int ps.length, hp) := by
  simp [F_Shelf_pages, b_Shelf_pages, runF, sSeq, sSet, sRet, sRetN, sIf, sNil, sDis, disE, sAcc, sApp, eBin, eVar, eC, eB, asB, eAnd, eOr, eNot, eAndV, eOrV, eNotV, eIf, eNeg, aNil, aCons, eTup, eLst, eCall, eBlt, guardM, gN, addD_int, subD_int, gtD_int, ltD_int, leD_int, geD_int, negD_int, pow30, pow21, pow9, eqD_int, neD_int, sDrop, sFldD, sFldA, sAug, sAsg, gSb, putG, eMth, kindG, eFld, getF, setF, onI, onL, onD, mAppend, mInsert, mDPop, mDGet, ixG, lenG, lenF, optM, keyM, dkey, asI, addI, subI, eMeth, eMake, eNewL, eNewD0, eNewD, evP, run_bind, run_map, run_pure, run_fail, run_guard, run_get, run_set, run_new, getSet_self, getSet_ne, getApp_new, h1, h2, shF_kept]
theorem root_at (h1 : hp[n]? = some (.ins "Shelf" (shF r k t a b))) : F_Shelf_root [.ref n] hp = some (.int t, hp) := by
  simp [F_Shelf_root, b_Shelf_root, runF, sSeq, sSet, sRet, sRetN, sIf, sNil, sDis, disE, sAcc, sApp, eBin, eVar, eC, eB, asB, eAnd, eOr, eNot, eAndV, eOrV, eNotV, eIf, eNeg, aNil, aCons, eTup, eLst, eCall, eBlt, guardM, gN, addD_int, subD_int, gtD_int, ltD_int, leD_int, geD_int, negD_int, pow30, pow21, pow9, eqD_int, neD_int, sDrop, sFldD, sFldA, sAug, sAsg, gSb, putG, eMth, kindG, eFld, getF, setF, onI, onL, onD, mAppend, mInsert, mDPop, mDGet, ixG, lenG, lenF, optM, keyM, dkey, asI, addI, subI, eMeth, eMake, eNewL, eNewD0, eNewD, evP, run_bind, run_map, run_pure, run_fail, run_guard, run_get, run_set, run_new, getSet_self, getSet_ne, getApp_new, h1, shF_top]
theorem room_at (h1 : hp[n]? = some (.ins "Shelf" (shF r k t a b))) : F_Shelf_room [.ref n] hp = some (.int r, hp) := by
  simp [F_Shelf_room, b_Shelf_room, runF, sSeq, sSet, sRet, sRetN, sIf, sNil, sDis, disE, sAcc, sApp, eBin, eVar, eC, eB, asB, eAnd, eOr, eNot, eAndV, eOrV, eNotV, eIf, eNeg, aNil, aCons, eTup, eLst, eCall, eBlt, guardM, gN, addD_int, subD_int, gtD_int, ltD_int, leD_int, geD_int, negD_int, pow30, pow21, pow9, eqD_int, neD_int, sDrop, sFldD, sFldA, sAug, sAsg, gSb, putG, eMth, kindG, eFld, getF, setF, onI, onL, onD, mAppend, mInsert, mDPop, mDGet, ixG, lenG, lenF, optM, keyM, dkey, asI, addI, subI, eMeth, eMake, eNewL, eNewD0, eNewD, evP, run_bind, run_map, run_pure, run_fail, run_guard, run_get, run_set, run_new, getSet_self, getSet_ne, getApp_new, h1, shF_room]
theorem readings_at (h1 : hp[n]? = some (.ins "Shelf" (shF r k t a b))) : F_Shelf_readings [.ref n] hp = some (.int a, hp) := by
  simp [F_Shelf_readings, b_Shelf_readings, runF, sSeq, sSet, sRet, sRetN, sIf, sNil, sDis, disE, sAcc, sApp, eBin, eVar, eC, eB, asB, eAnd, eOr, eNot, eAndV, eOrV, eNotV, eIf, eNeg, aNil, aCons, eTup, eLst, eCall, eBlt, guardM, gN, addD_int, subD_int, gtD_int, ltD_int, leD_int, geD_int, negD_int, pow30, pow21, pow9, eqD_int, neD_int, sDrop, sFldD, sFldA, sAug, sAsg, gSb, putG, eMth, kindG, eFld, getF, setF, onI, onL, onD, mAppend, mInsert, mDPop, mDGet, ixG, lenG, lenF, optM, keyM, dkey, asI, addI, subI, eMeth, eMake, eNewL, eNewD0, eNewD, evP, run_bind, run_map, run_pure, run_fail, run_guard, run_get, run_set, run_new, getSet_self, getSet_ne, getApp_new, h1, shF_r]
theorem writings_at (h1 : hp[n]? = some (.ins "Shelf" (shF r k t a b))) : F_Shelf_writings [.ref n] hp = some (.int b, hp) := by
  simp [F_Shelf_writings, b_Shelf_writings, runF, sSeq, sSet, sRet, sRetN, sIf, sNil, sDis, disE, sAcc, sApp, eBin, eVar, eC, eB, asB, eAnd, eOr, eNot, eAndV, eOrV, eNotV, eIf, eNeg, aNil, aCons, eTup, eLst, eCall, eBlt, guardM, gN, addD_int, subD_int, gtD_int, ltD_int, leD_int, geD_int, negD_int, pow30, pow21, pow9, eqD_int, neD_int, sDrop, sFldD, sFldA, sAug, sAsg, gSb, putG, eMth, kindG, eFld, getF, setF, onI, onL, onD, mAppend, mInsert, mDPop, mDGet, ixG, lenG, lenF, optM, keyM, dkey, asI, addI, subI, eMeth, eMake, eNewL, eNewD0, eNewD, evP, run_bind, run_map, run_pure, run_fail, run_guard, run_get, run_set, run_new, getSet_self, getSet_ne, getApp_new, h1, shF_w]
theorem check_at {i : Int} (h1 : hp[n]? = some (.ins "Shelf" (shF r k t a b))) (h2 : hp[k]? = some (.lst ps)) (i0 : 0 ≤ i) (i1 : i < ps.length) :
    F_Shelf_check_number [.ref n, .int i] hp = some (.non, hp) := by
  have q0 : ¬ i < 0 := by omega
  have q1 : ¬ (ps.length : Int) ≤ i := by omega
  simp [F_Shelf_check_number, b_Shelf_check_number, runF, sSeq, sSet, sRet, sRetN, sIf, sNil, sDis, disE, sAcc, sApp, eBin, eVar, eC, eB, asB, eAnd, eOr, eNot, eAndV, eOrV, eNotV, eIf, eNeg, aNil, aCons, eTup, eLst, eCall, eBlt, guardM, gN, addD_int, subD_int, gtD_int, ltD_int, leD_int, geD_int, negD_int, pow30, pow21, pow9, eqD_int, neD_int, sDrop, sFldD, sFldA, sAug, sAsg, gSb, putG, eMth, kindG, eFld, getF, setF, onI, onL, onD, mAppend, mInsert, mDPop, mDGet, ixG, lenG, lenF, optM, keyM, dkey, asI, addI, subI, eMeth, eMake, eNewL, eNewD0, eNewD, evP, run_bind, run_map, run_pure, run_fail, run_guard, run_get, run_set, run_new, getSet_self, getSet_ne, getApp_new, eChain, h1, h2, shF_kept, i0, i1, q0, q1]
theorem read_at {i : Nat} {d : DV} (h1 : hp[n]? = some (.ins "Shelf" (shF r k t a b))) (h2 : hp[k]? = some (.lst ps)) (hnk : n ≠ k) (hd : ps[i]? = some d) :
    F_Shelf_read [.ref n, .int i] hp = some (d, hp.set n (.ins "Shelf" (shF r k t (a + 1) b))) := by
  have i1 : i < ps.length := (List.getElem?_eq_some_iff.mp hd).1
  have c := check_at (i := (i : Int)) h1 h2 (by omega) (by omega)
  have hd' := atI_nat hd
  simp [F_Shelf_read, b_Shelf_read, runF, sSeq, sSet, sRet, sRetN, sIf, sNil, sDis, disE, sAcc, sApp, eBin, eVar, eC, eB, asB, eAnd, eOr, eNot, eAndV, eOrV, eNotV, eIf, eNeg, aNil, aCons, eTup, eLst, eCall, eBlt, guardM, gN, addD_int, subD_int, gtD_int, ltD_int, leD_int, geD_int, negD_int, pow30, pow21, pow9, eqD_int, neD_int, sDrop, sFldD, sFldA, sAug, sAsg, gSb, putG, eMth, kindG, eFld, getF, setF, onI, onL, onD, mAppend, mInsert, mDPop, mDGet, ixG, lenG, lenF, optM, keyM, dkey, asI, addI, subI, eMeth, eMake, eNewL, eNewD0, eNewD, evP, run_bind, run_map, run_pure, run_fail, run_guard, run_get, run_set, run_new, getSet_self, getSet_ne, getApp_new, h1, h2, c, shF_kept, shF_r, shF_putr, shF_len, shF_nochk, hd', hnk, hnk.symm]
theorem make_root_at {i : Nat} (h1 : hp[n]? = some (.ins "Shelf" (shF r k t a b))) (h2 : hp[k]? = some (.lst ps)) (i1 : i < ps.length) :
    F_Shelf_make_root [.ref n, .int i] hp = some (.non, hp.set n (.ins "Shelf" (shF r k i a b))) := by
  have c := check_at (i := (i : Int)) h1 h2 (by omega) (by omega)
  simp [F_Shelf_make_root, b_Shelf_make_root, runF, sSeq, sSet, sRet, sRetN, sIf, sNil, sDis, disE, sAcc, sApp, eBin, eVar, eC, eB, asB, eAnd, eOr, eNot, eAndV, eOrV, eNotV, eIf, eNeg, aNil, aCons, eTup, eLst, eCall, eBlt, guardM, gN, addD_int, subD_int, gtD_int, ltD_int, leD_int, geD_int, negD_int, pow30, pow21, pow9, eqD_int, neD_int, sDrop, sFldD, sFldA, sAug, sAsg, gSb, putG, eMth, kindG, eFld, getF, setF, onI, onL, onD, mAppend, mInsert, mDPop, mDGet, ixG, lenG, lenF, optM, keyM, dkey, asI, addI, subI, eMeth, eMake, eNewL, eNewD0, eNewD, evP, run_bind, run_map, run_pure, run_fail, run_guard, run_get, run_set, run_new, getSet_self, getSet_ne, getApp_new, h1, h2, c, shF_kept, shF_putt, shF_len, shF_nochk]
theorem write_at {i : Nat} {d : DV} (h1 : hp[n]? = some (.ins "Shelf" (shF r k t a b))) (h2 : hp[k]? = some (.lst ps)) (hnk : n ≠ k) (i1 : i < ps.length) :
    F_Shelf_write [.ref n, .int i, d] hp = some (.non, (hp.set n (.ins "Shelf" (shF r k t a (b + 1)))).set k (.lst (ps.set i d))) := by
  have c := check_at (i := (i : Int)) h1 h2 (by omega) (by omega)
  simp [F_Shelf_write, b_Shelf_write, runF, sSeq, sSet, sRet, sRetN, sIf, sNil, sDis, disE, sAcc, sApp, eBin, eVar, eC, eB, asB, eAnd, eOr, eNot, eAndV, eOrV, eNotV, eIf, eNeg, aNil, aCons, eTup, eLst, eCall, eBlt, guardM, gN, addD_int, subD_int, gtD_int, ltD_int, leD_int, geD_int, negD_int, pow30, pow21, pow9, eqD_int, neD_int, sDrop, sFldD, sFldA, sAug, sAsg, gSb, putG, eMth, kindG, eFld, getF, setF, onI, onL, onD, mAppend, mInsert, mDPop, mDGet, ixG, lenG, lenF, optM, keyM, dkey, asI, addI, subI, eMeth, eMake, eNewL, eNewD0, eNewD, evP, run_bind, run_map, run_pure, run_fail, run_guard, run_get, run_set, run_new, getSet_self, getSet_ne, getApp_new, h1, h2, c, shF_kept, shF_w, shF_putw, shF_len, shF_nochk, hnk, hnk.symm, ixN_nat i1]
theorem lay_at {pg : DV} (h1 : hp[n]? = some (.ins "Shelf" (shF r k t a b))) (h2 : hp[k]? = some (.lst ps)) (hnk : n ≠ k) (hl : ps.length < 99999) :
    F_Shelf_lay [.ref n, pg] hp = some (.int ps.length, (hp.set n (.ins "Shelf" (shF r k t a (b + 1)))).set k (.lst (ps ++ [pg]))) := by
  have hlim : ps.length < lim := by unfold lim; omega
  simp [F_Shelf_lay, b_Shelf_lay, runF, sSeq, sSet, sRet, sRetN, sIf, sNil, sDis, disE, sAcc, sApp, eBin, eVar, eC, eB, asB, eAnd, eOr, eNot, eAndV, eOrV, eNotV, eIf, eNeg, aNil, aCons, eTup, eLst, eCall, eBlt, guardM, gN, addD_int, subD_int, gtD_int, ltD_int, leD_int, geD_int, negD_int, pow30, pow21, pow9, eqD_int, neD_int, sDrop, sFldD, sFldA, sAug, sAsg, gSb, putG, eMth, kindG, eFld, getF, setF, onI, onL, onD, mAppend, mInsert, mDPop, mDGet, ixG, lenG, lenF, optM, keyM, dkey, asI, addI, subI, eMeth, eMake, eNewL, eNewD0, eNewD, evP, run_bind, run_map, run_pure, run_fail, run_guard, run_get, run_set, run_new, getSet_self, getSet_ne, getApp_new, h1, h2, shF_kept, shF_w, shF_putw, shF_len, hlim, hnk, hnk.symm]
end
def pick (c p m : Int) : Int := (c + p / 3) % p * ((c + p / 3) % p) % p * ((c + p / 3) % p) % p % m
theorem pick_ev (c p m : Int) (h0 : 0 < p) (h1 : p < 1073741824) (hm : 0 < m) : F_law_pick [.int c, .int p, .int m] = pure (.int (pick c p m)) := by
  have l0 : 0 ≤ (c + p / 3) % p := Int.emod_nonneg _ (by omega)
  have l1 : (c + p / 3) % p < p := Int.emod_lt_of_pos _ h0
  have d := divD_pos p 3 (by decide) (by decide)
  have a := modD_pos (c + p / 3) p h0
  have b := mulD_l ((c + p / 3) % p) ((c + p / 3) % p) (by omega) (by omega)
  have e := modD_pos ((c + p / 3) % p * ((c + p / 3) % p)) p h0
  have f := mulD_r ((c + p / 3) % p * ((c + p / 3) % p) % p) ((c + p / 3) % p) (by omega) (by omega)
  have g := modD_pos ((c + p / 3) % p * ((c + p / 3) % p) % p * ((c + p / 3) % p)) p h0
  have h := modD_pos ((c + p / 3) % p * ((c + p / 3) % p) % p * ((c + p / 3) % p) % p) m hm
  simp [F_law_pick, b_law_pick, runF, sSeq, sSet, sRet, eBin, eVar, eC, addD_int, d, a, b, e, f, g, h, pick]
theorem pick_ge (c p m : Int) (h : 0 < m) : 0 ≤ pick c p m := Int.emod_nonneg _ (by omega)
theorem pick_lt (c p m : Int) (h : 0 < m) : pick c p m < m := Int.emod_lt_of_pos _ h
theorem pow40 : powD (.int 10) (.int 40) = pure (.int 10000000000000000000000000000000000000000) := rfl
theorem rng_ints (n : Nat) : rangeL 0 n = ((List.range n).map fun i : Nat => (i : Int)).map DV.int := by
  unfold rangeL
  rw [List.map_map]
  exact List.map_congr_left fun i _ => by show DV.int (0 + (i : Int)) = DV.int (i : Int); rw [Int.zero_add]
theorem compR {f : DAx} {idx : List Nat} {g : DEx} {env : En} {m : Int} {h : Int → Int} (hf : f env = pure [.int m]) (h0 : 0 ≤ m) (h1 : m ≤ 1000) (hg : ∀ x, g (cE idx env (.int x)) = pure (.int (h x))) : ∃ ns : List Int, eComp (iRg1 f) idx tAll g env = pure (.lst (ns.map .int)) := by
  have src : iRg1 f env = pure (((List.range m.toNat).map fun i : Nat => (i : Int)).map DV.int) := by
    simp only [iRg1, hf, pure_bind, rng1, small_ok h0 (by omega : m ≤ 1000000), guardM, if_true]
    rw [rng_ints]
  have e := eComp_ints (idx := idx) (t := tAll) (f := g) (env := env) (p := fun _ => true) (g := h) src (by simp; omega) (fun _ => rfl) hg
  exact ⟨_, e⟩
def pageD (l : Int) (ks ps : List Int) (hi sd : Option Int) : DV := .tup [.int l, .tup (ks.map .int), .tup (ps.map .int), opt hi, opt sd]
def number (c p : Int) : Int := if pick c p 3 = 0 then (c % 10000000000000000000000000000000000000000 * 1000000000039 + p) % 1999999999999999999999999998001 - 1000000000000000000000000000000 + 999 else pick c p 41 - 20
theorem number_ev (c p : Int) (h0 : 0 < p) (h1 : p < 1073741824) : F_law_number [.int c, .int p] = pure (.int (number c p)) := by
  have p3 := pick_ev c p 3 h0 h1 (by decide)
  have p41 := pick_ev c p 41 h0 h1 (by decide)
  have a := modD_pos c 10000000000000000000000000000000000000000 (by decide)
  have b := mulD_r (c % 10000000000000000000000000000000000000000) 1000000000039 (by decide) (by decide)
  have d := mulD_l 2 1000000000000000000000000000000 (by decide) (by decide)
  have e := modD_pos (c % 10000000000000000000000000000000000000000 * 1000000000039 + p) 1999999999999999999999999998001 (by decide)
  have t : eB (eBin eqD (eCall 3 F_law_pick (aCons (eVar 0) (aCons (eVar 1) (aCons (eC (.int 3)) aNil)))) (eC (.int 0))) [.val (.int c), .val (.int p)] = pure (decide (pick c p 3 = 0)) := by
    simp [runF, sSeq, sSet, sRet, sRetN, sIf, sNil, sDis, disE, sAcc, sApp, eBin, eVar, eC, eB, asB, eAnd, eOr, eNot, eAndV, eOrV, eNotV, eIf, eNeg, aNil, aCons, eTup, eLst, eCall, eBlt, guardM, gN, addD_int, subD_int, gtD_int, ltD_int, leD_int, geD_int, negD_int, pow30, pow21, pow9, eqD_int, neD_int, p3]; congr 1
  unfold number
  by_cases h : pick c p 3 = 0
  · rw [if_pos h]
    refine runF_rt (env := [.val (.int c), .val (.int p)]) (sSeq_rt ((sIf_t (t.trans (by rw [decide_eq_true h]))).trans (sRet_eq ?_)))
    simp [runF, sSeq, sSet, sRet, sRetN, sIf, sNil, sDis, disE, sAcc, sApp, eBin, eVar, eC, eB, asB, eAnd, eOr, eNot, eAndV, eOrV, eNotV, eIf, eNeg, aNil, aCons, eTup, eLst, eCall, eBlt, guardM, gN, addD_int, subD_int, gtD_int, ltD_int, leD_int, geD_int, negD_int, pow30, pow21, pow9, eqD_int, neD_int, pow40, a, b, d, e]
  · rw [if_neg h]
    refine runF_rt (env := [.val (.int c), .val (.int p)]) ((sSeq_nx ((sIf_f (t.trans (by rw [decide_eq_false h]))).trans rfl)).trans (sRet_eq ?_))
    simp [runF, sSeq, sSet, sRet, sRetN, sIf, sNil, sDis, disE, sAcc, sApp, eBin, eVar, eC, eB, asB, eAnd, eOr, eNot, eAndV, eOrV, eNotV, eIf, eNeg, aNil, aCons, eTup, eLst, eCall, eBlt, guardM, gN, addD_int, subD_int, gtD_int, ltD_int, leD_int, geD_int, negD_int, pow30, pow21, pow9, eqD_int, neD_int, p41]
theorem page_ev (c room : Int) (h0 : 0 ≤ room) (h1 : room ≤ 100) : ∃ (l : Int) (ks ps : List Int) (hi sd : Option Int), F_law_page [.int c, .int room] = pure (pageD l ks ps hi sd) := by
  have p1 := pick_ev c 10007 5 (by decide) (by decide) (by decide)
  have p2 := number_ev c 10009 (by decide) (by decide)
  have p3 := pick_ev c 10037 (room + 2) (by decide) (by decide) (by omega)
  have p4 := pick_ev c 10069 3 (by decide) (by decide) (by decide)
  have p5 := pick_ev c 10079 9 (by decide) (by decide) (by decide)
  have p6 := pick_ev c 10091 300 (by decide) (by decide) (by decide)
  have r3 := pick_ge c 10037 (room + 2) (by omega)
  have r3' := pick_lt c 10037 (room + 2) (by omega)
  have at5 := atI_int [0, 0, 1, 2, 3] (i := pick c 10007 5) (pick_ge _ _ _ (by decide)) (pick_lt _ _ _ (by decide))
  generalize hlv : ([0, 0, 1, 2, 3] : List Int).getD (pick c 10007 5).toNat 0 = lv at at5
  have L := forL_range0 (b := fun d env => (gN 5 d env >>= fun env' => l_law_page_1 env'))
    (fun i env => ∃ (ks : List Int) (key : Int) (z : Sl), env = [.val (.int c), .val (.int room), .val (.int lv), .val (.int key), .acc (ks.map .int), z, .un] ∧ ks.length = i)
    (pick c 10037 (room + 2)).toNat [.val (.int c), .val (.int room), .val (.int lv), .val (.int (number c 10009)), .acc [], .un, .un] ⟨[], _, .un, rfl, rfl⟩ (fun i hi env ⟨ks, key, z, e, hl⟩ => by
      subst e
      have hlim : ks.length < lim := by rw [hl]; unfold lim; omega
      have q := pick_ev (c + (i : Int)) 10039 5 (by decide) (by decide) (by decide)
      refine ⟨[.val (.int c), .val (.int room), .val (.int lv), .val (.int (key + 1 + pick (c + (i : Int)) 10039 5)), .acc ((ks ++ [key + 1 + pick (c + (i : Int)) 10039 5]).map .int), .val (.int (i : Int)), .un], ?_, _, _, _, rfl, by simp [hl]⟩
      simp [l_law_page_1, runF, sSeq, sSet, sRet, sRetN, sIf, sNil, sDis, disE, sAcc, sApp, eBin, eVar, eC, eB, asB, eAnd, eOr, eNot, eAndV, eOrV, eNotV, eIf, eNeg, aNil, aCons, eTup, eLst, eCall, eBlt, guardM, gN, addD_int, subD_int, gtD_int, ltD_int, leD_int, geD_int, negD_int, pow30, pow21, pow9, eqD_int, neD_int, q, hlim])
  obtain ⟨env', e, ks, key, z, e', hl⟩ := L
  subst e'
  have hl' : (ks.length : Int) = pick c 10037 (room + 2) := by rw [hl]; omega
  have fe : sFor (iRg1 (aCons (eCall 3 F_law_pick (aCons (eVar 0) (aCons (eC (.int 10037)) (aCons (eBin addD (eVar 1) (eC (.int 2))) aNil)))) aNil)) (gN 5) l_law_page_1 [.val (.int c), .val (.int room), .val (.int lv), .val (.int (number c 10009)), .acc [], .un, .un] = pure (.nx, [.val (.int c), .val (.int room), .val (.int lv), .val (.int key), .acc (ks.map .int), z, .un]) :=
    (sFor_range (m := pick c 10037 (room + 2)) (by simp [runF, sSeq, sSet, sRet, sRetN, sIf, sNil, sDis, disE, sAcc, sApp, eBin, eVar, eC, eB, asB, eAnd, eOr, eNot, eAndV, eOrV, eNotV, eIf, eNeg, aNil, aCons, eTup, eLst, eCall, eBlt, guardM, gN, addD_int, subD_int, gtD_int, ltD_int, leD_int, geD_int, negD_int, pow30, pow21, pow9, eqD_int, neD_int, p3]) r3 (by omega)).trans e
  obtain ⟨ps1, c1⟩ := compR (f := aCons (eBin addD (eBlt lenF (aCons (eVar 4) aNil)) (eC (.int 1))) aNil) (idx := [0]) (g := eCall 3 F_law_pick (aCons (eBin addD (eVar 1) (eVar 0)) (aCons (eC (.int 10061)) (aCons (eC (.int 300)) aNil)))) (env := [.val (.int c), .val (.int room), .val (.int lv), .val (.int key), .val (.lst (ks.map .int)), z, .un]) (m := (ks.length : Int) + 1) (h := fun x => pick (c + x) 10061 300)
    (by simp [runF, sSeq, sSet, sRet, sRetN, sIf, sNil, sDis, disE, sAcc, sApp, eBin, eVar, eC, eB, asB, eAnd, eOr, eNot, eAndV, eOrV, eNotV, eIf, eNeg, aNil, aCons, eTup, eLst, eCall, eBlt, guardM, gN, addD_int, subD_int, gtD_int, ltD_int, leD_int, geD_int, negD_int, pow30, pow21, pow9, eqD_int, neD_int, lenF]) (by omega) (by omega) (fun x => by
      have q := pick_ev (c + x) 10061 300 (by decide) (by decide) (by decide)
      simp [cE, capS, runF, sSeq, sSet, sRet, sRetN, sIf, sNil, sDis, disE, sAcc, sApp, eBin, eVar, eC, eB, asB, eAnd, eOr, eNot, eAndV, eOrV, eNotV, eIf, eNeg, aNil, aCons, eTup, eLst, eCall, eBlt, guardM, gN, addD_int, subD_int, gtD_int, ltD_int, leD_int, geD_int, negD_int, pow30, pow21, pow9, eqD_int, neD_int, q])
  obtain ⟨ps2, c2⟩ := compR (f := aCons (eBlt lenF (aCons (eVar 4) aNil)) aNil) (idx := [0]) (g := eCall 2 F_law_number (aCons (eBin addD (eVar 1) (eVar 0)) (aCons (eC (.int 10067)) aNil))) (env := [.val (.int c), .val (.int room), .val (.int lv), .val (.int key), .val (.lst (ks.map .int)), z, .val (.lst (ps1.map .int))]) (m := (ks.length : Int)) (h := fun x => number (c + x) 10067)
    (by simp [runF, sSeq, sSet, sRet, sRetN, sIf, sNil, sDis, disE, sAcc, sApp, eBin, eVar, eC, eB, asB, eAnd, eOr, eNot, eAndV, eOrV, eNotV, eIf, eNeg, aNil, aCons, eTup, eLst, eCall, eBlt, guardM, gN, addD_int, subD_int, gtD_int, ltD_int, leD_int, geD_int, negD_int, pow30, pow21, pow9, eqD_int, neD_int, lenF]) (by omega) (by omega) (fun x => by
      have q := number_ev (c + x) 10067 (by decide) (by decide)
      simp [cE, capS, runF, sSeq, sSet, sRet, sRetN, sIf, sNil, sDis, disE, sAcc, sApp, eBin, eVar, eC, eB, asB, eAnd, eOr, eNot, eAndV, eOrV, eNotV, eIf, eNeg, aNil, aCons, eTup, eLst, eCall, eBlt, guardM, gN, addD_int, subD_int, gtD_int, ltD_int, leD_int, geD_int, negD_int, pow30, pow21, pow9, eqD_int, neD_int, q])
  have a1 : eBin ixD (eLst (aCons (eC (.int 0)) (aCons (eC (.int 0)) (aCons (eC (.int 1)) (aCons (eC (.int 2)) (aCons (eC (.int 3)) aNil)))))) (eCall 3 F_law_pick (aCons (eVar 0) (aCons (eC (.int 10007)) (aCons (eC (.int 5)) aNil)))) [.val (.int c), .val (.int room), .un, .un, .un, .un, .un] = pure (.int lv) :=
    eBin_eq (x := .lst [.int 0, .int 0, .int 1, .int 2, .int 3]) (y := .int (pick c 10007 5)) rfl (eCall3 (x := .int c) (y := .int 10007) (z := .int 5) rfl rfl rfl p1) (ixD_lst at5)
  have fin : ∀ ps : List Int, ∃ hi sd env', (sSeq (sDis 4 (sIf (eB (eBin eqD (eCall 3 F_law_pick (aCons (eVar 0) (aCons (eC (.int 10069)) (aCons (eC (.int 3)) aNil)))) (eC (.int 0)))) (sDis 4 (sRet (eTup (aCons (eVar 2) (aCons (eBlt tupF (aCons (eVar 4) aNil)) (aCons (eBlt tupF (aCons (eVar 6) aNil)) (aCons (eC .non) (aCons (eC .non) aNil)))))))) sNil)) (sDis 4 (sRet (eTup (aCons (eVar 2) (aCons (eBlt tupF (aCons (eVar 4) aNil)) (aCons (eBlt tupF (aCons (eVar 6) aNil)) (aCons (eBin addD (eBin addD (eVar 3) (eC (.int 1))) (eCall 3 F_law_pick (aCons (eVar 0) (aCons (eC (.int 10079)) (aCons (eC (.int 9)) aNil))))) (aCons (eCall 3 F_law_pick (aCons (eVar 0) (aCons (eC (.int 10091)) (aCons (eC (.int 300)) aNil)))) aNil)))))))))
      [.val (.int c), .val (.int room), .val (.int lv), .val (.int key), .val (.lst (ks.map .int)), z, .val (.lst (ps.map .int))] = pure (.rt (pageD lv ks ps hi sd), env') := fun ps => by
    by_cases h : pick c 10069 3 = 0
    · exact ⟨none, none, _, by simp [runF, sSeq, sSet, sRet, sRetN, sIf, sNil, sDis, disE, sAcc, sApp, eBin, eVar, eC, eB, asB, eAnd, eOr, eNot, eAndV, eOrV, eNotV, eIf, eNeg, aNil, aCons, eTup, eLst, eCall, eBlt, guardM, gN, addD_int, subD_int, gtD_int, ltD_int, leD_int, geD_int, negD_int, pow30, pow21, pow9, eqD_int, neD_int, p4, h, pageD, opt, tupF, short]; rfl⟩
    · exact ⟨some (key + 1 + pick c 10079 9), some (pick c 10091 300), _, by simp [runF, sSeq, sSet, sRet, sRetN, sIf, sNil, sDis, disE, sAcc, sApp, eBin, eVar, eC, eB, asB, eAnd, eOr, eNot, eAndV, eOrV, eNotV, eIf, eNeg, aNil, aCons, eTup, eLst, eCall, eBlt, guardM, gN, addD_int, subD_int, gtD_int, ltD_int, leD_int, geD_int, negD_int, pow30, pow21, pow9, eqD_int, neD_int, p4, p5, p6, h, pageD, opt, tupF, short]; rfl⟩
  by_cases hz : lv = 0
  · obtain ⟨hi, sd, env', ef⟩ := fin ps2
    refine ⟨lv, ks, ps2, hi, sd, runF_rt (env := env') ?_⟩
    refine (sSeq_nx (sSet_eq a1)).trans ((sSeq_nx (sSet_eq (d := .int (number c 10009)) (eCall2 (x := .int c) (y := .int 10009) rfl rfl p2))).trans ((sSeq_nx rfl).trans ((sSeq_nx fe).trans ?_)))
    refine (sSeq_nx (env1 := [.val (.int c), .val (.int room), .val (.int lv), .val (.int key), .val (.lst (ks.map .int)), z, .val (.lst (ps1.map .int))]) (sSet_eq (env := [.val (.int c), .val (.int room), .val (.int lv), .val (.int key), .val (.lst (ks.map .int)), z, .un]) c1)).trans ?_
    refine (sSeq_nx (env1 := [.val (.int c), .val (.int room), .val (.int lv), .val (.int key), .val (.lst (ks.map .int)), z, .val (.lst (ps2.map .int))]) ?_).trans ef
    subst hz
    exact (sIf_t (env := [.val (.int c), .val (.int room), .val (.int 0), .val (.int key), .val (.lst (ks.map .int)), z, .val (.lst (ps1.map .int))]) rfl).trans (sSet_eq c2)
  · obtain ⟨hi, sd, env', ef⟩ := fin ps1
    refine ⟨lv, ks, ps1, hi, sd, runF_rt (env := env') ?_⟩
    refine (sSeq_nx (sSet_eq a1)).trans ((sSeq_nx (sSet_eq (d := .int (number c 10009)) (eCall2 (x := .int c) (y := .int 10009) rfl rfl p2))).trans ((sSeq_nx rfl).trans ((sSeq_nx fe).trans ?_)))
    refine (sSeq_nx (env1 := [.val (.int c), .val (.int room), .val (.int lv), .val (.int key), .val (.lst (ks.map .int)), z, .val (.lst (ps1.map .int))]) (sSet_eq (env := [.val (.int c), .val (.int room), .val (.int lv), .val (.int key), .val (.lst (ks.map .int)), z, .un]) c1)).trans ?_
    refine (sSeq_nx (env1 := [.val (.int c), .val (.int room), .val (.int lv), .val (.int key), .val (.lst (ks.map .int)), z, .val (.lst (ps1.map .int))]) ?_).trans ef
    exact (sIf_f (env := [.val (.int c), .val (.int room), .val (.int lv), .val (.int key), .val (.lst (ks.map .int)), z, .val (.lst (ps1.map .int))]) (by
      have q : (lv == 0) = false := by simpa using hz
      simp [runF, sSeq, sSet, sRet, sRetN, sIf, sNil, sDis, disE, sAcc, sApp, eBin, eVar, eC, eB, asB, eAnd, eOr, eNot, eAndV, eOrV, eNotV, eIf, eNeg, aNil, aCons, eTup, eLst, eCall, eBlt, guardM, gN, addD_int, subD_int, gtD_int, ltD_int, leD_int, geD_int, negD_int, pow30, pow21, pow9, eqD_int, neD_int, q])).trans rfl
/-- data that _law_same takes: tuples, whole numbers, None, n deep -/
def SameOk : Nat → DV → Prop
  | _, .int _ => True
  | _, .non => True
  | n + 1, .tup ds => ∀ d ∈ ds, SameOk n d
  | _, _ => False
theorem same_loop (n : Nat) (ih : ∀ d, SameOk n d → F_law_same (n + 1) [d, d] = pure (.bl true)) (D : DV) : ∀ (ds : List DV) (z2 z3 : Sl), (∀ d ∈ ds, SameOk n d) → ∃ y2 y3, forL (fun d env => do let env' ← gT [2, 3] d env; l_law_same_1 (F_law_same (n + 1)) env') (zipL ds ds) [.val D, .val D, z2, z3] = pure (.nx, [.val D, .val D, y2, y3])
  | [], z2, z3, _ => ⟨z2, z3, by simp [zipL, forL]⟩
  | d :: ds, z2, z3, h => by
    obtain ⟨y2, y3, e⟩ := same_loop n ih D ds (.val d) (.val d) fun x hx => h x (List.mem_cons_of_mem _ hx)
    refine ⟨y2, y3, ?_⟩
    have g : gT [2, 3] (.tup [d, d]) [.val D, .val D, z2, z3] = pure [.val D, .val D, .val d, .val d] := rfl
    have b : l_law_same_1 (F_law_same (n + 1)) [.val D, .val D, .val d, .val d] = pure (.nx, [.val D, .val D, .val d, .val d]) :=
      (sIf_f (eNot_eq (b := true) (eB_eq (eCall2 (x := d) (y := d) rfl rfl (ih d (h d (by simp))))))).trans rfl
    simp only [zipL, forL, g, pure_bind, b, e]
theorem same_refl : ∀ (n : Nat) (d : DV), SameOk n d → F_law_same (n + 1) [d, d] = pure (.bl true)
  | n, .int w, _ => by
    refine runF_rt (env := [.val (.int w), .val (.int w), .un, .un]) ?_
    refine (sSeq_nx ((sIf_f rfl).trans rfl)).trans ((sSeq_nx ((sIf_f rfl).trans rfl)).trans (sRet_eq ?_))
    simp [eAndV, eIsi, eNotV, eVar, tyName, isiB, asB, eBin, eqD_int]
  | n, .non, _ => rfl
  | 0, .tup ds, h => h.elim
  | n + 1, .tup ds, h => by
    obtain ⟨y2, y3, e⟩ := same_loop n (same_refl n) (.tup ds) ds .un .un h
    refine runF_rt (env := [.val (.tup ds), .val (.tup ds), y2, y3]) ?_
    refine sSeq_rt ((sIf_t rfl).trans ?_)
    refine (sSeq_nx ((sIf_f ?_).trans rfl)).trans ((sSeq_nx ((sFor_zip (ds := ds) (es := ds) rfl rfl).trans e)).trans (sRet_eq rfl))
    have t2 : eB (eBin neD (eBlt lenF (aCons (eVar 0) aNil)) (eBlt lenF (aCons (eVar 1) aNil))) [.val (.tup ds), .val (.tup ds), .un, .un] = pure false :=
      eB_eq (eBin_eq (x := .int ds.length) (y := .int ds.length) rfl rfl ((neD_int _ _).trans (by simp)))
    have t1 : eNot (eB (eIsi "tuple" (eVar 0))) [.val (.tup ds), .val (.tup ds), .un, .un] = pure false := rfl
    show eOr _ _ [.val (.tup ds), .val (.tup ds), .un, .un] = _
    simp only [eOr, t1, pure_bind, Bool.false_eq_true, if_false, t2]
  | 0, .bl _, h => h.elim
  | _ + 1, .bl _, h => h.elim
  | 0, .str _, h => h.elim
  | _ + 1, .str _, h => h.elim
  | 0, .lst _, h => h.elim
  | _ + 1, .lst _, h => h.elim
  | 0, .ref _, h => h.elim
  | _ + 1, .ref _, h => h.elim
theorem sameOk_ints (n : Nat) (ks : List Int) : SameOk (n + 1) (.tup (ks.map .int)) := fun d hd => by
  obtain ⟨x, _, rfl⟩ := List.mem_map.mp hd
  cases n <;> trivial
theorem sameOk_opt (n : Nat) (o : Option Int) : SameOk n (opt o) := by cases o <;> cases n <;> trivial
theorem sameOk_int (n : Nat) (i : Int) : SameOk n (.int i) := by cases n <;> trivial
theorem sameOk_page (n : Nat) (l : Int) (ks ps : List Int) (hi sd : Option Int) : SameOk (n + 2) (pageD l ks ps hi sd) := by
  intro d hd
  simp only [List.mem_cons, List.not_mem_nil, or_false] at hd
  rcases hd with rfl | rfl | rfl | rfl | rfl
  · exact sameOk_int _ _
  · exact sameOk_ints _ _
  · exact sameOk_ints _ _
  · exact sameOk_opt _ _
  · exact sameOk_opt _ _
def sdK (p : Nat) (r t a b : Int) : List (Key × DV) := [(.inr "pages", .ref p), (.inr "room", .int r), (.inr "root", .int t), (.inr "readings", .int a), (.inr "writings", .int b)]
theorem sdK_pages (p : Nat) (r t a b : Int) : valD (sdK p r t a b) (.inr "pages") = some (.ref p) := by rfl
theorem sdK_room (p : Nat) (r t a b : Int) : valD (sdK p r t a b) (.inr "room") = some (.int r) := by rfl
theorem sdK_root (p : Nat) (r t a b : Int) : valD (sdK p r t a b) (.inr "root") = some (.int t) := by rfl
theorem sdK_r (p : Nat) (r t a b : Int) : valD (sdK p r t a b) (.inr "readings") = some (.int a) := by rfl
theorem sdK_w (p : Nat) (r t a b : Int) : valD (sdK p r t a b) (.inr "writings") = some (.int b) := by rfl
theorem sdK_putt (p : Nat) (r t a b c : Int) : putD (sdK p r t a b) (.inr "root") (.int c) = sdK p r c a b := by rfl
theorem sdK_putr (p : Nat) (r t a b c : Int) : putD (sdK p r t a b) (.inr "readings") (.int c) = sdK p r t c b := by rfl
theorem sdK_putw (p : Nat) (r t a b c : Int) : putD (sdK p r t a b) (.inr "writings") (.int c) = sdK p r t a c := by rfl
theorem sdK_len (p : Nat) (r t a b : Int) : (sdK p r t a b).length = 5 := rfl
structure Two (hp : Hs) (n k m p : Nat) (r t a b : Int) (ps : List DV) : Prop where
  h1 : hp[n]? = some (.ins "Shelf" (shF r k t a b))
  h2 : hp[k]? = some (.lst ps)
  h3 : hp[m]? = some (.dic (sdK p r t a b))
  h4 : hp[p]? = some (.lst ps)
structure Dis (n k m p : Nat) : Prop where
  nk : n ≠ k
  nm : n ≠ m
  np : n ≠ p
  km : k ≠ m
  kp : k ≠ p
  mp : m ≠ p
theorem lim5 : (5 : Nat) < lim := by unfold lim; omega
section
variable {hp : Hs} {n k m p : Nat} {r t a b : Int} {ps : List DV}
theorem counted_at (T : Two hp n k m p r t a b ps) : F_law_counted [.ref n, .ref m] hp = some (.bl true, hp) := by
  obtain ⟨h1, h2, h3, h4⟩ := T
  have s : F_law_same 6 [.tup [.int ps.length, .int r, .int t, .int a, .int b], .tup [.int ps.length, .int r, .int t, .int a, .int b]] = pure (.bl true) := same_refl 5 (.tup [.int ps.length, .int r, .int t, .int a, .int b]) (fun d hd => by
    simp only [List.mem_cons, List.not_mem_nil, or_false] at hd
    rcases hd with rfl | rfl | rfl | rfl | rfl <;> exact sameOk_int _ _)
  have s' := at_of s hp
  have c1 := pages_at h1 h2
  have c2 := room_at h1
  have c3 := root_at h1
  have c4 := readings_at h1
  have c5 := writings_at h1
  simp [F_law_counted, b_law_counted, runF, sSeq, sSet, sRet, sRetN, sIf, sNil, sDis, disE, sAcc, sApp, eBin, eVar, eC, eB, asB, eAnd, eOr, eNot, eAndV, eOrV, eNotV, eIf, eNeg, aNil, aCons, eTup, eLst, eCall, eBlt, guardM, gN, addD_int, subD_int, gtD_int, ltD_int, leD_int, geD_int, negD_int, pow30, pow21, pow9, eqD_int, neD_int, sDrop, sFldD, sFldA, sAug, sAsg, gSb, putG, eMth, kindG, eFld, getF, setF, onI, onL, onD, mAppend, mInsert, mDPop, mDGet, ixG, lenG, lenF, optM, keyM, dkey, asI, addI, subI, eMeth, eMake, eNewL, eNewD0, eNewD, evP, run_bind, run_map, run_pure, run_fail, run_guard, run_get, run_set, run_new, getSet_self, getSet_ne, getApp_new, short, lim, h1, h2, h3, h4, c1, c2, c3, c4, c5, s', shF_nopages, shF_norm, shF_noroot, shF_nord, shF_nowr, sdK_pages, sdK_room, sdK_root, sdK_r, sdK_w]
theorem done_at (T : Two hp n k m p r t a b ps) (D : Dis n k m p) (ok : ∀ d ∈ ps, SameOk 5 d) (l0 : 0 < ps.length) (hl : ps.length < 1000) (r0 : 0 ≤ r) (r1 : r ≤ 100) (c : Int) :
    ∃ hp' t' a' b' ps', F_law_done [.ref n, .ref m, .int c] hp = some (.bl true, hp') ∧ Two hp' n k m p r t' a' b' ps' ∧ (∀ d ∈ ps', SameOk 5 d) ∧ ps'.length ≤ ps.length + 1 ∧ 0 < ps'.length ∧ ∀ i, i ≠ n → i ≠ k → i ≠ m → i ≠ p → hp'[i]? = hp[i]? := by
  obtain ⟨h1, h2, h3, h4⟩ := T
  obtain ⟨nk, nm, np, km, kp, mp⟩ := D
  have hlim : ps.length < lim := by unfold lim; omega
  have p1 := at_of (pick_ev c 10093 ps.length (by decide) (by decide) (by omega))
  have p2 := at_of (pick_ev c 10099 8 (by decide) (by decide) (by decide))
  obtain ⟨j, hj⟩ := nat_of (pick_ge c 10093 ps.length (by omega))
  have hjl : j < ps.length := by have := pick_lt c 10093 ps.length (by omega); omega
  rw [hj] at p1
  obtain ⟨lv, ks, qs, hi, sd, pe⟩ := page_ev c r r0 r1
  have pe' := at_of pe
  have hg : ps[j]? = some ps[j] := List.getElem?_eq_getElem hjl
  have okp : SameOk 5 (pageD lv ks qs hi sd) := sameOk_page 3 lv ks qs hi sd
  have w0 := pick_ge c 10099 8 (by decide)
  generalize hw : pick c 10099 8 = w at p2 w0
  by_cases q1 : w = 0
  · subst q1
    have e1 : (hp.set m (.dic (sdK p r j a b)))[n]? = some (.ins "Shelf" (shF r k t a b)) := by rw [getSet_ne _ _ _ _ nm.symm]; exact h1
    have e2 : (hp.set m (.dic (sdK p r j a b)))[k]? = some (.lst ps) := by rw [getSet_ne _ _ _ _ km.symm]; exact h2
    have c1 := make_root_at e1 e2 hjl
    refine ⟨(hp.set m (.dic (sdK p r j a b))).set n (.ins "Shelf" (shF r k j a b)), j, a, b, ps, ?_, ⟨?_, ?_, ?_, ?_⟩, ok, by omega, l0, fun i i1 i2 i3 i4 => ?_⟩
    · simp [F_law_done, b_law_done, runF, sSeq, sSet, sRet, sRetN, sIf, sNil, sDis, disE, sAcc, sApp, eBin, eVar, eC, eB, asB, eAnd, eOr, eNot, eAndV, eOrV, eNotV, eIf, eNeg, aNil, aCons, eTup, eLst, eCall, eBlt, guardM, gN, addD_int, subD_int, gtD_int, ltD_int, leD_int, geD_int, negD_int, pow30, pow21, pow9, eqD_int, neD_int, sDrop, sFldD, sFldA, sAug, sAsg, gSb, putG, eMth, kindG, eFld, getF, setF, onI, onL, onD, mAppend, mInsert, mDPop, mDGet, ixG, lenG, lenF, optM, keyM, dkey, asI, addI, subI, eMeth, eMake, eNewL, eNewD0, eNewD, evP, run_bind, run_map, run_pure, run_fail, run_guard, run_get, run_set, run_new, getSet_self, getSet_ne, getApp_new, eqG, eqvG_int, h1, h2, h3, h4, p1, p2, c1, e1, e2, shF_nomake, sdK_pages, sdK_len, lim5, sdK_putt, isD_non]
    · simp [getSet_self, getSet_ne, h1, nm.symm]
    · simp [getSet_self, getSet_ne, h2, km.symm, nk]
    · simp [getSet_self, getSet_ne, h3, nm]
    · simp [getSet_self, getSet_ne, h4, np, mp]
    · simp [getSet_ne, i1.symm, i3.symm]
  · have g1 : (w == 0) = false := by simpa using q1
    by_cases q2 : w < 4
    · have s := at_of (same_refl 5 (.int ps.length) (sameOk_int _ _))
      let hpa := (hp.set p (.lst (ps ++ [pageD lv ks qs hi sd]))).set m (.dic (sdK p r t a (b + 1)))
      have e1 : ((hp.set p (.lst (ps ++ [pageD lv ks qs hi sd]))).set m (.dic (sdK p r t a (b + 1))))[n]? = some (.ins "Shelf" (shF r k t a b)) := by rw [getSet_ne _ _ _ _ nm.symm, getSet_ne _ _ _ _ np.symm]; exact h1
      have e2 : ((hp.set p (.lst (ps ++ [pageD lv ks qs hi sd]))).set m (.dic (sdK p r t a (b + 1))))[k]? = some (.lst ps) := by rw [getSet_ne _ _ _ _ km.symm, getSet_ne _ _ _ _ kp.symm]; exact h2
      have c1 := lay_at (pg := pageD lv ks qs hi sd) e1 e2 nk (by omega)
      refine ⟨(((hp.set p (.lst (ps ++ [pageD lv ks qs hi sd]))).set m (.dic (sdK p r t a (b + 1)))).set n (.ins "Shelf" (shF r k t a (b + 1)))).set k (.lst (ps ++ [pageD lv ks qs hi sd])), t, a, b + 1, ps ++ [pageD lv ks qs hi sd], ?_, ⟨?_, ?_, ?_, ?_⟩, fun d hd => ?_, by simp, by simp, fun i i1 i2 i3 i4 => ?_⟩
      · simp [F_law_done, b_law_done, runF, sSeq, sSet, sRet, sRetN, sIf, sNil, sDis, disE, sAcc, sApp, eBin, eVar, eC, eB, asB, eAnd, eOr, eNot, eAndV, eOrV, eNotV, eIf, eNeg, aNil, aCons, eTup, eLst, eCall, eBlt, guardM, gN, addD_int, subD_int, gtD_int, ltD_int, leD_int, geD_int, negD_int, pow30, pow21, pow9, eqD_int, neD_int, sDrop, sFldD, sFldA, sAug, sAsg, gSb, putG, eMth, kindG, eFld, getF, setF, onI, onL, onD, mAppend, mInsert, mDPop, mDGet, ixG, lenG, lenF, optM, keyM, dkey, asI, addI, subI, eMeth, eMake, eNewL, eNewD0, eNewD, evP, run_bind, run_map, run_pure, run_fail, run_guard, run_get, run_set, run_new, getSet_self, getSet_ne, getApp_new, eqG, eqvG_int, h1, h2, h3, h4, p1, p2, pe', g1, q2, hlim, c1, e1, e2, s, shF_nolay, mp, mp.symm, sdK_pages, sdK_room, sdK_w, sdK_len, lim5, sdK_putw]
      · simp [getSet_self, getSet_ne, h1, nm.symm, np.symm, nk.symm]
      · simp [getSet_self, getSet_ne, h2, km.symm, nk, kp.symm]
      · simp [getSet_self, getSet_ne, h3, nm, km, mp.symm]
      · simp [getSet_self, getSet_ne, h4, np, mp, kp]
      · rcases List.mem_append.mp hd with hd | hd
        · exact ok d hd
        · rw [List.mem_singleton.mp hd]; exact okp
      · simp [getSet_ne, i1.symm, i2.symm, i3.symm, i4.symm]
    · by_cases q3 : w < 6
      · have e1 : ((hp.set p (.lst (ps.set j (pageD lv ks qs hi sd)))).set m (.dic (sdK p r t a (b + 1))))[n]? = some (.ins "Shelf" (shF r k t a b)) := by rw [getSet_ne _ _ _ _ nm.symm, getSet_ne _ _ _ _ np.symm]; exact h1
        have e2 : ((hp.set p (.lst (ps.set j (pageD lv ks qs hi sd)))).set m (.dic (sdK p r t a (b + 1))))[k]? = some (.lst ps) := by rw [getSet_ne _ _ _ _ km.symm, getSet_ne _ _ _ _ kp.symm]; exact h2
        have c1 := write_at (d := pageD lv ks qs hi sd) e1 e2 nk hjl
        have ga : atI (ps.set j (pageD lv ks qs hi sd)) (j : Int) = some (pageD lv ks qs hi sd) := atI_nat (by simp [hjl])
        refine ⟨(((hp.set p (.lst (ps.set j (pageD lv ks qs hi sd)))).set m (.dic (sdK p r t a (b + 1)))).set n (.ins "Shelf" (shF r k t a (b + 1)))).set k (.lst (ps.set j (pageD lv ks qs hi sd))), t, a, b + 1, ps.set j (pageD lv ks qs hi sd), ?_, ⟨?_, ?_, ?_, ?_⟩, fun d hd => ?_, by simp, by simpa using l0, fun i i1 i2 i3 i4 => ?_⟩
        · simp [F_law_done, b_law_done, runF, sSeq, sSet, sRet, sRetN, sIf, sNil, sDis, disE, sAcc, sApp, eBin, eVar, eC, eB, asB, eAnd, eOr, eNot, eAndV, eOrV, eNotV, eIf, eNeg, aNil, aCons, eTup, eLst, eCall, eBlt, guardM, gN, addD_int, subD_int, gtD_int, ltD_int, leD_int, geD_int, negD_int, pow30, pow21, pow9, eqD_int, neD_int, sDrop, sFldD, sFldA, sAug, sAsg, gSb, putG, eMth, kindG, eFld, getF, setF, onI, onL, onD, mAppend, mInsert, mDPop, mDGet, ixG, lenG, lenF, optM, keyM, dkey, asI, addI, subI, eMeth, eMake, eNewL, eNewD0, eNewD, evP, run_bind, run_map, run_pure, run_fail, run_guard, run_get, run_set, run_new, getSet_self, getSet_ne, getApp_new, eqG, eqvG_int, h1, h2, h3, h4, p1, p2, pe', g1, q2, q3, hlim, c1, e1, e2, shF_nowrite, mp, mp.symm, sdK_pages, sdK_room, sdK_w, sdK_len, lim5, sdK_putw, ixN_nat hjl, isD_non, ga]
        · simp [getSet_self, getSet_ne, h1, nm.symm, np.symm, nk.symm]
        · simp [getSet_self, getSet_ne, h2, km.symm, nk, kp.symm]
        · simp [getSet_self, getSet_ne, h3, nm, km, mp.symm]
        · simp [getSet_self, getSet_ne, h4, np, mp, kp]
        · rcases List.mem_or_eq_of_mem_set hd with hd | hd
          · exact ok d hd
          · rw [hd]; exact okp
        · simp [getSet_ne, i1.symm, i2.symm, i3.symm, i4.symm]
      · have e1 : (hp.set m (.dic (sdK p r t (a + 1) b)))[n]? = some (.ins "Shelf" (shF r k t a b)) := by rw [getSet_ne _ _ _ _ nm.symm]; exact h1
        have e2 : (hp.set m (.dic (sdK p r t (a + 1) b)))[k]? = some (.lst ps) := by rw [getSet_ne _ _ _ _ km.symm]; exact h2
        have c1 := read_at e1 e2 nk hg
        have s := at_of (same_refl 5 ps[j] (ok _ (List.getElem_mem hjl)))
        have ga := atI_nat hg
        refine ⟨(hp.set m (.dic (sdK p r t (a + 1) b))).set n (.ins "Shelf" (shF r k t (a + 1) b)), t, a + 1, b, ps, ?_, ⟨?_, ?_, ?_, ?_⟩, ok, by omega, l0, fun i i1 i2 i3 i4 => ?_⟩
        · simp [F_law_done, b_law_done, runF, sSeq, sSet, sRet, sRetN, sIf, sNil, sDis, disE, sAcc, sApp, eBin, eVar, eC, eB, asB, eAnd, eOr, eNot, eAndV, eOrV, eNotV, eIf, eNeg, aNil, aCons, eTup, eLst, eCall, eBlt, guardM, gN, addD_int, subD_int, gtD_int, ltD_int, leD_int, geD_int, negD_int, pow30, pow21, pow9, eqD_int, neD_int, sDrop, sFldD, sFldA, sAug, sAsg, gSb, putG, eMth, kindG, eFld, getF, setF, onI, onL, onD, mAppend, mInsert, mDPop, mDGet, ixG, lenG, lenF, optM, keyM, dkey, asI, addI, subI, eMeth, eMake, eNewL, eNewD0, eNewD, evP, run_bind, run_map, run_pure, run_fail, run_guard, run_get, run_set, run_new, getSet_self, getSet_ne, getApp_new, eqG, eqvG_int, h1, h2, h3, h4, p1, p2, g1, q2, q3, c1, e1, e2, s, shF_noread, nm, np, mp, sdK_pages, sdK_r, sdK_len, lim5, sdK_putr, ga]
        · simp [getSet_self, getSet_ne, h1, nm.symm]
        · simp [getSet_self, getSet_ne, h2, km.symm, nk]
        · simp [getSet_self, getSet_ne, h3, nm]
        · simp [getSet_self, getSet_ne, h4, np, mp]
        · simp [getSet_ne, i1.symm, i3.symm]
end
def emp : DV := .tup [.int 0, .tup [], .tup [], .non, .non]
theorem emp_def : DV.tup [.int 0, .tup [], .tup [], .non, .non] = emp := rfl
theorem pf0 (d : DV) : putFD ("page_room" : Str) d [] = [(("page_room" : Str), d)] := by rfl
theorem pf1 (x d : DV) : putFD ("kept" : Str) d [(("page_room" : Str), x)] = [(("page_room" : Str), x), (("kept" : Str), d)] := by rfl
theorem pf2 (x y d : DV) : putFD ("top" : Str) d [(("page_room" : Str), x), (("kept" : Str), y)] = [(("page_room" : Str), x), (("kept" : Str), y), (("top" : Str), d)] := by rfl
theorem pf3 (x y z d : DV) : putFD ("read_count" : Str) d [(("page_room" : Str), x), (("kept" : Str), y), (("top" : Str), z)] = [(("page_room" : Str), x), (("kept" : Str), y), (("top" : Str), z), (("read_count" : Str), d)] := by rfl
theorem pf4 (x y z u d : DV) : putFD ("write_count" : Str) d [(("page_room" : Str), x), (("kept" : Str), y), (("top" : Str), z), (("read_count" : Str), u)] = [(("page_room" : Str), x), (("kept" : Str), y), (("top" : Str), z), (("read_count" : Str), u), (("write_count" : Str), d)] := by rfl
theorem init_at (r : Int) (hp : Hs) : F_Shelf___init__ [.ref hp.length, .int r] (hp ++ [.ins "Shelf" []]) = some (.non, hp ++ [.ins "Shelf" (shF r (hp.length + 1) 0 0 0), .lst [emp]]) := by
  simp [F_Shelf___init__, b_Shelf___init__, runF, sSeq, sSet, sRet, sRetN, sIf, sNil, sDis, disE, sAcc, sApp, eBin, eVar, eC, eB, asB, eAnd, eOr, eNot, eAndV, eOrV, eNotV, eIf, eNeg, aNil, aCons, eTup, eLst, eCall, eBlt, guardM, gN, addD_int, subD_int, gtD_int, ltD_int, leD_int, geD_int, negD_int, pow30, pow21, pow9, eqD_int, neD_int, sDrop, sFldD, sFldA, sAug, sAsg, gSb, putG, eMth, kindG, eFld, getF, setF, onI, onL, onD, mAppend, mInsert, mDPop, mDGet, ixG, lenG, lenF, optM, keyM, dkey, asI, addI, subI, eMeth, eMake, eNewL, eNewD0, eNewD, evP, run_bind, run_map, run_pure, run_fail, run_guard, run_get, run_set, run_new, getSet_self, getSet_ne, getApp_new, getMid, setMid, pf0, pf1, pf2, pf3, pf4, short, lim, shF, emp]
theorem cut_mid (ns : List Int) (a b : Nat) (h : a ≤ b) : D.cutD (ns.map DV.int) (some (a : Int)) (some (b : Int)) = ((ns.drop a).take (b - a)).map .int := by
  unfold D.cutD
  rw [HT.sIx_nat, HT.sIx_nat, List.length_map, ← List.map_drop, ← List.map_take]
  congr 1
  rcases Nat.le_total a ns.length with q | q
  · rw [Nat.min_eq_left q]
    rcases Nat.le_total b ns.length with q2 | q2
    · rw [Nat.min_eq_left q2]
    · rw [Nat.min_eq_right q2, List.take_of_length_le (by simp), List.take_of_length_le (by simp; omega)]
  · rw [Nat.min_eq_right q, List.drop_of_length_le q, List.drop_of_length_le (Nat.le_refl _)]
    simp
theorem cell_ev (ns : List Int) (k : Nat) (hl : ns.length ≤ 63) : ∃ x, F_law_cell_at [.lst (ns.map .int), .int k] = pure (.int x) := by
  by_cases h : k < ns.length
  · have a := atI_nat (xs := ns.map DV.int) (j := k) (v := .int ns[k]) (by simp [h])
    refine ⟨ns[k], ?_⟩
    have h' : (k : Int) < (ns.length : Int) := by omega
    simp [F_law_cell_at, b_law_cell_at, runF, sSeq, sSet, sRet, sRetN, sIf, sNil, sDis, disE, sAcc, sApp, eBin, eVar, eC, eB, asB, eAnd, eOr, eNot, eAndV, eOrV, eNotV, eIf, eNeg, aNil, aCons, eTup, eLst, eCall, eBlt, guardM, gN, addD_int, subD_int, gtD_int, ltD_int, leD_int, geD_int, negD_int, pow30, pow21, pow9, eqD_int, neD_int, lenF, ixD, asI, a, h']
  · have h' : ¬ (k : Int) < (ns.length : Int) := by omega
    exact ⟨0, by simp [F_law_cell_at, b_law_cell_at, runF, sSeq, sSet, sRet, sRetN, sIf, sNil, sDis, disE, sAcc, sApp, eBin, eVar, eC, eB, asB, eAnd, eOr, eNot, eAndV, eOrV, eNotV, eIf, eNeg, aNil, aCons, eTup, eLst, eCall, eBlt, guardM, gN, addD_int, subD_int, gtD_int, ltD_int, leD_int, geD_int, negD_int, pow30, pow21, pow9, eqD_int, neD_int, lenF, h']⟩
theorem stays_turn {hp : Hs} {n k m p : Nat} {r t a b r' t' a' b' : Int} {ps : List DV} (D : Dis n k m p) (h1 : hp[n]? = some (.ins "Shelf" (shF r k t a b))) (h2 : hp[k]? = some (.lst ps)) (h3 : hp[m]? = some (.dic (sdK p r' t' a' b'))) (h4 : hp[p]? = some (.lst ps)) (ok : ∀ d ∈ ps, SameOk 5 d) {i : Nat} (hi : i < ps.length) :
    l_law_stays_1 [.val (.ref n), .val (.ref m), .val (.int i)] hp = some ((.nx, [.val (.ref n), .val (.ref m), .val (.int i)]), hp.set n (.ins "Shelf" (shF r k t (a + 1) b))) := by
  obtain ⟨nk, nm, np, km, kp, mp⟩ := D
  have hg : ps[i]? = some ps[i] := List.getElem?_eq_getElem hi
  have ga := atI_nat hg
  have c := read_at h1 h2 nk hg
  have s := at_of (same_refl 5 ps[i] (ok _ (List.getElem_mem hi)))
  simp [l_law_stays_1, runF, sSeq, sSet, sRet, sRetN, sIf, sNil, sDis, disE, sAcc, sApp, eBin, eVar, eC, eB, asB, eAnd, eOr, eNot, eAndV, eOrV, eNotV, eIf, eNeg, aNil, aCons, eTup, eLst, eCall, eBlt, guardM, gN, addD_int, subD_int, gtD_int, ltD_int, leD_int, geD_int, negD_int, pow30, pow21, pow9, eqD_int, neD_int, sDrop, sFldD, sFldA, sAug, sAsg, gSb, putG, eMth, kindG, eFld, getF, setF, onI, onL, onD, mAppend, mInsert, mDPop, mDGet, ixG, lenG, lenF, optM, keyM, dkey, asI, addI, subI, eMeth, eMake, eNewL, eNewD0, eNewD, evP, run_bind, run_map, run_pure, run_fail, run_guard, run_get, run_set, run_new, getSet_self, getSet_ne, getApp_new, c, h1, shF_noread, nm, np, h3, h4, sdK_pages, ga, s]
theorem stays_loop {hp : Hs} {n k m p : Nat} {r t a b r' t' a' b' : Int} {ps : List DV} (D : Dis n k m p) (h1 : hp[n]? = some (.ins "Shelf" (shF r k t a b))) (h2 : hp[k]? = some (.lst ps)) (h3 : hp[m]? = some (.dic (sdK p r' t' a' b'))) (h4 : hp[p]? = some (.lst ps)) (ok : ∀ d ∈ ps, SameOk 5 d) :
    WP (forL (fun d env => do let env' ← gN 2 d env; l_law_stays_1 env') (rangeL 0 ps.length) [.val (.ref n), .val (.ref m), .un]) hp fun q w => ∃ z, q = (.nx, [.val (.ref n), .val (.ref m), z]) ∧ w = hp.set n (.ins "Shelf" (shF r k t (a + ps.length) b)) := by
  refine WP_forL (fun i env w => ∃ z, env = [.val (.ref n), .val (.ref m), z] ∧ w = hp.set n (.ins "Shelf" (shF r k t (a + i) b))) _ ⟨.un, rfl, ?_⟩ (fun i d hd env w ⟨z, e, ew⟩ => ?_) (fun env w ⟨z, e, ew⟩ => ⟨z, by rw [e], by rw [ew, rangeL_len]⟩)
  · rw [show a + ((0 : Nat) : Int) = a by simp]
    exact (setSame h1).symm
  · subst e ew
    obtain ⟨hi, hd'⟩ := rng_get hd
    subst hd'
    have T := stays_turn (hp := hp.set n (.ins "Shelf" (shF r k t (a + i) b))) D (getSet_self _ _ _ (by rw [h1]; rfl)) ((getSet_ne _ _ _ _ D.nk).trans h2) ((getSet_ne _ _ _ _ D.nm).trans h3) ((getSet_ne _ _ _ _ D.np).trans h4) ok hi
    refine ⟨_, _, T, ⟨_, rfl, ?_⟩⟩
    rw [List.set_set, show a + (i : Int) + 1 = a + ((i + 1 : Nat) : Int) by omega]
theorem stays_at {hp : Hs} {n k m p : Nat} {r t a b r' t' a' b' : Int} {ps : List DV} (D : Dis n k m p) (h1 : hp[n]? = some (.ins "Shelf" (shF r k t a b))) (h2 : hp[k]? = some (.lst ps)) (h3 : hp[m]? = some (.dic (sdK p r' t' a' b'))) (h4 : hp[p]? = some (.lst ps)) (ok : ∀ d ∈ ps, SameOk 5 d) (hl : ps.length < 1000) :
    ∃ a'', F_law_stays [.ref n, .ref m] hp = some (.bl true, hp.set n (.ins "Shelf" (shF r k t a'' b))) := by
  obtain ⟨q, w, e, z, rfl, rfl⟩ := stays_loop D h1 h2 h3 h4 ok
  have L : L_law_stays_1 [.val (.ref n), .val (.ref m), .un] hp = some ((.nx, [.val (.ref n), .val (.ref m), z]), hp.set n (.ins "Shelf" (shF r k t (a + ps.length) b))) := sFor_data (iRg1_at (m := ps.length) (by simp [runF, sSeq, sSet, sRet, sRetN, sIf, sNil, sDis, disE, sAcc, sApp, eBin, eVar, eC, eB, asB, eAnd, eOr, eNot, eAndV, eOrV, eNotV, eIf, eNeg, aNil, aCons, eTup, eLst, eCall, eBlt, guardM, gN, addD_int, subD_int, gtD_int, ltD_int, leD_int, geD_int, negD_int, pow30, pow21, pow9, eqD_int, neD_int, sDrop, sFldD, sFldA, sAug, sAsg, gSb, putG, eMth, kindG, eFld, getF, setF, onI, onL, onD, mAppend, mInsert, mDPop, mDGet, ixG, lenG, lenF, optM, keyM, dkey, asI, addI, subI, eMeth, eMake, eNewL, eNewD0, eNewD, evP, run_bind, run_map, run_pure, run_fail, run_guard, run_get, run_set, run_new, getSet_self, getSet_ne, getApp_new, h3, h4, sdK_pages]) (by omega)) e
  exact ⟨a + ps.length, by simp [F_law_stays, b_law_stays, runF, sSeq, sSet, sRet, sRetN, sIf, sNil, sDis, disE, sAcc, sApp, eBin, eVar, eC, eB, asB, eAnd, eOr, eNot, eAndV, eOrV, eNotV, eIf, eNeg, aNil, aCons, eTup, eLst, eCall, eBlt, guardM, gN, addD_int, subD_int, gtD_int, ltD_int, leD_int, geD_int, negD_int, pow30, pow21, pow9, eqD_int, neD_int, sDrop, sFldD, sFldA, sAug, sAsg, gSb, putG, eMth, kindG, eFld, getF, setF, onI, onL, onD, mAppend, mInsert, mDPop, mDGet, ixG, lenG, lenF, optM, keyM, dkey, asI, addI, subI, eMeth, eMake, eNewL, eNewD0, eNewD, evP, run_bind, run_map, run_pure, run_fail, run_guard, run_get, run_set, run_new, getSet_self, getSet_ne, getApp_new, L]⟩
theorem at2a (x y : DV) : atI [x, y] 0 = some x := rfl
theorem at2b (x y : DV) : atI [x, y] 1 = some y := rfl
theorem mg5 (p : Nat) (r : Int) : mergeD [] [(.inr "pages", .ref p), (.inr "room", .int r), (.inr "root", .int 0), (.inr "readings", .int 0), (.inr "writings", .int 0)] = sdK p r 0 0 0 := by rfl
theorem law_true (ns : List Int) (h : ns.length ≤ 63) : ∃ hp, F_law [.lst (ns.map .int)] [] = some (.bl true, hp) := by
  obtain ⟨x0, c0⟩ := cell_ev ns 0 h
  obtain ⟨x1, c1⟩ := cell_ev ns 1 h
  have p0 := at_of (pick_ev x0 10103 7 (by decide) (by decide) (by decide))
  have p1 := at_of (pick_ev x1 10103 7 (by decide) (by decide) (by decide))
  have g0 := pick_ge x0 10103 7 (by decide)
  have g1 := pick_ge x1 10103 7 (by decide)
  have l0 := pick_lt x0 10103 7 (by decide)
  have l1 := pick_lt x1 10103 7 (by decide)
  generalize pick x0 10103 7 = r0 at p0 g0 l0
  generalize pick x1 10103 7 = r1 at p1 g1 l1
  have c0' := at_of c0
  have c1' := at_of c1
  simp only [Int.natCast_zero, Int.natCast_one] at c0' c1'
  have mk : ∀ (r : Int) (hp : Hs), _ := init_at
  let w0 : Hs := [.lst [.ref 2, .ref 6], .lst [.ref 5, .ref 9], .ins "Shelf" (shF (2 + r0) 3 0 0 0), .lst [emp], .lst [emp], .dic (sdK 4 (2 + r0) 0 0 0), .ins "Shelf" (shF (2 + r1) 7 0 0 0), .lst [emp], .lst [emp], .dic (sdK 8 (2 + r1) 0 0 0)]
  have I : L_law_2 [.val (.lst (ns.map .int)), .val (.ref 0), .val (.ref 1), .un, .un, .un, .un] [.lst [], .lst []] = some ((.nx, [.val (.lst (ns.map .int)), .val (.ref 0), .val (.ref 1), .val (.int 1), .un, .val (.int (2 + r1)), .un]), w0) := by
    have i0 := init_at (2 + r0) [.lst [], .lst []]
    have i1 := init_at (2 + r1) [.lst [.ref 2], .lst [.ref 5], .ins "Shelf" (shF (2 + r0) 3 0 0 0), .lst [emp], .lst [emp], .dic (sdK 4 (2 + r0) 0 0 0)]
    simp only [List.length_cons, List.length_nil, List.cons_append, List.nil_append, Nat.reduceAdd] at i0 i1
    have t0 : (gN 3 (.int 0) [.val (.lst (ns.map .int)), .val (.ref 0), .val (.ref 1), .un, .un, .un, .un] >>= l_law_2) [.lst [], .lst []] = some ((.nx, [.val (.lst (ns.map .int)), .val (.ref 0), .val (.ref 1), .val (.int 0), .un, .val (.int (2 + r0)), .un]), [.lst [.ref 2], .lst [.ref 5], .ins "Shelf" (shF (2 + r0) 3 0 0 0), .lst [emp], .lst [emp], .dic (sdK 4 (2 + r0) 0 0 0)]) := by
      simp [l_law_2, runF, sSeq, sSet, sRet, sRetN, sIf, sNil, sDis, disE, sAcc, sApp, eBin, eVar, eC, eB, asB, eAnd, eOr, eNot, eAndV, eOrV, eNotV, eIf, eNeg, aNil, aCons, eTup, eLst, eCall, eBlt, guardM, gN, addD_int, subD_int, gtD_int, ltD_int, leD_int, geD_int, negD_int, pow30, pow21, pow9, eqD_int, neD_int, sDrop, sFldD, sFldA, sAug, sAsg, gSb, putG, eMth, kindG, eFld, getF, setF, onI, onL, onD, mAppend, mInsert, mDPop, mDGet, ixG, lenG, lenF, optM, keyM, dkey, asI, addI, subI, eMeth, eMake, eNewL, eNewD0, eNewD, evP, run_bind, run_map, run_pure, run_fail, run_guard, run_get, run_set, run_new, getSet_self, getSet_ne, getApp_new, c0', p0, i0, lim, short, emp_def, mg5]
    have t1 : (gN 3 (.int 1) [.val (.lst (ns.map .int)), .val (.ref 0), .val (.ref 1), .val (.int 0), .un, .val (.int (2 + r0)), .un] >>= l_law_2) [.lst [.ref 2], .lst [.ref 5], .ins "Shelf" (shF (2 + r0) 3 0 0 0), .lst [emp], .lst [emp], .dic (sdK 4 (2 + r0) 0 0 0)] = some ((.nx, [.val (.lst (ns.map .int)), .val (.ref 0), .val (.ref 1), .val (.int 1), .un, .val (.int (2 + r1)), .un]), w0) := by
      simp [l_law_2, runF, sSeq, sSet, sRet, sRetN, sIf, sNil, sDis, disE, sAcc, sApp, eBin, eVar, eC, eB, asB, eAnd, eOr, eNot, eAndV, eOrV, eNotV, eIf, eNeg, aNil, aCons, eTup, eLst, eCall, eBlt, guardM, gN, addD_int, subD_int, gtD_int, ltD_int, leD_int, geD_int, negD_int, pow30, pow21, pow9, eqD_int, neD_int, sDrop, sFldD, sFldA, sAug, sAsg, gSb, putG, eMth, kindG, eFld, getF, setF, onI, onL, onD, mAppend, mInsert, mDPop, mDGet, ixG, lenG, lenF, optM, keyM, dkey, asI, addI, subI, eMeth, eMake, eNewL, eNewD0, eNewD, evP, run_bind, run_map, run_pure, run_fail, run_guard, run_get, run_set, run_new, getSet_self, getSet_ne, getApp_new, c1', p1, i1, lim, short, emp_def, mg5, w0]
    refine sFor_data (hp1 := [.lst [], .lst []]) (ds := [.int 0, .int 1]) rfl ?_
    exact (forL_nx t0).trans ((forL_nx t1).trans forL_end)
  have d1 : Dis 2 3 5 4 := ⟨by decide, by decide, by decide, by decide, by decide, by decide⟩
  have d2 : Dis 6 7 9 8 := ⟨by decide, by decide, by decide, by decide, by decide, by decide⟩
  have oke : ∀ d ∈ [emp], SameOk 5 d := fun d hd => by rw [List.mem_singleton.mp hd]; exact sameOk_page 3 0 [] [] none none
  have cw : ∀ {hp n k m p r t a b ps}, Two hp n k m p r t a b ps → _ := @counted_at
  let Inv : Nat → En → Hs → Prop := fun i env w => ∃ z3 z4 z5 z6 t a b ps t' a' b' ps', env = [.val (.lst (ns.map .int)), .val (.ref 0), .val (.ref 1), z3, z4, z5, z6] ∧ w[0]? = some (.lst [.ref 2, .ref 6]) ∧ w[1]? = some (.lst [.ref 5, .ref 9]) ∧ Two w 2 3 5 4 (2 + r0) t a b ps ∧ Two w 6 7 9 8 (2 + r1) t' a' b' ps' ∧ (∀ d ∈ ps, SameOk 5 d) ∧ (∀ d ∈ ps', SameOk 5 d) ∧ ps.length ≤ i + 1 ∧ ps'.length ≤ i + 1 ∧ 0 < ps.length ∧ 0 < ps'.length
  have hc : D.cutD (ns.map DV.int) (some 2) (some 122) = (ns.drop 2).map .int := by
    have q : D.cutD (ns.map DV.int) (some 2) (some 122) = ((ns.drop 2).take 120).map .int := cut_mid ns 2 122 (by decide)
    rw [q, List.take_of_length_le (by simp; omega)]
  have M : WP (forX (nxD ((ns.drop 2).map .int)) (fun d env => gN 4 d env >>= fun env' => l_law_1 env') 100000 0 [.val (.lst (ns.map .int)), .val (.ref 0), .val (.ref 1), .val (.int 1), .un, .val (.int (2 + r1)), .un]) w0 fun r w => r.1 = .nx ∧ Inv 63 r.2 w := by
    refine WP_forXD _ Inv (by simp; omega) ⟨_, _, _, _, 0, 0, 0, [emp], 0, 0, 0, [emp], rfl, rfl, rfl, ⟨rfl, rfl, rfl, rfl⟩, ⟨rfl, rfl, rfl, rfl⟩, oke, oke, by simp, by simp, by simp, by simp⟩ (fun i d hd env w ⟨z3, z4, z5, z6, t, a, b, ps, t', a', b', ps', e, e0, e1, T1, T2, o1, o2, l1, l2, k1, k2⟩ => ?_) (fun env w ⟨z3, z4, z5, z6, t, a, b, ps, t', a', b', ps', e, e0, e1, T1, T2, o1, o2, l1, l2, k1, k2⟩ => ⟨rfl, z3, z4, z5, z6, t, a, b, ps, t', a', b', ps', e, e0, e1, T1, T2, o1, o2, by simp at l1; omega, by simp at l2; omega, k1, k2⟩)
    subst e
    have hi : i < 63 := by have := (List.getElem?_eq_some_iff.mp hd).1; simp at this; omega
    obtain ⟨c, _, rfl⟩ := List.mem_map.mp (List.mem_of_getElem? hd)
    have pw := at_of (pick_ev c 10111 2 (by decide) (by decide) (by decide))
    have gw := pick_ge c 10111 2 (by decide)
    have lw := pick_lt c 10111 2 (by decide)
    rcases (by omega : pick c 10111 2 = 0 ∨ pick c 10111 2 = 1) with q | q
    · rw [q] at pw
      obtain ⟨hp', t2, a2, b2, ps2, e2, T, o, n1, n2, fr⟩ := done_at T1 d1 o1 k1 (by omega) (by omega) (by omega) c
      have f0 : hp'[0]? = some (.lst [.ref 2, .ref 6]) := (fr 0 (by decide) (by decide) (by decide) (by decide)).trans e0
      have f1 : hp'[1]? = some (.lst [.ref 5, .ref 9]) := (fr 1 (by decide) (by decide) (by decide) (by decide)).trans e1
      have T' : Two hp' 6 7 9 8 (2 + r1) t' a' b' ps' := ⟨(fr 6 (by decide) (by decide) (by decide) (by decide)).trans T2.h1, (fr 7 (by decide) (by decide) (by decide) (by decide)).trans T2.h2, (fr 9 (by decide) (by decide) (by decide) (by decide)).trans T2.h3, (fr 8 (by decide) (by decide) (by decide) (by decide)).trans T2.h4⟩
      have u1 := counted_at T
      have u2 := counted_at T'
      refine ⟨(.nx, [.val (.lst (ns.map .int)), .val (.ref 0), .val (.ref 1), z3, .val (.int c), z5, .val (.int 0)]), hp', ?_, z3, _, z5, _, t2, a2, b2, ps2, t', a', b', ps', rfl, f0, f1, T, T', o, o2, by omega, by omega, n2, k2⟩
      simp [l_law_1, runF, sSeq, sSet, sRet, sRetN, sIf, sNil, sDis, disE, sAcc, sApp, eBin, eVar, eC, eB, asB, eAnd, eOr, eNot, eAndV, eOrV, eNotV, eIf, eNeg, aNil, aCons, eTup, eLst, eCall, eBlt, guardM, gN, addD_int, subD_int, gtD_int, ltD_int, leD_int, geD_int, negD_int, pow30, pow21, pow9, eqD_int, neD_int, sDrop, sFldD, sFldA, sAug, sAsg, gSb, putG, eMth, kindG, eFld, getF, setF, onI, onL, onD, mAppend, mInsert, mDPop, mDGet, ixG, lenG, lenF, optM, keyM, dkey, asI, addI, subI, eMeth, eMake, eNewL, eNewD0, eNewD, evP, run_bind, run_map, run_pure, run_fail, run_guard, run_get, run_set, run_new, getSet_self, getSet_ne, getApp_new, pw, e0, e1, e2, f0, f1, u1, u2, at2a, at2b]
    · rw [q] at pw
      obtain ⟨hp', t2, a2, b2, ps2, e2, T, o, n1, n2, fr⟩ := done_at T2 d2 o2 k2 (by omega) (by omega) (by omega) c
      have f0 : hp'[0]? = some (.lst [.ref 2, .ref 6]) := (fr 0 (by decide) (by decide) (by decide) (by decide)).trans e0
      have f1 : hp'[1]? = some (.lst [.ref 5, .ref 9]) := (fr 1 (by decide) (by decide) (by decide) (by decide)).trans e1
      have T' : Two hp' 2 3 5 4 (2 + r0) t a b ps := ⟨(fr 2 (by decide) (by decide) (by decide) (by decide)).trans T1.h1, (fr 3 (by decide) (by decide) (by decide) (by decide)).trans T1.h2, (fr 5 (by decide) (by decide) (by decide) (by decide)).trans T1.h3, (fr 4 (by decide) (by decide) (by decide) (by decide)).trans T1.h4⟩
      have u1 := counted_at T
      have u2 := counted_at T'
      refine ⟨(.nx, [.val (.lst (ns.map .int)), .val (.ref 0), .val (.ref 1), z3, .val (.int c), z5, .val (.int 1)]), hp', ?_, z3, _, z5, _, t, a, b, ps, t2, a2, b2, ps2, rfl, f0, f1, T', T, o1, o, by omega, by omega, k1, n2⟩
      simp [l_law_1, runF, sSeq, sSet, sRet, sRetN, sIf, sNil, sDis, disE, sAcc, sApp, eBin, eVar, eC, eB, asB, eAnd, eOr, eNot, eAndV, eOrV, eNotV, eIf, eNeg, aNil, aCons, eTup, eLst, eCall, eBlt, guardM, gN, addD_int, subD_int, gtD_int, ltD_int, leD_int, geD_int, negD_int, pow30, pow21, pow9, eqD_int, neD_int, sDrop, sFldD, sFldA, sAug, sAsg, gSb, putG, eMth, kindG, eFld, getF, setF, onI, onL, onD, mAppend, mInsert, mDPop, mDGet, ixG, lenG, lenF, optM, keyM, dkey, asI, addI, subI, eMeth, eMake, eNewL, eNewD0, eNewD, evP, run_bind, run_map, run_pure, run_fail, run_guard, run_get, run_set, run_new, getSet_self, getSet_ne, getApp_new, pw, e0, e1, e2, f0, f1, u1, u2, at2a, at2b]
  obtain ⟨⟨fl, env⟩, w, eM, hfl, z3, z4, z5, z6, t, a, b, ps, t', a', b', ps', e, e0, e1, T1, T2, o1, o2, l1, l2, k1, k2⟩ := M
  simp only at hfl e
  subst hfl e
  have LM : L_law_1 [.val (.lst (ns.map .int)), .val (.ref 0), .val (.ref 1), .val (.int 1), .un, .val (.int (2 + r1)), .un] w0 = some ((.nx, [.val (.lst (ns.map .int)), .val (.ref 0), .val (.ref 1), z3, z4, z5, z6]), w) := by
    refine sForX_data (ds := (ns.drop 2).map .int) (hp1 := w0) ?_ eM
    simp [xLs, eSl, oSome, slD, hc, runF, sSeq, sSet, sRet, sRetN, sIf, sNil, sDis, disE, sAcc, sApp, eBin, eVar, eC, eB, asB, eAnd, eOr, eNot, eAndV, eOrV, eNotV, eIf, eNeg, aNil, aCons, eTup, eLst, eCall, eBlt, guardM, gN, addD_int, subD_int, gtD_int, ltD_int, leD_int, geD_int, negD_int, pow30, pow21, pow9, eqD_int, neD_int, sDrop, sFldD, sFldA, sAug, sAsg, gSb, putG, eMth, kindG, eFld, getF, setF, onI, onL, onD, mAppend, mInsert, mDPop, mDGet, ixG, lenG, lenF, optM, keyM, dkey, asI, addI, subI, eMeth, eMake, eNewL, eNewD0, eNewD, evP, run_bind, run_map, run_pure, run_fail, run_guard, run_get, run_set, run_new, getSet_self, getSet_ne, getApp_new]
  have u1 := counted_at (hp := w0) (n := 2) (k := 3) (m := 5) (p := 4) (r := 2 + r0) (t := 0) (a := 0) (b := 0) (ps := [emp]) ⟨rfl, rfl, rfl, rfl⟩
  have u2 := counted_at (hp := w0) (n := 6) (k := 7) (m := 9) (p := 8) (r := 2 + r1) (t := 0) (a := 0) (b := 0) (ps := [emp]) ⟨rfl, rfl, rfl, rfl⟩
  obtain ⟨a1, s1⟩ := stays_at d1 T1.h1 T1.h2 T1.h3 T1.h4 o1 (by omega)
  have m0 : (w.set 2 (.ins "Shelf" (shF (2 + r0) 3 t a1 b)))[0]? = some (.lst [.ref 2, .ref 6]) := (getSet_ne _ _ _ _ (by decide)).trans e0
  have m1 : (w.set 2 (.ins "Shelf" (shF (2 + r0) 3 t a1 b)))[1]? = some (.lst [.ref 5, .ref 9]) := (getSet_ne _ _ _ _ (by decide)).trans e1
  obtain ⟨a2, s2⟩ := stays_at (hp := w.set 2 (.ins "Shelf" (shF (2 + r0) 3 t a1 b))) d2 ((getSet_ne _ _ _ _ (by decide)).trans T2.h1) ((getSet_ne _ _ _ _ (by decide)).trans T2.h2) ((getSet_ne _ _ _ _ (by decide)).trans T2.h3) ((getSet_ne _ _ _ _ (by decide)).trans T2.h4) o2 (by omega)
  have x0 : w0[0]? = some (.lst [.ref 2, .ref 6]) := rfl
  have x1 : w0[1]? = some (.lst [.ref 5, .ref 9]) := rfl
  refine ⟨(w.set 2 (.ins "Shelf" (shF (2 + r0) 3 t a1 b))).set 6 (.ins "Shelf" (shF (2 + r1) 7 t' a2 b')), ?_⟩
  simp [F_law, b_law, runF, sSeq, sSet, sRet, sRetN, sIf, sNil, sDis, disE, sAcc, sApp, eBin, eVar, eC, eB, asB, eAnd, eOr, eNot, eAndV, eOrV, eNotV, eIf, eNeg, aNil, aCons, eTup, eLst, eCall, eBlt, guardM, gN, addD_int, subD_int, gtD_int, ltD_int, leD_int, geD_int, negD_int, pow30, pow21, pow9, eqD_int, neD_int, sDrop, sFldD, sFldA, sAug, sAsg, gSb, putG, eMth, kindG, eFld, getF, setF, onI, onL, onD, mAppend, mInsert, mDPop, mDGet, ixG, lenG, lenF, optM, keyM, dkey, asI, addI, subI, eMeth, eMake, eNewL, eNewD0, eNewD, evP, run_bind, run_map, run_pure, run_fail, run_guard, run_get, run_set, run_new, getSet_self, getSet_ne, getApp_new, I, LM, u1, u2, s1, s2, e0, e1, m0, m1, x0, x1, short, lim, at2a, at2b]

theorem all_mk {P : Program} {w : World} {K : PySem.W.Frag} {h : Heap} {mg : Str → Option Value} {fa f0 f1 f2 f3 f4 f5 f6 f7 f8 f9 f10 f11 f12 f13 f14 f15 f16 f17 f18 f19 C_Shelf : Addr} (X : K.In h) (G : h.Ns mainGlobals mg) (hfa : mg "law" = some (.ref fa))
    {od0 an0 od1 an1 od2 an2 od3 an3 od4 an4 od5 an5 od6 an6 od7 an7 od8 an8 od9 an9 od10 an10 od11 an11 od12 an12 od13 an13 od14 an14 od15 an15 od16 an16 od17 an17 od18 an18 od19 an19 : Option Addr} {sl0 sl1 sl2 sl3 sl4 sl5 sl6 sl7 sl8 sl9 sl10 sl11 sl12 sl13 sl14 sl15 sl16 sl17 sl18 sl19 : Array (Option Value)} {oc0 kV0 dc0 pm0 cd0 ct0 oc1 kV1 dc1 pm1 cd1 ct1 oc2 kV2 dc2 pm2 cd2 ct2 oc3 kV3 dc3 pm3 cd3 ct3 oc4 kV4 dc4 pm4 cd4 ct4 oc5 kV5 dc5 pm5 cd5 ct5 oc6 kV6 dc6 pm6 cd6 ct6 oc7 kV7 dc7 pm7 cd7 ct7 oc8 kV8 dc8 pm8 cd8 ct8 oc9 kV9 dc9 pm9 cd9 ct9 oc10 kV10 dc10 pm10 cd10 ct10 oc11 kV11 dc11 pm11 cd11 ct11 oc12 kV12 dc12 pm12 cd12 ct12 oc13 kV13 dc13 pm13 cd13 ct13 oc14 kV14 dc14 pm14 cd14 ct14 oc15 kV15 dc15 pm15 cd15 ct15 oc16 kV16 dc16 pm16 cd16 ct16 oc17 kV17 dc17 pm17 cd17 ct17 oc18 kV18 dc18 pm18 cd18 ct18 oc19 kV19 dc19 pm19 cd19 ct19 : Value}
    {ta_EMPTY_LEAF_1 ta_EMPTY_LEAF_2 ta_EMPTY_LEAF_0 : Addr} {td_EMPTY_LEAF_1 td_EMPTY_LEAF_2 td_EMPTY_LEAF_0 : Option Addr} {tn_EMPTY_LEAF_1 tn_EMPTY_LEAF_2 tn_EMPTY_LEAF_0 : Nat} {ts_EMPTY_LEAF_1 ts_EMPTY_LEAF_2 ts_EMPTY_LEAF_0 : Array (Option Value)} {tt1 : Tok}
    (aC_Shelf : PySem.W.nsIn K mainGlobals "Shelf" = some (some (.ref C_Shelf)))
    (a0 : PySem.W.findIn K (.ref C_Shelf) "check_number" = some (some (.ref f0))) (i0 : PySem.W.isFn K (.ref f0) = true) (l0 : K.lookup f0 = some ⟨oc0, od0, .func (PySem.W.fnOf "check_number" "Shelf.check_number" (defArgs s_Shelf_check_number) (defBody s_Shelf_check_number) (defScope s_Shelf_check_number) .none kV0 dc0 pm0 an0 cd0 ct0), sl0⟩) (c0 : PySem.W.codeIn K cd0 "Shelf.check_number" = true) (k0 : PySem.W.keepIn K (.ref f0) = true)
    (a1 : PySem.W.findIn K (.ref C_Shelf) "read" = some (some (.ref f1))) (i1 : PySem.W.isFn K (.ref f1) = true) (l1 : K.lookup f1 = some ⟨oc1, od1, .func (PySem.W.fnOf "read" "Shelf.read" (defArgs s_Shelf_read) (defBody s_Shelf_read) (defScope s_Shelf_read) .none kV1 dc1 pm1 an1 cd1 ct1), sl1⟩) (c1 : PySem.W.codeIn K cd1 "Shelf.read" = true) (k1 : PySem.W.keepIn K (.ref f1) = true)
    (a2 : PySem.W.nsIn K mainGlobals "_law_same" = some (some (.ref f2))) (l2 : K.lookup f2 = some ⟨oc2, od2, .func (PySem.W.fnOf "_law_same" "_law_same" (defArgs s_law_same) (defBody s_law_same) (defScope s_law_same) .none kV2 dc2 pm2 an2 cd2 ct2), sl2⟩) (c2 : PySem.W.codeIn K cd2 "_law_same" = true) (k2 : PySem.W.keepIn K (.ref f2) = true)
    (a3 : PySem.W.nsIn K mainGlobals "_law_stays" = some (some (.ref f3))) (l3 : K.lookup f3 = some ⟨oc3, od3, .func (PySem.W.fnOf "_law_stays" "_law_stays" (defArgs s_law_stays) (defBody s_law_stays) (defScope s_law_stays) .none kV3 dc3 pm3 an3 cd3 ct3), sl3⟩) (c3 : PySem.W.codeIn K cd3 "_law_stays" = true) (k3 : PySem.W.keepIn K (.ref f3) = true)
    (a4 : PySem.W.findIn K (.ref C_Shelf) "writings" = some (some (.ref f4))) (i4 : PySem.W.isFn K (.ref f4) = true) (l4 : K.lookup f4 = some ⟨oc4, od4, .func (PySem.W.fnOf "writings" "Shelf.writings" (defArgs s_Shelf_writings) (defBody s_Shelf_writings) (defScope s_Shelf_writings) .none kV4 dc4 pm4 an4 cd4 ct4), sl4⟩) (c4 : PySem.W.codeIn K cd4 "Shelf.writings" = true) (k4 : PySem.W.keepIn K (.ref f4) = true)
    (a5 : PySem.W.findIn K (.ref C_Shelf) "readings" = some (some (.ref f5))) (i5 : PySem.W.isFn K (.ref f5) = true) (l5 : K.lookup f5 = some ⟨oc5, od5, .func (PySem.W.fnOf "readings" "Shelf.readings" (defArgs s_Shelf_readings) (defBody s_Shelf_readings) (defScope s_Shelf_readings) .none kV5 dc5 pm5 an5 cd5 ct5), sl5⟩) (c5 : PySem.W.codeIn K cd5 "Shelf.readings" = true) (k5 : PySem.W.keepIn K (.ref f5) = true)
    (a6 : PySem.W.findIn K (.ref C_Shelf) "root" = some (some (.ref f6))) (i6 : PySem.W.isFn K (.ref f6) = true) (l6 : K.lookup f6 = some ⟨oc6, od6, .func (PySem.W.fnOf "root" "Shelf.root" (defArgs s_Shelf_root) (defBody s_Shelf_root) (defScope s_Shelf_root) .none kV6 dc6 pm6 an6 cd6 ct6), sl6⟩) (c6 : PySem.W.codeIn K cd6 "Shelf.root" = true) (k6 : PySem.W.keepIn K (.ref f6) = true)
    (a7 : PySem.W.findIn K (.ref C_Shelf) "room" = some (some (.ref f7))) (i7 : PySem.W.isFn K (.ref f7) = true) (l7 : K.lookup f7 = some ⟨oc7, od7, .func (PySem.W.fnOf "room" "Shelf.room" (defArgs s_Shelf_room) (defBody s_Shelf_room) (defScope s_Shelf_room) .none kV7 dc7 pm7 an7 cd7 ct7), sl7⟩) (c7 : PySem.W.codeIn K cd7 "Shelf.room" = true) (k7 : PySem.W.keepIn K (.ref f7) = true)
    (a8 : PySem.W.findIn K (.ref C_Shelf) "pages" = some (some (.ref f8))) (i8 : PySem.W.isFn K (.ref f8) = true) (l8 : K.lookup f8 = some ⟨oc8, od8, .func (PySem.W.fnOf "pages" "Shelf.pages" (defArgs s_Shelf_pages) (defBody s_Shelf_pages) (defScope s_Shelf_pages) .none kV8 dc8 pm8 an8 cd8 ct8), sl8⟩) (c8 : PySem.W.codeIn K cd8 "Shelf.pages" = true) (k8 : PySem.W.keepIn K (.ref f8) = true)
    (a9 : PySem.W.nsIn K mainGlobals "_law_counted" = some (some (.ref f9))) (l9 : K.lookup f9 = some ⟨oc9, od9, .func (PySem.W.fnOf "_law_counted" "_law_counted" (defArgs s_law_counted) (defBody s_law_counted) (defScope s_law_counted) .none kV9 dc9 pm9 an9 cd9 ct9), sl9⟩) (c9 : PySem.W.codeIn K cd9 "_law_counted" = true) (k9 : PySem.W.keepIn K (.ref f9) = true)
    (a10 : PySem.W.findIn K (.ref C_Shelf) "write" = some (some (.ref f10))) (i10 : PySem.W.isFn K (.ref f10) = true) (l10 : K.lookup f10 = some ⟨oc10, od10, .func (PySem.W.fnOf "write" "Shelf.write" (defArgs s_Shelf_write) (defBody s_Shelf_write) (defScope s_Shelf_write) .none kV10 dc10 pm10 an10 cd10 ct10), sl10⟩) (c10 : PySem.W.codeIn K cd10 "Shelf.write" = true) (k10 : PySem.W.keepIn K (.ref f10) = true)
    (a11 : PySem.W.nsIn K mainGlobals "_law_pick" = some (some (.ref f11))) (l11 : K.lookup f11 = some ⟨oc11, od11, .func (PySem.W.fnOf "_law_pick" "_law_pick" (defArgs s_law_pick) (defBody s_law_pick) (defScope s_law_pick) .none kV11 dc11 pm11 an11 cd11 ct11), sl11⟩) (c11 : PySem.W.codeIn K cd11 "_law_pick" = true) (k11 : PySem.W.keepIn K (.ref f11) = true)
    (a12 : PySem.W.nsIn K mainGlobals "_law_number" = some (some (.ref f12))) (l12 : K.lookup f12 = some ⟨oc12, od12, .func (PySem.W.fnOf "_law_number" "_law_number" (defArgs s_law_number) (defBody s_law_number) (defScope s_law_number) .none kV12 dc12 pm12 an12 cd12 ct12), sl12⟩) (c12 : PySem.W.codeIn K cd12 "_law_number" = true) (k12 : PySem.W.keepIn K (.ref f12) = true)
    (a13 : PySem.W.nsIn K mainGlobals "_law_page" = some (some (.ref f13))) (l13 : K.lookup f13 = some ⟨oc13, od13, .func (PySem.W.fnOf "_law_page" "_law_page" (defArgs s_law_page) (defBody s_law_page) (defScope s_law_page) .none kV13 dc13 pm13 an13 cd13 ct13), sl13⟩) (c13 : PySem.W.codeIn K cd13 "_law_page" = true) (k13 : PySem.W.keepIn K (.ref f13) = true)
    (a14 : PySem.W.findIn K (.ref C_Shelf) "lay" = some (some (.ref f14))) (i14 : PySem.W.isFn K (.ref f14) = true) (l14 : K.lookup f14 = some ⟨oc14, od14, .func (PySem.W.fnOf "lay" "Shelf.lay" (defArgs s_Shelf_lay) (defBody s_Shelf_lay) (defScope s_Shelf_lay) .none kV14 dc14 pm14 an14 cd14 ct14), sl14⟩) (c14 : PySem.W.codeIn K cd14 "Shelf.lay" = true) (k14 : PySem.W.keepIn K (.ref f14) = true)
    (a15 : PySem.W.findIn K (.ref C_Shelf) "make_root" = some (some (.ref f15))) (i15 : PySem.W.isFn K (.ref f15) = true) (l15 : K.lookup f15 = some ⟨oc15, od15, .func (PySem.W.fnOf "make_root" "Shelf.make_root" (defArgs s_Shelf_make_root) (defBody s_Shelf_make_root) (defScope s_Shelf_make_root) .none kV15 dc15 pm15 an15 cd15 ct15), sl15⟩) (c15 : PySem.W.codeIn K cd15 "Shelf.make_root" = true) (k15 : PySem.W.keepIn K (.ref f15) = true)
    (a16 : PySem.W.nsIn K mainGlobals "_law_done" = some (some (.ref f16))) (l16 : K.lookup f16 = some ⟨oc16, od16, .func (PySem.W.fnOf "_law_done" "_law_done" (defArgs s_law_done) (defBody s_law_done) (defScope s_law_done) .none kV16 dc16 pm16 an16 cd16 ct16), sl16⟩) (c16 : PySem.W.codeIn K cd16 "_law_done" = true) (k16 : PySem.W.keepIn K (.ref f16) = true)
    (a17 : PySem.W.findIn K (.ref C_Shelf) "__init__" = some (some (.ref f17))) (i17 : PySem.W.isFn K (.ref f17) = true) (l17 : K.lookup f17 = some ⟨oc17, od17, .func (PySem.W.fnOf "__init__" "Shelf.__init__" (defArgs s_Shelf___init__) (defBody s_Shelf___init__) (defScope s_Shelf___init__) .none kV17 dc17 pm17 an17 cd17 ct17), sl17⟩) (c17 : PySem.W.codeIn K cd17 "Shelf.__init__" = true) (k17 : PySem.W.keepIn K (.ref f17) = true)
    (a18 : PySem.W.nsIn K mainGlobals "_law_cell_at" = some (some (.ref f18))) (l18 : K.lookup f18 = some ⟨oc18, od18, .func (PySem.W.fnOf "_law_cell_at" "_law_cell_at" (defArgs s_law_cell_at) (defBody s_law_cell_at) (defScope s_law_cell_at) .none kV18 dc18 pm18 an18 cd18 ct18), sl18⟩) (c18 : PySem.W.codeIn K cd18 "_law_cell_at" = true) (k18 : PySem.W.keepIn K (.ref f18) = true)
    (a19 : PySem.W.nsIn K mainGlobals "law" = some (some (.ref f19))) (l19 : K.lookup f19 = some ⟨oc19, od19, .func (PySem.W.fnOf "law" "law" (defArgs s_law) (defBody s_law) (defScope s_law) .none kV19 dc19 pm19 an19 cd19 ct19), sl19⟩) (c19 : PySem.W.codeIn K cd19 "law" = true) (k19 : PySem.W.keepIn K (.ref f19) = true)
    (z_len : PySem.W.nsIn K mainGlobals "len" = some none)
    (z_isinstance : PySem.W.nsIn K mainGlobals "isinstance" = some none)
    (z_int : PySem.W.nsIn K mainGlobals "int" = some none)
    (z_bool : PySem.W.nsIn K mainGlobals "bool" = some none)
    (z_tuple : PySem.W.nsIn K mainGlobals "tuple" = some none)
    (z_zip : PySem.W.nsIn K mainGlobals "zip" = some none)
    (z_range : PySem.W.nsIn K mainGlobals "range" = some none)
    (g_EMPTY_LEAF : PySem.W.nsIn K mainGlobals "EMPTY_LEAF" = some (some (.ref ta_EMPTY_LEAF_0)))
    (tp_EMPTY_LEAF_0 : K.lookup ta_EMPTY_LEAF_0 = some ⟨.type "tuple", td_EMPTY_LEAF_0, .seq #[.int 0 tt1, .ref ta_EMPTY_LEAF_1, .ref ta_EMPTY_LEAF_2, .none, .none] tn_EMPTY_LEAF_0, ts_EMPTY_LEAF_0⟩)
    (tp_EMPTY_LEAF_2 : K.lookup ta_EMPTY_LEAF_2 = some ⟨.type "tuple", td_EMPTY_LEAF_2, .seq #[] tn_EMPTY_LEAF_2, ts_EMPTY_LEAF_2⟩)
    (tp_EMPTY_LEAF_1 : K.lookup ta_EMPTY_LEAF_1 = some ⟨.type "tuple", td_EMPTY_LEAF_1, .seq #[] tn_EMPTY_LEAF_1, ts_EMPTY_LEAF_1⟩)
    (pg_Shelf : PySem.W.plainGet K C_Shelf Str.empty = true) (hd_Shelf : PySem.W.hasDictIn K C_Shelf = true) (po_Shelf : PySem.W.plainOver K C_Shelf = true) (sa_Shelf : PySem.W.findIn K (.ref C_Shelf) "__setattr__" = some (some (.builtin "object.__setattr__"))) (mk_Shelf : PySem.W.makesIn K C_Shelf = true) (kc_Shelf : PySem.W.keepIn K (.ref C_Shelf) = true)
    (n_Shelf_kept : PySem.W.findIn K (.ref C_Shelf) "kept" = some none)
    (n_Shelf_read_count : PySem.W.findIn K (.ref C_Shelf) "read_count" = some none)
    (n_Shelf_write_count : PySem.W.findIn K (.ref C_Shelf) "write_count" = some none)
    (n_Shelf_top : PySem.W.findIn K (.ref C_Shelf) "top" = some none)
    (n_Shelf_page_room : PySem.W.findIn K (.ref C_Shelf) "page_room" = some none)
    : ∃ fd : FuncData, (∀ (s : Shared) (v : Value), BindsTo s fd ⟨[v], []⟩ [("script", v)]) ∧ ∀ base : Heap, K.In base → base.Ns mainGlobals mg → FnOk P w K mg base CX0 8 fa fd ["script"] (spD K 1 F_law) := by
  have e := hfa.symm.trans (PySem.W.mg_of X G a19)
  cases e
  have U0 := fun_mk (st := s_Shelf_check_number) l0 c0 k0
  have U1 := fun_mk (st := s_Shelf_read) l1 c1 k1
  have U2 := fun_mk (st := s_law_same) l2 c2 k2
  have U3 := fun_mk (st := s_law_stays) l3 c3 k3
  have U4 := fun_mk (st := s_Shelf_writings) l4 c4 k4
  have U5 := fun_mk (st := s_Shelf_readings) l5 c5 k5
  have U6 := fun_mk (st := s_Shelf_root) l6 c6 k6
  have U7 := fun_mk (st := s_Shelf_room) l7 c7 k7
  have U8 := fun_mk (st := s_Shelf_pages) l8 c8 k8
  have U9 := fun_mk (st := s_law_counted) l9 c9 k9
  have U10 := fun_mk (st := s_Shelf_write) l10 c10 k10
  have U11 := fun_mk (st := s_law_pick) l11 c11 k11
  have U12 := fun_mk (st := s_law_number) l12 c12 k12
  have U13 := fun_mk (st := s_law_page) l13 c13 k13
  have U14 := fun_mk (st := s_Shelf_lay) l14 c14 k14
  have U15 := fun_mk (st := s_Shelf_make_root) l15 c15 k15
  have U16 := fun_mk (st := s_law_done) l16 c16 k16
  have U17 := fun_mk (st := s_Shelf___init__) l17 c17 k17
  have U18 := fun_mk (st := s_law_cell_at) l18 c18 k18
  have U19 := fun_mk (st := s_law) l19 c19 k19
  have y_len := PySem.W.mg_none_of X G z_len
  have y_isinstance := PySem.W.mg_none_of X G z_isinstance
  have y_int := PySem.W.mg_none_of X G z_int
  have y_bool := PySem.W.mg_none_of X G z_bool
  have y_tuple := PySem.W.mg_none_of X G z_tuple
  have y_zip := PySem.W.mg_none_of X G z_zip
  have y_range := PySem.W.mg_none_of X G z_range
  have cl_Shelf : Cls K C_Shelf := ⟨pg_Shelf, hd_Shelf, po_Shelf, sa_Shelf⟩
  have x_Shelf_kept : FldK K "Shelf" "kept" := ⟨C_Shelf, aC_Shelf, cl_Shelf, n_Shelf_kept⟩
  have x_Shelf_read_count : FldK K "Shelf" "read_count" := ⟨C_Shelf, aC_Shelf, cl_Shelf, n_Shelf_read_count⟩
  have x_Shelf_write_count : FldK K "Shelf" "write_count" := ⟨C_Shelf, aC_Shelf, cl_Shelf, n_Shelf_write_count⟩
  have x_Shelf_top : FldK K "Shelf" "top" := ⟨C_Shelf, aC_Shelf, cl_Shelf, n_Shelf_top⟩
  have x_Shelf_page_room : FldK K "Shelf" "page_room" := ⟨C_Shelf, aC_Shelf, cl_Shelf, n_Shelf_page_room⟩
  have w_EMPTY_LEAF := PySem.W.mg_of X G g_EMPTY_LEAF
  have qq_EMPTY_LEAF : KRep K (.tup [.int 0, .tup [], .tup [], .non, .non]) (.ref ta_EMPTY_LEAF_0) := (kr_tup (xs := [.int 0, .ref ta_EMPTY_LEAF_1, .ref ta_EMPTY_LEAF_2, .non, .non]) tp_EMPTY_LEAF_0 (Nat.le_of_ble_eq_true rfl) (.cons ⟨_, rfl⟩ (.cons rfl (.cons rfl (.cons rfl (.cons rfl .nil))))) (krl_cons kr_int (krl_cons (kr_tup (xs := []) tp_EMPTY_LEAF_1 (Nat.le_of_ble_eq_true rfl) .nil krl_nil) (krl_cons (kr_tup (xs := []) tp_EMPTY_LEAF_2 (Nat.le_of_ble_eq_true rfl) .nil krl_nil) (krl_cons kr_non (krl_cons kr_non krl_nil))))))
  refine ⟨PySem.W.fnOf "law" "law" (defArgs s_law) (defBody s_law) (defScope s_law) .none kV19 dc19 pm19 an19 cd19 ct19, fun s v => .of_eq rfl, fun base _ _ => ?_⟩
  have v0 := has_Shelf_check_number (P := P) (w := w) (mg := mg) (base := base) U0 aC_Shelf cl_Shelf ⟨a0, i0, k0⟩ y_len x_Shelf_kept
  have v1 := has_Shelf_read (P := P) (w := w) (mg := mg) (base := base) U1 aC_Shelf cl_Shelf ⟨a1, i1, k1⟩ v0 x_Shelf_kept x_Shelf_read_count
  have v2 := has_law_same (P := P) (w := w) (mg := mg) (base := base) U2 (PySem.W.mg_of X G a2) y_isinstance y_int y_bool y_tuple y_zip y_len 6
  have v3 := has_law_stays (P := P) (w := w) (mg := mg) (base := base) U3 (PySem.W.mg_of X G a3) v1 v2 y_len y_range
  have v4 := has_Shelf_writings (P := P) (w := w) (mg := mg) (base := base) U4 aC_Shelf cl_Shelf ⟨a4, i4, k4⟩ x_Shelf_write_count
  have v5 := has_Shelf_readings (P := P) (w := w) (mg := mg) (base := base) U5 aC_Shelf cl_Shelf ⟨a5, i5, k5⟩ x_Shelf_read_count
  have v6 := has_Shelf_root (P := P) (w := w) (mg := mg) (base := base) U6 aC_Shelf cl_Shelf ⟨a6, i6, k6⟩ x_Shelf_top
  have v7 := has_Shelf_room (P := P) (w := w) (mg := mg) (base := base) U7 aC_Shelf cl_Shelf ⟨a7, i7, k7⟩ x_Shelf_page_room
  have v8 := has_Shelf_pages (P := P) (w := w) (mg := mg) (base := base) U8 aC_Shelf cl_Shelf ⟨a8, i8, k8⟩ y_len x_Shelf_kept
  have v9 := has_law_counted (P := P) (w := w) (mg := mg) (base := base) U9 (PySem.W.mg_of X G a9) v2 v4 v5 v6 v7 v8 y_len
  have v10 := has_Shelf_write (P := P) (w := w) (mg := mg) (base := base) U10 aC_Shelf cl_Shelf ⟨a10, i10, k10⟩ v0 x_Shelf_kept x_Shelf_write_count
  have v11 := has_law_pick (P := P) (w := w) (mg := mg) (base := base) U11 (PySem.W.mg_of X G a11)
  have v12 := has_law_number (P := P) (w := w) (mg := mg) (base := base) U12 (PySem.W.mg_of X G a12) v11
  have v13 := has_law_page (P := P) (w := w) (mg := mg) (base := base) U13 (PySem.W.mg_of X G a13) v11 v12 y_tuple y_len y_range
  have v14 := has_Shelf_lay (P := P) (w := w) (mg := mg) (base := base) U14 aC_Shelf cl_Shelf ⟨a14, i14, k14⟩ y_len x_Shelf_kept x_Shelf_write_count
  have v15 := has_Shelf_make_root (P := P) (w := w) (mg := mg) (base := base) U15 aC_Shelf cl_Shelf ⟨a15, i15, k15⟩ v0 x_Shelf_top
  have v16 := has_law_done (P := P) (w := w) (mg := mg) (base := base) U16 (PySem.W.mg_of X G a16) v1 v2 v10 v13 v14 v15 v11 y_len
  have v17 := has_Shelf___init__ (P := P) (w := w) (mg := mg) (base := base) U17 aC_Shelf (PySem.W.mg_of X G aC_Shelf) ⟨mk_Shelf, a17, i17, kc_Shelf⟩ w_EMPTY_LEAF qq_EMPTY_LEAF x_Shelf_write_count x_Shelf_read_count x_Shelf_top x_Shelf_kept x_Shelf_page_room
  have v18 := has_law_cell_at (P := P) (w := w) (mg := mg) (base := base) U18 (PySem.W.mg_of X G a18) y_len
  exact law_fn U19 v3 v9 v16 v11 v17 v18 y_range
theorem walk {l : PySem.W.OpenLaw} {q : Program} {loose : List Str} {XP : (Str → Option Value) → Heap → Prop} {YP : World → Heap → Prop} {d : DefRec} {K : Params → PySem.W.Frag} (hn : l.most = some 63) (hdf : d.params.defaults = [])
    (hY : ∀ (w : World) (h : Heap), YP w h → (K w.params).In h)
    (F : ∀ (w : World) (mg : Str → Option Value) (fa : Addr) (h : Heap), (K w.params).In h → h.Ns mainGlobals mg → mg d.name = some (.ref fa) →
      ∃ fd : FuncData, (∀ (s : Shared) (u : Value), BindsTo s fd ⟨[u], []⟩ [("script", u)]) ∧ ∀ base : Heap, (K w.params).In base → base.Ns mainGlobals mg → FnOk l.prog w (K w.params) mg base CX0 8 fa fd ["script"] (spD (K w.params) 1 F_law)) :
    PySem.W.WalkO q loose XP YP l.row.toRowW d [] (fun f vs => PySem.call f vs) :=
  L2.walk_of (n := 63) (k := 8) (x := "script") (CX := fun _ => CX0) (sp := fun w => spD (K w.params) 1 F_law) hn (by decide) hdf ⟨rfl, by decide, by decide⟩ hY F (fun w _ a ns hl _ hS => law_sp (law_true ns hl) hS) fun _ _ _ _ _ z => z
end K11
open PySem PySem.W PyProof.Rows
set_option maxRecDepth 100000 in
set_option maxHeartbeats 0 in
theorem PySem.Challenge.cw_sidelink_k11_pages_kept_holds : PySem.Challenge.rw_sidelink_k11_pages_kept.Holds := by
  w_on; o_law; k_head; (case hw => w_witness2)
  k_fill
  refine K11.walk (l := PySem.Challenge.rw_sidelink_k11_pages_kept) rfl rfl (fun w h Y => PySem.W.kIn_of Y) ?F
  case F =>
    intro w mg fa h KX G hmg
    refine' K11.all_mk KX G hmg ?aC_Shelf ?a0 ?i0 ?l0 ?c0 ?k0 ?a1 ?i1 ?l1 ?c1 ?k1 ?a2 ?l2 ?c2 ?k2 ?a3 ?l3 ?c3 ?k3 ?a4 ?i4 ?l4 ?c4 ?k4 ?a5 ?i5 ?l5 ?c5 ?k5 ?a6 ?i6 ?l6 ?c6 ?k6 ?a7 ?i7 ?l7 ?c7 ?k7 ?a8 ?i8 ?l8 ?c8 ?k8 ?a9 ?l9 ?c9 ?k9 ?a10 ?i10 ?l10 ?c10 ?k10 ?a11 ?l11 ?c11 ?k11 ?a12 ?l12 ?c12 ?k12 ?a13 ?l13 ?c13 ?k13 ?a14 ?i14 ?l14 ?c14 ?k14 ?a15 ?i15 ?l15 ?c15 ?k15 ?a16 ?l16 ?c16 ?k16 ?a17 ?i17 ?l17 ?c17 ?k17 ?a18 ?l18 ?c18 ?k18 ?a19 ?l19 ?c19 ?k19 ?z_len ?z_isinstance ?z_int ?z_bool ?z_tuple ?z_zip ?z_range ?g_EMPTY_LEAF ?tp_EMPTY_LEAF_0 ?tp_EMPTY_LEAF_2 ?tp_EMPTY_LEAF_1 ?pg_Shelf ?hd_Shelf ?po_Shelf ?sa_Shelf ?mk_Shelf ?kc_Shelf ?n_Shelf_kept ?n_Shelf_read_count ?n_Shelf_write_count ?n_Shelf_top ?n_Shelf_page_room
    (case aC_Shelf => k_is)
    (case a0 => k_is); (case i0 => k_is); (case l0 => k_is); (case c0 => k_is); (case k0 => k_is)
    (case a1 => k_is); (case i1 => k_is); (case l1 => k_is); (case c1 => k_is); (case k1 => k_is)
    (case a2 => k_is); (case l2 => k_is); (case c2 => k_is); (case k2 => k_is)
    (case a3 => k_is); (case l3 => k_is); (case c3 => k_is); (case k3 => k_is)
    (case a4 => k_is); (case i4 => k_is); (case l4 => k_is); (case c4 => k_is); (case k4 => k_is)
    (case a5 => k_is); (case i5 => k_is); (case l5 => k_is); (case c5 => k_is); (case k5 => k_is)
    (case a6 => k_is); (case i6 => k_is); (case l6 => k_is); (case c6 => k_is); (case k6 => k_is)
    (case a7 => k_is); (case i7 => k_is); (case l7 => k_is); (case c7 => k_is); (case k7 => k_is)
    (case a8 => k_is); (case i8 => k_is); (case l8 => k_is); (case c8 => k_is); (case k8 => k_is)
    (case a9 => k_is); (case l9 => k_is); (case c9 => k_is); (case k9 => k_is)
    (case a10 => k_is); (case i10 => k_is); (case l10 => k_is); (case c10 => k_is); (case k10 => k_is)
    (case a11 => k_is); (case l11 => k_is); (case c11 => k_is); (case k11 => k_is)
    (case a12 => k_is); (case l12 => k_is); (case c12 => k_is); (case k12 => k_is)
    (case a13 => k_is); (case l13 => k_is); (case c13 => k_is); (case k13 => k_is)
    (case a14 => k_is); (case i14 => k_is); (case l14 => k_is); (case c14 => k_is); (case k14 => k_is)
    (case a15 => k_is); (case i15 => k_is); (case l15 => k_is); (case c15 => k_is); (case k15 => k_is)
    (case a16 => k_is); (case l16 => k_is); (case c16 => k_is); (case k16 => k_is)
    (case a17 => k_is); (case i17 => k_is); (case l17 => k_is); (case c17 => k_is); (case k17 => k_is)
    (case a18 => k_is); (case l18 => k_is); (case c18 => k_is); (case k18 => k_is)
    (case a19 => k_is); (case l19 => k_is); (case c19 => k_is); (case k19 => k_is)
    (case z_len => k_is)
    (case z_isinstance => k_is)
    (case z_int => k_is)
    (case z_bool => k_is)
    (case z_tuple => k_is)
    (case z_zip => k_is)
    (case z_range => k_is)
    (case g_EMPTY_LEAF => k_is)
    (case tp_EMPTY_LEAF_0 => k_is)
    (case tp_EMPTY_LEAF_2 => k_is)
    (case tp_EMPTY_LEAF_1 => k_is)
    (case pg_Shelf => k_is); (case hd_Shelf => k_is); (case po_Shelf => k_is); (case sa_Shelf => k_is); (case mk_Shelf => k_is); (case kc_Shelf => k_is)
    (case n_Shelf_kept => k_is)
    (case n_Shelf_read_count => k_is)
    (case n_Shelf_write_count => k_is)
    (case n_Shelf_top => k_is)
    (case n_Shelf_page_room => k_is)

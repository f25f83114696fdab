import PyProof.Rows.All
import Wide.All
import OpenK.AllK
import Wide.FinOn
import Lean
import PyProof.EqAt
import PyProof.EqKinds
import PyProof.TupleCall
import PySem.Challenge.RW_sidelink_k31_hands_and_no_hand
-- CHANGE: your row's module here, as the last of these rows
set_option Elab.async false
set_option linter.all false
set_option maxRecDepth 100000
namespace L2
open PySem PySem.Spec PyProof.Rows
abbrev Key := Sum Int Str
def keyIs : Key → Value → Bool
  | .inl k, v => Value.isInt k v
  | .inr x, v => Value.isStrOf x v
def keyH (w : World) : Key → Int
  | .inl k => hashInt k
  | .inr x => hashStr w x
theorem keyIs_shape : ∀ {k : Key} {v : Value}, keyIs k v = true → (∃ i t, k = Sum.inl i ∧ v = Value.int i t) ∨ (∃ x t, k = Sum.inr x ∧ v = Value.str x t)
  | .inl i, v, h => by
    obtain ⟨t, e⟩ := Value.isInt_shape (k := i) (v := v) h
    exact .inl ⟨i, t, rfl, e⟩
  | .inr x, v, h => by
    obtain ⟨t, e⟩ := Value.isStrOf_shape (x := x) (v := v) h
    exact .inr ⟨x, t, rfl, e⟩
theorem keyIs_int (i : Int) (t : Tok) : keyIs (.inl i) (.int i t) = true := by simp [keyIs, Value.isInt]
theorem keyIs_str (x : Str) (t : Tok) : keyIs (.inr x) (.str x t) = true := by simp [keyIs, Value.isStrOf]
theorem key_ll (a b : Int) : decide ((Sum.inl a : Key) = Sum.inl b) = (a == b) := by
  by_cases e : a = b
  · subst e; simp
  · have h : ¬ (Sum.inl a : Key) = Sum.inl b := fun q => e (Sum.inl.inj q)
    rw [decide_eq_false h]
    exact (beq_eq_false_iff_ne.mpr e).symm
theorem key_rr (a b : Str) : decide ((Sum.inr a : Key) = Sum.inr b) = decide (a = b) := by
  by_cases e : a = b
  · subst e; simp
  · have h : ¬ (Sum.inr a : Key) = Sum.inr b := fun q => e (Sum.inr.inj q)
    rw [decide_eq_false h, decide_eq_false e]
theorem key_lr (a : Int) (b : Str) : decide ((Sum.inl a : Key) = Sum.inr b) = false := decide_eq_false (fun q => nomatch q)
theorem key_rl (a : Str) (b : Int) : decide ((Sum.inr a : Key) = Sum.inl b) = false := decide_eq_false (fun q => nomatch q)
def mixKind (prog : Program) (w : World) : PySem.KeyKind prog w Key where
  is := keyIs
  hash := keyH w
  inj := fun v a b ha hb => by
    rcases keyIs_shape ha with ⟨i, t, rfl, rfl⟩ | ⟨x, t, rfl, rfl⟩
    · rcases keyIs_shape hb with ⟨j, u, rfl, e⟩ | ⟨y, u, rfl, e⟩
      · injection e with e1 _; rw [e1]
      · exact nomatch e
    · rcases keyIs_shape hb with ⟨j, u, rfl, e⟩ | ⟨y, u, rfl, e⟩
      · exact nomatch e
      · injection e with e1 _; rw [e1]
  byValue := fun k v h => by
    rcases keyIs_shape h with ⟨i, t, rfl, rfl⟩ | ⟨x, t, rfl, rfl⟩ <;> rfl
  pyHash := fun hv h => by
    rcases keyIs_shape hv with ⟨i, t, rfl, rfl⟩ | ⟨x, t, rfl, rfl⟩
    · exact wpAny_pyHash_int h
    · exact wpAny_pyHash_str h
  eqBool := fun hu hv h => by
    rcases keyIs_shape hu with ⟨i, t, rfl, rfl⟩ | ⟨x, t, rfl, rfl⟩
    · rcases keyIs_shape hv with ⟨j, u, rfl, rfl⟩ | ⟨y, u, rfl, rfl⟩
      · rw [key_ll] at h; exact wpAny_eqBool_int h
      · rw [key_lr] at h; exact SeqAt.EqAt.int_str i t y u _ _ _ _ h
    · rcases keyIs_shape hv with ⟨j, u, rfl, rfl⟩ | ⟨y, u, rfl, rfl⟩
      · rw [key_rl] at h; exact SeqAt.EqAt.str_int x t j u _ _ _ _ h
      · rw [key_rr] at h; exact wpAny_eqBool_str h
  «strs» := fun k x t v h => by
    rcases keyIs_shape h with ⟨i, u, rfl, e⟩ | ⟨y, u, rfl, e⟩
    · exact nomatch e
    · injection e with e1 _
      subst e1
      cases v <;> rfl
theorem mixKind_int (prog : Program) (w : World) (i : Int) (t : Tok) : (mixKind prog w).is (.inl i) (.int i t) = true := keyIs_int i t
theorem mixKind_str (prog : Program) (w : World) (x : Str) (t : Tok) : (mixKind prog w).is (.inr x) (.str x t) = true := keyIs_str x t
end L2
namespace L2
open PySem PySem.Spec PyProof.Rows
inductive V where
  | non | bl (b : Bool) | int (i : Int) | str (x : Str) | byt (b : Array UInt8) | flt (b : UInt64) | ref (a : Addr) | ty (n : String)
  deriving DecidableEq
def RelV : V → Value → Prop
  | .non, u => u = Value.none
  | .bl b, u => u = Value.bool b
  | .int i, u => ∃ t, u = Value.int i t
  | .str x, u => ∃ t, u = Value.str x t
  | .byt b, u => ∃ t, u = Value.bytes b t
  | .flt b, u => ∃ t, u = Value.float b t
  | .ref a, u => u = Value.ref a
  | .ty n, u => u = Value.type n
abbrev Vals : List V → List Value → Prop := Paired RelV
theorem Vals.length {xs : List V} {us : List Value} (r : Vals xs us) : xs.length = us.length := Paired.length r
theorem Vals.get : ∀ {xs : List V} {us : List Value} {i : Nat} {x : V}, Vals xs us → xs[i]? = some x → ∃ u, us[i]? = some u ∧ RelV x u
  | _, _, _, _, .nil, e => by simp at e
  | _, _, 0, _, .cons r _, e => by simp at e; subst e; exact ⟨_, rfl, r⟩
  | _, _, i + 1, x, .cons _ t, e => by
    obtain ⟨u, h1, h2⟩ := Vals.get (i := i) (x := x) t (by simpa using e)
    exact ⟨u, by simpa using h1, h2⟩
theorem Vals.set {x : V} {u : Value} (r : RelV x u) : ∀ {xs : List V} {us : List Value} (i : Nat), Vals xs us → Vals (xs.set i x) (us.set i u)
  | _, _, _, .nil => .nil
  | _, _, 0, .cons _ t => .cons r t
  | _, _, i + 1, .cons q t => .cons q (Vals.set r i t)
theorem Vals.append : ∀ {xs ys : List V} {us ws : List Value}, Vals xs us → Vals ys ws → Vals (xs ++ ys) (us ++ ws)
  | _, _, _, _, .nil, s => s
  | _, _, _, _, .cons r t, s => .cons r (Vals.append t s)
theorem Vals.take : ∀ {xs : List V} {us : List Value} (n : Nat), Vals xs us → Vals (xs.take n) (us.take n)
  | _, _, 0, _ => .nil
  | _, _, _ + 1, .nil => .nil
  | _, _, n + 1, .cons r t => .cons r (Vals.take n t)
theorem Vals.drop : ∀ {xs : List V} {us : List Value} (n : Nat), Vals xs us → Vals (xs.drop n) (us.drop n)
  | _, _, 0, r => r
  | _, _, _ + 1, .nil => .nil
  | _, _, n + 1, .cons _ t => Vals.drop n t
def RelO : Option V → Option Value → Prop
  | some v, some u => RelV v u
  | none, none => True
  | _, _ => False
def KV {κ : Type} : List (κ × V) → List (κ × Value) → Prop := Paired fun (p : κ × V) (q : κ × Value) => p.1 = q.1 ∧ RelV p.2 q.2
def kV : Key → V
  | .inl i => .int i
  | .inr x => .str x
inductive HO where
    | lst (xs : List V)
    | tup (xs : List V)
    | dK (kvs : List (Key × V)) | dT (kvs : List (List Key × V))
    | set (S : Int → Bool) (n : Nat)
    | ins (C dx : Addr) (fs : List (Str × V))
    | own (x : Addr)
    | xd (fs : List (Str × V))
    | met (f x : Addr)
    | rng (lo hi : Int)
    | frz (o : Obj) (u : HO)
    | tbl (ps : Array Value)
    | ext (φ : Heap → Prop)
abbrev Hp := Addr → Option HO
def upd (H : Hp) (a : Addr) (o : HO) : Hp := fun b => if b = a then some o else H b
theorem upd_same {H : Hp} {a : Addr} {o : HO} : upd H a o a = some o := by unfold upd; rw [if_pos rfl]
theorem upd_ne {H : Hp} {a b : Addr} {o : HO} (h : b ≠ a) : upd H a o b = H b := by unfold upd; rw [if_neg h]
theorem ne_of {H : Hp} {a b : Addr} {o u : HO} (h : H a = some o) (h' : H b = some u) (d : o ≠ u) : a ≠ b := by
  intro e; subst e; rw [h] at h'; exact d (Option.some.inj h')
theorem ne_of_none {H : Hp} {a b : Addr} {o : HO} (h : H a = some o) (h' : H b = none) : a ≠ b := by
  intro e; subst e; rw [h] at h'; cases h'
section
variable (P : Program) (w : World)
def ObjOk (H : Hp) (h : Heap) (a : Addr) : HO → Prop
  | .lst xs => xs.length ≤ sizeLine ∧ ∃ (its : List Value) (n : Nat), Vals xs its ∧ h.get? a = some { cls := .type "list", data := .seq its.toArray n }
  | .tup xs => xs.length ≤ sizeLine ∧ ∃ its : List Value, Vals xs its ∧ IsTup h a its.toArray
  | .dK kvs => kvs.length ≤ sizeLine ∧ (a == sysModules) = false ∧ ∃ vs, KV kvs vs ∧ h.DictOf (mixKind P w) a vs
  | .dT kvs => kvs.length ≤ sizeLine ∧ (a == sysModules) = false ∧ ∃ xs : List (List Key × Addr × Value),
      Paired (fun (p : List Key × V) (q : List Key × Addr × Value) => p.1 = q.1 ∧ H q.2.1 = some (.tup (p.1.map kV)) ∧ RelV p.2 q.2.2) kvs xs ∧
      ∃ o es ep, h.get? a = some o ∧ o.ExactDict ∧ o.data = .dict es ep ∧ es.toList = xs.map (entryOfKey (tupleKind (mixKind P w))) ∧ (xs.map (·.1)).Nodup
  | .set S n => h.SetOf (intKind P w) a S n
  | .ins C dx fs => H dx = some (.own a) ∧ fs.length ≤ 1000 ∧ dx ≠ a ∧ h.get? a = some (PySem.W.instObj C dx) ∧
      ∃ mA, h.Ns1 dx mA ∧ (∀ f, RelO (fs.lookup f) (mA f)) ∧ PySem.Within mA (fs.map (·.1))
  | .own _ => ∃ o, h.get? a = some o
  | .xd fs => ∃ mA, h.Ns1 a mA ∧ ∀ f, RelO (fs.lookup f) (mA f)
  | .rng lo hi => ∃ t u v, h.get? a = some { cls := .type "range", data := .fields #[.int lo t, .int hi u, .int 1 v] }
  | .frz o u => h.get? a = some o ∧ ObjOk H h a u
  | .tbl ps => h.get? a = some { cls := .none, data := .fields ps }
  | .met f x => h.get? a = some (PySem.W.methodObj (.ref f) (.ref x))
  | .ext φ => φ h ∧ (∃ o, h.get? a = some o) ∧ ∀ h1 h2 : Heap, φ h1 → (∀ o, h1.get? a = some o → h2.get? a = some o) → φ h2
def HOk (H : Hp) (h : Heap) : Prop := ∀ a o, H a = some o → ObjOk P w H h a o
end
section
variable {P : Program} {w : World} {H H' : Hp} {h h' : Heap} {a : Addr} {o : HO}
theorem ObjOk.lt (x : ObjOk P w H h a o) : a < h.objs.size := by
  cases o with
  | lst xs => obtain ⟨_, _, _, _, e⟩ := x; exact Heap.lt_size e
  | tup xs => obtain ⟨_, _, _, p⟩ := x; exact p.lt
  | dK kvs => obtain ⟨_, _, _, _, o, _, _, e, _⟩ := x; exact Heap.lt_size e
  | dT kvs => obtain ⟨_, _, _, _, o, _, _, e, _⟩ := x; exact Heap.lt_size e
  | set S n => obtain ⟨o, _, _, _, e, _⟩ := x; exact Heap.lt_size e
  | ins C dx fs => obtain ⟨_, _, _, e, _⟩ := x; exact Heap.lt_size e
  | own y => obtain ⟨_, e⟩ := x; exact Heap.lt_size e
  | xd fs => obtain ⟨_, ⟨_, _, _, e, _⟩, _⟩ := x; exact Heap.lt_size e
  | rng lo hi => obtain ⟨_, _, _, e⟩ := x; exact Heap.lt_size e
  | frz ob u => obtain ⟨e, _⟩ := x; exact Heap.lt_size e
  | tbl ps => exact Heap.lt_size (show h.get? a = some _ from x)
  | met f y => exact Heap.lt_size (show h.get? a = some _ from x)
  | ext φ => obtain ⟨_, ⟨_, e⟩, _⟩ := x; exact Heap.lt_size e
theorem Paired.mapP {α β : Type} {F G : α → β → Prop} : ∀ {l₁ : List α} {l₂ : List β}, Paired F l₁ l₂ → (∀ a b, F a b → G a b) → Paired G l₁ l₂
  | _, _, .nil, _ => .nil
  | _, _, .cons r t, f => .cons (f _ _ r) (Paired.mapP t f)
theorem ObjOk.stay (x : ObjOk P w H h a o) (k : ∀ b u, (b = a ∨ H b = some (.own a)) → h.get? b = some u → h'.get? b = some u)
    (ho : ∀ b, H b = some (.own a) → H' b = some (.own a)) (ht : ∀ b xs, H b = some (.tup xs) → H' b = some (.tup xs)) : ObjOk P w H' h' a o := by
  induction o with
  | lst xs => obtain ⟨z, its, n, r, e⟩ := x; exact ⟨z, its, n, r, k _ _ (.inl rfl) e⟩
  | tup xs => obtain ⟨z, its, r, ob, e, c⟩ := x; exact ⟨z, its, r, ob, k _ _ (.inl rfl) e, c⟩
  | dK kvs => obtain ⟨z, y, vs, r, ob, es, ep, e, c⟩ := x; exact ⟨z, y, vs, r, ob, es, ep, k _ _ (.inl rfl) e, c⟩
  | dT kvs =>
    obtain ⟨z, y, xs, r, ob, es, ep, e, c⟩ := x
    exact ⟨z, y, xs, Paired.mapP r fun p q z => ⟨z.1, ht _ _ z.2.1, z.2.2⟩, ob, es, ep, k _ _ (.inl rfl) e, c⟩
  | set S n => obtain ⟨ob, es, ep, t, e, c⟩ := x; exact ⟨ob, es, ep, t, k _ _ (.inl rfl) e, c⟩
  | ins C dx fs =>
    obtain ⟨d, z, ne, e, mA, ⟨od, es, ep, e2, c⟩, r⟩ := x
    exact ⟨ho _ d, z, ne, k _ _ (.inl rfl) e, mA, ⟨od, es, ep, k _ _ (.inr d) e2, c⟩, r⟩
  | own y => obtain ⟨ob, e⟩ := x; exact ⟨ob, k _ _ (.inl rfl) e⟩
  | xd fs => obtain ⟨mA, ⟨od, es, ep, e, c⟩, r⟩ := x; exact ⟨mA, ⟨od, es, ep, k _ _ (.inl rfl) e, c⟩, r⟩
  | rng lo hi => obtain ⟨t, u, v, e⟩ := x; exact ⟨t, u, v, k _ _ (.inl rfl) e⟩
  | frz ob u ih => obtain ⟨e, q⟩ := x; exact ⟨k _ _ (.inl rfl) e, ih q⟩
  | tbl ps =>
    have e : h.get? a = some { cls := .none, data := .fields ps } := x
    show h'.get? a = some { cls := .none, data := .fields ps }
    exact k a _ (.inl rfl) e
  | met f y =>
    have e : h.get? a = some (PySem.W.methodObj (.ref f) (.ref y)) := x
    show h'.get? a = some (PySem.W.methodObj (.ref f) (.ref y))
    exact k a _ (.inl rfl) e
  | ext φ => obtain ⟨p, ⟨o, e⟩, st⟩ := x; exact ⟨st _ _ p fun o q => k _ _ (.inl rfl) q, ⟨o, k _ _ (.inl rfl) e⟩, st⟩
theorem HOk.lt (x : HOk P w H h) (e : H a = some o) : a < h.objs.size := (x a o e).lt
theorem HOk.fresh (x : HOk P w H h) (e : h.objs.size ≤ a) : H a = none := by
  cases q : H a with
  | none => rfl
  | some u => exact absurd (Nat.lt_of_lt_of_le (x.lt q) e) (Nat.lt_irrefl _)
theorem HOk.kept (x : HOk P w H h) (k : ∀ b u, h.get? b = some u → h'.get? b = some u) : HOk P w H h' := fun a o e =>
  (x a o e).stay (fun b u _ q => k b u q) (fun _ q => q) fun _ _ q => q
theorem HOk.laid (x : HOk P w H h) (k : ∀ b u, h.get? b = some u → h'.get? b = some u) (hp : h.objs.size ≤ a) (new : ObjOk P w (upd H a o) h' a o) : HOk P w (upd H a o) h' := fun b u e => by
  have hn := x.fresh hp
  by_cases hb : b = a
  · subst hb; rw [upd_same] at e; cases e; exact new
  · rw [upd_ne hb] at e
    exact (x b u e).stay (fun c v _ q => k c v q) (fun c q => by rw [upd_ne (ne_of_none q hn)]; exact q) fun c xs q => by rw [upd_ne (ne_of_none q hn)]; exact q
end
def Rd (H : Hp) (a : Addr) (u : HO) : Prop := H a = some u ∨ ∃ o, H a = some (.frz o u)
theorem Rd.ok {P : Program} {w : World} {H : Hp} {h : Heap} {a : Addr} {u : HO} (r : Rd H a u) (x : HOk P w H h) : ObjOk P w H h a u := by
  rcases r with r | ⟨o, r⟩
  · exact x a u r
  · obtain ⟨_, q⟩ := x a _ r
    exact q
def Mut : Option HO → Prop
  | some (.lst _) => True
  | some (.dK _) => True
  | some (.dT _) => True
  | some (.set _ _) => True
  | some (.ins _ _ _) => True
  | some (.ext _) => True
  | _ => False
section
variable {P : Program} {w : World} {H : Hp} {h h' : Heap} {x e : Addr} {o' : HO}
theorem HOk.write (ok : HOk P w H h) (mu : Mut (H x)) (he : e = x ∨ H e = some (.own x)) (k : ∀ b u, b ≠ e → h.get? b = some u → h'.get? b = some u) (heo : ∃ u, h'.get? e = some u)
    (new : ObjOk P w (upd H x o') h' x o') : HOk P w (upd H x o') h' := fun b u q => by
  have nown : ∀ c y, H c = some (.own y) → c ≠ x := fun c y r z => by subst z; rw [r] at mu; exact mu
  have ntup : ∀ c xs, H c = some (.tup xs) → c ≠ x := fun c xs r z => by subst z; rw [r] at mu; exact mu
  by_cases hb : b = x
  · subst hb; rw [upd_same] at q; cases q; exact new
  · rw [upd_ne hb] at q
    by_cases hbe : b = e
    · have q' : H b = some (.own x) := by
        rcases he with z | z
        · exact absurd (hbe.trans z) hb
        · rw [hbe]; exact z
      rw [q] at q'; cases q'
      obtain ⟨v, hv⟩ := heo
      exact ⟨v, by rw [hbe]; exact hv⟩
    · refine (ok b u q).stay (fun c v hc r => k c v ?_ r) (fun c r => by rw [upd_ne (nown c b r)]; exact r) fun c xs r => by rw [upd_ne (ntup c xs r)]; exact r
      rcases hc with rfl | hc
      · exact hbe
      · rintro rfl
        rcases he with z | z
        · exact nown c b hc z
        · rw [hc] at z; cases z; exact hb rfl
end
structure Un (fs ex : List Addr) (H H' : Hp) (h h' : Heap) : Prop where
  keep : ∀ b o, h.get? b = some o → H b = none → b ∉ fs → b ∉ ex → h'.get? b = some o
  slot : ∀ b o, h.get? b = some o → H b = none → b ∈ fs → b ∉ ex → ∃ sl, h'.get? b = some { o with slots := sl }
  free : ∀ b o, h.get? b = some o → H b = none → b ∉ ex → H' b = none
  there : ∀ b o, h.get? b = some o → b ∉ ex → ∃ o', h'.get? b = some o'
  tups : ∀ b xs, H b = some (.tup xs) → H' b = some (.tup xs)
  frzs : ∀ b o u, H b = some (.frz o u) → H' b = some (.frz o u)
  tbls : ∀ b ps, H b = some (.tbl ps) → ∃ more, H' b = some (.tbl (ps ++ more))
section
variable {fs fs' ex ex' : List Addr} {H H1 H2 : Hp} {h h1 h2 h' : Heap} {a x e : Addr} {o : HO}
theorem Un.any (u : Un fs ex H H1 h h1) {b : Addr} {ob : Obj} (q : h.get? b = some ob) (n : H b = none) (hx : b ∉ ex) : ∃ sl, h1.get? b = some { ob with slots := sl } := by
  by_cases hb : b ∈ fs
  · exact u.slot b ob q n hb hx
  · exact ⟨ob.slots, u.keep b ob q n hb hx⟩
theorem Un.kept (k : ∀ b u, h.get? b = some u → h'.get? b = some u) : Un fs ex H H h h' :=
  ⟨fun b ob q _ _ _ => k b ob q, fun b ob q _ _ _ => ⟨ob.slots, k b ob q⟩, fun _ _ _ n _ => n, fun b ob q _ => ⟨ob, k b ob q⟩, fun _ _ q => q, fun _ _ _ q => q, fun _ ps q => ⟨#[], by rw [q]; simp⟩⟩
theorem Un.refl : Un fs ex H H h h := Un.kept fun _ _ q => q
theorem Un.laid (k : ∀ b u, h.get? b = some u → h'.get? b = some u) (hp : h.objs.size ≤ a) (hn : H a = none) : Un fs ex H (upd H a o) h h' where
  keep := fun b u q _ _ _ => k b u q
  slot := fun b u q _ _ _ => ⟨u.slots, k b u q⟩
  free := fun b u q n _ => by rw [upd_ne (Nat.ne_of_lt (Nat.lt_of_lt_of_le (Heap.lt_size q) hp))]; exact n
  there := fun b u q _ => ⟨u, k b u q⟩
  tups := fun b xs q => by rw [upd_ne (ne_of_none q hn)]; exact q
  frzs := fun b u xs q => by rw [upd_ne (ne_of_none q hn)]; exact q
  tbls := fun b ps q => ⟨#[], by rw [upd_ne (ne_of_none q hn), q]; simp⟩
theorem Un.write (mu : Mut (H x)) (he : e = x ∨ H e = some (.own x)) (k : ∀ b u, b ≠ e → h.get? b = some u → h'.get? b = some u) (heo : ∃ u, h'.get? e = some u) : Un fs ex H (upd H x o) h h' := by
  have hx : ∀ b, H b = none → b ≠ x := fun b n z => by subst z; rw [n] at mu; exact mu
  have hb : ∀ b, H b = none → b ≠ e := fun b n z => by
    subst z
    rcases he with r | r
    · exact hx b n r
    · rw [n] at r; cases r
  have hm : ∀ b u, H b = some u → ¬ Mut (some u) → b ≠ x := fun b u q nm z => by subst z; rw [q] at mu; exact nm mu
  refine ⟨fun b u q n _ _ => k b u (hb b n) q, fun b u q n _ _ => ⟨u.slots, k b u (hb b n) q⟩, fun b u q n _ => by rw [upd_ne (hx b n)]; exact n, fun b u q _ => ?_,
    fun b xs q => by rw [upd_ne (hm b _ q fun z => z)]; exact q, fun b u xs q => by rw [upd_ne (hm b _ q fun z => z)]; exact q, fun b ps q => ⟨#[], by rw [upd_ne (hm b _ q fun z => z), q]; simp⟩⟩
  by_cases hbe : b = e
  · subst hbe; exact heo
  · exact ⟨u, k b u hbe q⟩
end
def trk (h : Heap) (H : Hp) : List Addr := (List.range h.objs.size).filter fun a => (H a).isSome
def hidT (h : Heap) (H : Hp) : Heap := PySem.W.hideAll h (trk h H)
theorem hidT_size (h : Heap) (H : Hp) : (hidT h H).objs.size = h.objs.size := PySem.W.hideAll_size _ _
theorem hidT_get {h : Heap} {H : Hp} {b : Addr} {o : Obj} (e : h.get? b = some o) (n : H b = none) : (hidT h H).get? b = some o :=
  PySem.W.hideAll_get _ e fun hm => by
    have q : (H b).isSome = true := (List.mem_filter.mp hm).2
    rw [n] at q; simp at q
theorem of_hidT {h : Heap} {H : Hp} {b : Addr} {o : Obj} (e : (hidT h H).get? b = some o) : h.get? b = some o ∧ H b = none := by
  have e' : h.get? b = some o := PySem.W.of_hideAll (trk h H) e
  refine ⟨e', ?_⟩
  cases q : H b with
  | none => rfl
  | some x =>
    have hm : b ∈ trk h H := List.mem_filter.mpr ⟨List.mem_range.mpr (Heap.lt_size e'), by simp [q]⟩
    have z : (hidT h H).get? b = none := PySem.W.hideAll_none (trk h H) hm
    rw [z] at e; cases e
def allNews (g h : Heap) (L : Addr) : List (Addr × Obj) := (List.range h.objs.size).filterMap fun a => if a = L ∨ (g.get? a).isSome = true then none else (h.get? a).map fun o => (a, o)
theorem of_mem_allNews {g h : Heap} {L : Addr} {p : Addr × Obj} (hp : p ∈ allNews g h L) : p.1 ≠ L ∧ g.get? p.1 = none ∧ h.get? p.1 = some p.2 := by
  obtain ⟨b, _, e⟩ := List.mem_filterMap.mp hp
  split at e
  · cases e
  · rename_i hn
    cases q : h.get? b with
    | none => rw [q] at e; simp at e
    | some u =>
      rw [q] at e
      simp only [Option.map_some, Option.some.injEq] at e
      subst e
      refine ⟨fun z => hn (.inl z), ?_, q⟩
      show g.get? b = none
      cases r : g.get? b with
      | none => rfl
      | some v => exact (hn (.inr (by simp [r]))).elim
def rest (g h : Heap) (L d : Addr) : List (Addr × Obj) := (allNews g h L).filter fun p => decide (p.1 ≠ d)
theorem news_all {g h : Heap} {L : Addr} : News g L h (allNews g h L) := fun p hp => let ⟨a, b, c⟩ := of_mem_allNews hp; ⟨c, a, b⟩
end L2
namespace L2
open PySem PySem.Spec PyProof.Rows
structure Mod (K : PySem.W.Frag) (mg : Str → Option Value) (base : Heap) : Prop where
  kin : K.In base
  glob : base.Ns mainGlobals mg
  blt : ∃ mb, base.Ns builtinsNs mb ∧ ∀ x : Str, x ≠ "__name__" → mb x = bootBuiltins x
  nolimit : base.NoLimit
structure Cx where
  prog : Program
  w : World
  K : PySem.W.Frag
  mg : Str → Option Value
  base : Heap
  A : Around
  N : List Str
  s₀ : Shared
  H₀ : Hp
  env : Env
  outer : List Env
  stack : List Env
  ex : List Addr
  fn : Str → Bool
  calm : Bool
  pn : List (Addr × Obj)
  xe : Value → Shared → Prop
def frs (l : List Env) : List Addr := l.filterMap (·.frame)
abbrev Cx.fs (X : Cx) : List Addr := frs X.outer
def Vis (sc : Scope) (x : Str) : Prop := sc.names.lookup x = some .local ∨ sc.names.lookup x = some .cell ∨ sc.names.lookup x = some .free
def Loc (sc : Scope) (x : Str) : Prop := sc.names.lookup x = some .local ∨ sc.names.lookup x = some .cell
def Look (env : Env) (h : Heap) (m : Str → Option Value) (x : Str) (u : Value) : Prop :=
  (env.kindOf x = some .local ∧ m x = some u) ∨ ((env.kindOf x = some .cell ∨ env.kindOf x = some .free) ∧ ∃ c, env.cells.lookup x = some c ∧ h.IsCell c (some u))
structure Cx.Ok (X : Cx) : Prop where
  mod : Mod X.K X.mg X.base
  kind : X.env.scope.kind = .function
  glob : X.env.globals = mainGlobals
  blt : X.env.builtins = builtinsNs
  above : X.s₀.heap.objs.size ≤ X.env.locals
  inj : ∀ x y c, X.env.cells.lookup x = some c → X.env.cells.lookup y = some c → x = y
  has : ∀ x, (X.env.kindOf x = some .cell ∨ X.env.kindOf x = some .free) → ∃ c, X.env.cells.lookup x = some c
  cab : ∀ x c, X.fn x = true → X.env.cells.lookup x = some c → X.s₀.heap.objs.size ≤ c
  hd : X.calm = true → X.A.handled = none
  frames : X.A.frames = some X.stack
  stk : X.stack = X.outer ∨ (X.stack = X.env :: X.outer ∧ X.env.frame = some X.env.locals)
  exf : ∀ b ∈ X.ex, b ≠ X.env.locals ∧ ∀ x c, X.env.cells.lookup x = some c → c ≠ b
  bs : ∀ b o, X.base.get? b = some o → X.s₀.heap.get? b = some o ∧ X.H₀ b = none
  bsz : X.base.objs.size ≤ X.s₀.heap.objs.size
  noex : ∀ b o, X.base.get? b = some o → b ∉ X.ex
  exfs : ∀ b ∈ X.ex, b ∉ X.fs
  funs : X.s₀.heap.FunFrames X.base X.outer
  frf : ∀ b ∈ X.fs, X.H₀ b = none
structure Inv (X : Cx) (pins : List (Addr × Obj)) (σ : List (Option V)) (H : Hp) (s : Shared) : Prop where
  ok : X.Ok
  os : s.os = X.s₀.os
  bare : AllBare s.gens
  base : Un X.fs X.ex X.H₀ H X.s₀.heap s.heap
  loc : ∃ m, s.heap.Ns X.env.locals m ∧ ∀ (i : Nat) (x : Str) (v : V), X.N[i]? = some x → σ[i]? = some (some v) → Vis X.env.scope x → ∃ u, RelV v u ∧ Look X.env s.heap m x u
  cell : ∀ x c, X.env.cells.lookup x = some c → ∃ v, s.heap.IsCell c v
  free : H X.env.locals = none
  freeC : ∀ x c, X.env.cells.lookup x = some c → H c = none
  pin : ∀ p ∈ X.pn ++ pins, s.heap.get? p.1 = some p.2 ∧ H p.1 = none ∧ p.1 ≠ X.env.locals ∧ p.1 ∉ X.fs ∧ ∀ v, p.2.data ≠ .cell v
  hok : HOk X.prog X.w H s.heap
  len : σ.length = X.N.length
section
variable {X : Cx} {pins : List (Addr × Obj)} {σ : List (Option V)} {H H' : Hp} {s : Shared} {h' : Heap}
theorem Cx.Ok.nofr (ok : X.Ok) {b : Addr} {o : Obj} (e : X.base.get? b = some o) : b ∉ X.fs := fun hb => by
  have := (ok.funs.mem hb).1
  rw [e] at this; cases this
theorem Inv.bs (I : Inv X pins σ H s) : ∀ b o, X.base.get? b = some o → s.heap.get? b = some o ∧ H b = none := fun b o e =>
  ⟨I.base.keep b o (I.ok.bs b o e).1 (I.ok.bs b o e).2 (I.ok.nofr e) (I.ok.noex b o e), I.base.free b o (I.ok.bs b o e).1 (I.ok.bs b o e).2 (I.ok.noex b o e)⟩
theorem Inv.bk (I : Inv X pins σ H s) : ∀ b o, X.base.get? b = some o → s.heap.get? b = some o := fun b o e => (I.bs b o e).1
theorem Inv.mod (I : Inv X pins σ H s) : Mod X.K X.mg X.base := I.ok.mod
theorem Inv.kIn (I : Inv X pins σ H s) : X.K.In s.heap := I.ok.mod.kin.keeps I.bk
theorem Inv.fr (I : Inv X pins σ H s) : ∃ m, Fr X.base X.env.locals s.heap m :=
  let ⟨m, hn, _⟩ := I.loc
  ⟨m, hn, I.bk, Nat.le_trans I.ok.bsz I.ok.above⟩
theorem Inv.lt (I : Inv X pins σ H s) : X.env.locals < s.heap.objs.size := let ⟨_, hn, _⟩ := I.loc; hn.lt
theorem Inv.sz (I : Inv X pins σ H s) : X.s₀.heap.objs.size ≤ s.heap.objs.size := Nat.le_trans I.ok.above (Nat.le_of_lt I.lt)
theorem Inv.nofs (I : Inv X pins σ H s) {a : Addr} (h : s.heap.objs.size ≤ a) : a ∉ X.fs := fun hb => by
  obtain ⟨_, o, ho, _⟩ := I.ok.funs.mem hb
  exact absurd (Nat.lt_of_lt_of_le (Heap.lt_size ho) (Nat.le_trans I.sz h)) (Nat.lt_irrefl _)
theorem Inv.cne (I : Inv X pins σ H s) : ∀ x c, X.env.cells.lookup x = some c → c ≠ X.env.locals := fun x c e z => by
  obtain ⟨v, o, ho, hd⟩ := I.cell x c e
  obtain ⟨m, ⟨o', es, ep, ho', hd', _⟩, _⟩ := I.loc
  rw [z, ho'] at ho; cases ho; rw [hd'] at hd; cases hd
theorem Inv.funs (I : Inv X pins σ H s) : s.heap.FunFrames X.base X.outer := by
  have all : ∀ (l : List Env), (∀ b ∈ frs l, b ∈ X.fs) → X.s₀.heap.FunFrames X.base l → s.heap.FunFrames X.base l := by
    intro l
    induction l with
    | nil => intro _ _; trivial
    | cons env r ih =>
      intro hs hl
      obtain ⟨hk, ⟨L, o, hf, hn, ho, hd⟩, hr⟩ := hl
      have hL : L ∈ X.fs := hs L (by unfold frs; rw [List.filterMap_cons, hf]; exact List.mem_cons_self)
      obtain ⟨sl, e⟩ := I.base.slot L o ho (I.ok.frf L hL) hL fun z => I.ok.exfs L z hL
      exact ⟨hk, ⟨L, _, hf, hn, e, hd⟩, ih (fun b hb => hs b (by unfold frs; rw [List.filterMap_cons, hf]; exact List.mem_cons_of_mem _ hb)) hr⟩
  exact all X.outer (fun _ hb => hb) I.ok.funs
theorem Inv.stack (I : Inv X pins σ H s) : s.heap.FunFrames X.base X.stack := by
  rcases I.ok.stk with e | ⟨e, hf⟩
  · rw [e]; exact I.funs
  · rw [e]
    obtain ⟨m, hn, _⟩ := I.loc
    refine .cons (by rw [I.ok.kind]; decide) hf hn ?_ I.funs
    exact Heap.get?_none_of_le (Nat.le_trans I.ok.bsz I.ok.above)
theorem Inv.stkSub (I : Inv X pins σ H s) : ∀ b ∈ frs X.stack, b ∈ X.env.locals :: X.fs := fun b hb => by
  rcases I.ok.stk with e | ⟨e, hf⟩
  · rw [e] at hb; exact List.mem_cons_of_mem _ hb
  · rw [e] at hb
    unfold frs at hb
    rw [List.filterMap_cons, hf] at hb
    exact hb
theorem Inv.stkFree (I : Inv X pins σ H s) : ∀ b ∈ frs X.stack, H b = none := fun b hb => by
  rcases List.mem_cons.mp (I.stkSub b hb) with e | hb
  · rw [e]; exact I.free
  · obtain ⟨_, o, ho, _⟩ := I.ok.funs.mem hb
    exact I.base.free b o ho (I.ok.frf b hb) fun z => I.ok.exfs b z hb
theorem Inv.step {g' : Array GenState} {t' : Nat} {d' : Drawn} {ch : List Addr} (I : Inv X pins σ H s)
    (hch : ∀ b ∈ ch, (b ∈ X.ex ∨ X.s₀.heap.objs.size ≤ b) ∧ b ≠ X.env.locals ∧ (∀ x c, X.env.cells.lookup x = some c → c ≠ b) ∧ ∀ p ∈ X.pn ++ pins, p.1 ≠ b)
    (keep : ∀ b o, b ≠ X.env.locals → b ∉ X.fs → b ∉ ch → s.heap.get? b = some o → H b = none → h'.get? b = some o)
    (slot : ∀ b o, b ≠ X.env.locals → b ∈ X.fs → b ∉ ch → s.heap.get? b = some o → H b = none → ∃ sl, h'.get? b = some { o with slots := sl }) (free : ∀ b o, b ∉ ch → s.heap.get? b = some o → H b = none → H' b = none)
    (there : ∀ b o, b ∉ ch → s.heap.get? b = some o → ∃ o', h'.get? b = some o')
    (tups : ∀ b xs, H b = some (.tup xs) → H' b = some (.tup xs)) (frzs : ∀ b o u, H b = some (.frz o u) → H' b = some (.frz o u)) (tbls : ∀ b ps, H b = some (.tbl ps) → ∃ more, H' b = some (.tbl (ps ++ more)))
    (ns : ∀ m, s.heap.Ns X.env.locals m → h'.Ns X.env.locals m) (hok : HOk X.prog X.w H' h') (hg : AllBare g') :
    Inv X pins σ H' { s with heap := h', gens := g', drawn := d', toks := t' } := by
  have neL : ∀ b o, X.s₀.heap.get? b = some o → b ≠ X.env.locals := fun b o e => Nat.ne_of_lt (Nat.lt_of_lt_of_le (Heap.lt_size e) I.ok.above)
  have neC : ∀ b o, X.s₀.heap.get? b = some o → b ∉ X.ex → b ∉ ch := fun b o e hx hb => by
    rcases (hch b hb).1 with z | z
    · exact hx z
    · exact absurd (Nat.lt_of_lt_of_le (Heap.lt_size e) z) (Nat.lt_irrefl _)
  have cellK : ∀ x c, X.env.cells.lookup x = some c → ∀ v, s.heap.IsCell c v → h'.IsCell c v := fun x c e v ⟨o, ho, hd⟩ => by
    have nch : c ∉ ch := fun z => (hch c z).2.2.1 x c e rfl
    by_cases hc : c ∈ X.fs
    · obtain ⟨sl, q⟩ := slot c o (I.cne x c e) hc nch ho (I.freeC x c e)
      exact ⟨_, q, hd⟩
    · exact ⟨o, keep c o (I.cne x c e) hc nch ho (I.freeC x c e), hd⟩
  refine ⟨I.ok, I.os, hg, ⟨fun b o e n hb hx => ?_, fun b o e n hb hx => ?_, fun b o e n hx => ?_, fun b o e hx => ?_, fun b xs e => tups b xs (I.base.tups b xs e), fun b o xs e => frzs b o xs (I.base.frzs b o xs e), fun b ps e => ?_⟩, ?_, fun x c e => ?_, ?_, fun x c e => ?_, fun p hp => ?_, hok, I.len⟩
  · exact keep b o (neL b o e) hb (neC b o e hx) (I.base.keep b o e n hb hx) (I.base.free b o e n hx)
  · obtain ⟨sl, e1⟩ := I.base.slot b o e n hb hx
    obtain ⟨sl', e2⟩ := slot b _ (neL b o e) hb (neC b o e hx) e1 (I.base.free b o e n hx)
    exact ⟨sl', e2⟩
  · obtain ⟨o', e1⟩ := I.base.there b o e hx
    exact free b o' (neC b o e hx) e1 (I.base.free b o e n hx)
  · obtain ⟨o', e1⟩ := I.base.there b o e hx
    exact there b o' (neC b o e hx) e1
  · obtain ⟨m1, e1⟩ := I.base.tbls b ps e
    obtain ⟨m2, e2⟩ := tbls b _ e1
    exact ⟨m1 ++ m2, by rw [e2, Array.append_assoc]⟩
  · obtain ⟨m, hn, hl⟩ := I.loc
    refine ⟨m, ns m hn, fun i x v e1 e2 e3 => ?_⟩
    obtain ⟨u, r, l⟩ := hl i x v e1 e2 e3
    refine ⟨u, r, ?_⟩
    rcases l with l | ⟨k, c, e, z⟩
    · exact .inl l
    · exact .inr ⟨k, c, e, cellK x c e _ z⟩
  · obtain ⟨v, z⟩ := I.cell x c e
    exact ⟨v, cellK x c e v z⟩
  · obtain ⟨m, ⟨o, _, _, ho, _⟩, _⟩ := I.loc
    exact free _ o (fun z => (hch _ z).2.1 rfl) ho I.free
  · obtain ⟨v, o, ho, hd⟩ := I.cell x c e
    exact free c o (fun z => (hch c z).2.2.1 x c e rfl) ho (I.freeC x c e)
  · obtain ⟨e, n, ne, nf, d⟩ := I.pin p hp
    have nch : p.1 ∉ ch := fun z => (hch p.1 z).2.2.2 p hp rfl
    exact ⟨keep p.1 p.2 ne nf nch e n, free p.1 p.2 nch e n, ne, nf, d⟩
theorem Inv.un {t' : Nat} (I : Inv X pins σ H s) (u : Un X.fs [] H H' s.heap h') (hok : HOk X.prog X.w H' h') : Inv X pins σ H' { s with heap := h', toks := t' } := by
  obtain ⟨m, ⟨o, es, ep, ho, r⟩, _⟩ := id I.loc
  obtain ⟨sl, hL⟩ := u.any ho I.free (by simp)
  exact I.step (g' := s.gens) (d' := s.drawn) (ch := []) (fun _ z => nomatch z) (fun b o _ hb _ e n => u.keep b o e n hb (by simp)) (fun b o _ hb _ e n => u.slot b o e n hb (by simp)) (fun b o _ e n => u.free b o e n (by simp)) (fun b o _ e => u.there b o e (by simp)) u.tups u.frzs u.tbls (fun m' hm => by
    obtain ⟨o', es', ep', ho', r'⟩ := hm
    rw [ho] at ho'; cases ho'
    exact ⟨_, es', ep', hL, r'⟩) hok I.bare
theorem Inv.call {g' : Array GenState} {t' : Nat} {d' : Drawn} {ch : List Addr} (I : Inv X pins σ H s) (u : Un (frs X.stack) ch H H' s.heap h') (hok : HOk X.prog X.w H' h') (hg : AllBare g')
    (hch : ∀ b ∈ ch, (b ∈ X.ex ∨ X.s₀.heap.objs.size ≤ b) ∧ b ≠ X.env.locals ∧ (∀ x c, X.env.cells.lookup x = some c → c ≠ b) ∧ ∀ p ∈ X.pn ++ pins, p.1 ≠ b) :
    Inv X pins σ H' { s with heap := h', gens := g', drawn := d', toks := t' } := by
  obtain ⟨m, ⟨o, es, ep, ho, r⟩, _⟩ := id I.loc
  obtain ⟨sl, hL⟩ := u.any ho I.free fun z => (hch _ z).2.1 rfl
  exact I.step (ch := ch) hch (fun b o hL hb hc e n => u.keep b o e n (fun z => (List.mem_cons.mp (I.stkSub b z)).elim hL hb) hc) (fun b o _ _ hc e n => u.any e n hc) (fun b o hc e n => u.free b o e n hc) (fun b o hc e => u.there b o e hc) u.tups u.frzs u.tbls (fun m' hm => by
    obtain ⟨o', es', ep', ho', r'⟩ := hm
    rw [ho] at ho'; cases ho'
    exact ⟨_, es', ep', hL, r'⟩) hok hg
theorem Inv.turned {t' : Nat} {it : Addr} (I : Inv X pins σ H s) (k : ∀ b o, b ≠ it → s.heap.get? b = some o → h'.get? b = some o) (hn : H it = none) (hL : it ≠ X.env.locals)
    (h1 : it ∈ X.ex ∨ X.s₀.heap.objs.size ≤ it) (h2 : ∀ x c, X.env.cells.lookup x = some c → c ≠ it) (h3 : ∀ p ∈ X.pn ++ pins, p.1 ≠ it) : Inv X pins σ H { s with heap := h', toks := t' } := by
  have nit : ∀ b u, H b = some u → b ≠ it := fun b u e z => by rw [z, hn] at e; cases e
  refine I.step (g' := s.gens) (d' := s.drawn) (ch := [it]) (fun b hb => ?_) (fun b o _ _ hc e _ => k b o (fun z => hc (by simp [z])) e) (fun b o _ _ hc e _ => ⟨o.slots, k b o (fun z => hc (by simp [z])) e⟩) (fun _ _ _ _ n => n)
    (fun b o hc e => ⟨o, k b o (fun z => hc (by simp [z])) e⟩) (fun _ _ e => e) (fun _ _ _ e => e) (fun b ps e => ⟨#[], by rw [e]; simp⟩) (fun m hm => ?_) (fun b u e => ?_) I.bare
  · have e : b = it := by simpa using hb
    subst e
    exact ⟨h1, hL, h2, h3⟩
  · obtain ⟨o, es, ep, ho, r⟩ := hm
    exact ⟨o, es, ep, k _ o (Ne.symm hL) ho, r⟩
  · refine (I.hok b u e).stay (fun c v hc q => k c v ?_ q) (fun _ q => q) fun _ _ q => q
    rcases hc with z | z
    · rw [z]; exact nit b u e
    · exact nit c _ z
theorem Inv.tok (I : Inv X pins σ H s) (t : Nat) : Inv X pins σ H { s with toks := t } := I.un (h' := s.heap) (t' := t) Un.refl I.hok
theorem Inv.kept {t' : Nat} (I : Inv X pins σ H s) (k : ∀ b u, s.heap.get? b = some u → h'.get? b = some u) : Inv X pins σ H { s with heap := h', toks := t' } := I.un (Un.kept k) (I.hok.kept k)
theorem Inv.laid {a : Addr} {o : HO} {t' : Nat} (I : Inv X pins σ H s) (k : ∀ b u, s.heap.get? b = some u → h'.get? b = some u) (hp : s.heap.objs.size ≤ a) (new : ObjOk X.prog X.w (upd H a o) h' a o) :
    Inv X pins σ (upd H a o) { s with heap := h', toks := t' } := I.un (Un.laid k hp (I.hok.fresh hp)) (I.hok.laid k hp new)
theorem Inv.write {x e : Addr} {o : HO} {t' : Nat} (I : Inv X pins σ H s) (mu : Mut (H x)) (he : e = x ∨ H e = some (.own x)) (k : ∀ b u, b ≠ e → s.heap.get? b = some u → h'.get? b = some u) (heo : ∃ u, h'.get? e = some u)
    (new : ObjOk X.prog X.w (upd H x o) h' x o) : Inv X pins σ (upd H x o) { s with heap := h', toks := t' } := I.un (Un.write mu he k heo) (I.hok.write mu he k heo new)
theorem Inv.pins_of {pins' : List (Addr × Obj)} (I : Inv X pins σ H s) (h : ∀ p ∈ pins', s.heap.get? p.1 = some p.2 ∧ H p.1 = none ∧ p.1 ≠ X.env.locals ∧ p.1 ∉ X.fs ∧ ∀ v, p.2.data ≠ .cell v) : Inv X pins' σ H s :=
  ⟨I.ok, I.os, I.bare, I.base, I.loc, I.cell, I.free, I.freeC, fun p hp => (List.mem_append.mp hp).elim (fun z => I.pin p (List.mem_append_left _ z)) (h p), I.hok, I.len⟩
theorem nodup_ix {N : List Str} (hN : N.Nodup) {i j : Nat} {x : Str} (a : N[i]? = some x) (b : N[j]? = some x) : i = j := by
  obtain ⟨h1, e1⟩ := List.getElem?_eq_some_iff.mp a
  obtain ⟨h2, e2⟩ := List.getElem?_eq_some_iff.mp b
  exact (List.getElem_inj hN).mp (e1.trans e2.symm)
theorem store_ok2 {M : Model} {A : Around} {E : Value → Shared → Prop} {i : Nat} {x : Str} {v : V} {u : Value} {Q : Unit → Shared → Prop} (I : Inv X pins σ H s) (hN : X.N.Nodup) (hi : X.N[i]? = some x) (hx : Loc X.env.scope x) (r : RelV v u)
    (h : ∀ s', Inv X pins (σ.set i (some v)) H s' → (∃ a, Heap.SameBut a s.heap s'.heap ∧ (a = X.env.locals ∨ X.env.cells.lookup x = some a)) → Q () s') (hf : X.fn x = true ∨ X.env.scope.names.lookup x = some .local := by first | exact .inl rfl | exact .inr rfl | assumption) : wpAny M A (storeName X.env x u) Q E s := by
  obtain ⟨m, hn, hl⟩ := id I.loc
  have hcls : (X.env.scope.kind == .class || (X.env.scope.kind == .module && X.env.locals != X.env.globals)) = false := by rw [I.ok.kind]; rfl
  have hiσ : i < σ.length := by rw [I.len]; exact (List.getElem?_eq_some_iff.mp hi).1
  have cne := I.cne
  have tracked : ∀ {a : Addr} {h' : Heap}, (∃ o, s.heap.get? a = some o ∧ H a = none) → Heap.SameBut a s.heap h' → HOk X.prog X.w H h' := fun {a h'} ha hs b ob e => by
    obtain ⟨_, _, hfree⟩ := ha
    refine (I.hok b ob e).stay (fun c w' hc q => (hs.2 c ?_).trans q) (fun _ q => q) fun _ _ q => q
    rintro rfl
    rcases hc with rfl | hc
    · rw [hfree] at e; cases e
    · rw [hfree] at hc; cases hc
  rcases hx with hk | hk
  · refine wpAny_storeName_local hk hn (fun h' hn' hs => ?_) hcls
    obtain ⟨oL, _, _, hoL, _⟩ := id hn
    refine h _ ⟨I.ok, I.os, I.bare, ⟨fun b o e n hb hx => ?_, fun b o e n hb hx => ?_, I.base.free, fun b o e hx => ?_, I.base.tups, I.base.frzs, I.base.tbls⟩, ⟨_, hn', fun j y v' e1 e2 e3 => ?_⟩, fun y c e => ?_, I.free, I.freeC, fun p hp => ?_, tracked ⟨oL, hoL, I.free⟩ hs, by simpa using I.len⟩ ⟨_, hs, .inl rfl⟩
    · exact (hs.2 b (Nat.ne_of_lt (Nat.lt_of_lt_of_le (Heap.lt_size e) I.ok.above))).trans (I.base.keep b o e n hb hx)
    · obtain ⟨sl, e1⟩ := I.base.slot b o e n hb hx
      exact ⟨sl, (hs.2 b (Nat.ne_of_lt (Nat.lt_of_lt_of_le (Heap.lt_size e) I.ok.above))).trans e1⟩
    · obtain ⟨o', e1⟩ := I.base.there b o e hx
      exact ⟨o', (hs.2 b (Nat.ne_of_lt (Nat.lt_of_lt_of_le (Heap.lt_size e) I.ok.above))).trans e1⟩
    · by_cases hj : j = i
      · subst hj
        rw [hi] at e1; cases e1
        rw [List.getElem?_set_self hiσ] at e2
        cases e2
        exact ⟨u, r, .inl ⟨hk, by simp⟩⟩
      · rw [List.getElem?_set_ne (Ne.symm hj)] at e2
        obtain ⟨u', r', q⟩ := hl j y v' e1 e2 e3
        refine ⟨u', r', ?_⟩
        rcases q with ⟨k, e⟩ | ⟨k, c, e, z⟩
        · refine .inl ⟨k, ?_⟩
          have : y ≠ x := fun e => hj (nodup_ix hN e1 (e ▸ hi))
          simp [this, e]
        · exact .inr ⟨k, c, e, z.sameBut hs (cne y c e)⟩
    · obtain ⟨w', z⟩ := I.cell y c e
      exact ⟨w', z.sameBut hs (cne y c e)⟩
    · obtain ⟨e, n, ne, nf, d⟩ := I.pin p hp
      exact ⟨(hs.2 p.1 ne).trans e, n, ne, nf, d⟩
  · have hfn : X.fn x = true := by
      rcases hf with z | z
      · exact z
      · rw [z] at hk; cases hk
    obtain ⟨c, hc⟩ := I.ok.has x (.inl hk)
    obtain ⟨w', z⟩ := I.cell x c hc
    refine wpAny_storeName_cell I.ok.kind hk hc z (fun h' hc' hs => ?_)
    obtain ⟨oc, hoc, hocd⟩ := id z
    refine h { s with heap := h' } ⟨I.ok, I.os, I.bare, ⟨fun b o e n hb hx => ?_, fun b o e n hb hx => ?_, I.base.free, fun b o e hx => ?_, I.base.tups, I.base.frzs, I.base.tbls⟩, ⟨m, hn.sameBut hs (Ne.symm (cne x c hc)), fun j y v' e1 e2 e3 => ?_⟩, fun y c' e => ?_, I.free, I.freeC, fun p hp => ?_, tracked ⟨oc, hoc, I.freeC x c hc⟩ hs, by simpa using I.len⟩ ⟨c, hs, .inr hc⟩
    · exact (hs.2 b (Nat.ne_of_lt (Nat.lt_of_lt_of_le (Heap.lt_size e) (I.ok.cab x c hfn hc)))).trans (I.base.keep b o e n hb hx)
    · obtain ⟨sl, e1⟩ := I.base.slot b o e n hb hx
      exact ⟨sl, (hs.2 b (Nat.ne_of_lt (Nat.lt_of_lt_of_le (Heap.lt_size e) (I.ok.cab x c hfn hc)))).trans e1⟩
    · obtain ⟨o', e1⟩ := I.base.there b o e hx
      exact ⟨o', (hs.2 b (Nat.ne_of_lt (Nat.lt_of_lt_of_le (Heap.lt_size e) (I.ok.cab x c hfn hc)))).trans e1⟩
    · by_cases hj : j = i
      · subst hj
        rw [hi] at e1; cases e1
        rw [List.getElem?_set_self hiσ] at e2
        cases e2
        exact ⟨u, r, .inr ⟨.inl hk, c, hc, hc'⟩⟩
      · rw [List.getElem?_set_ne (Ne.symm hj)] at e2
        obtain ⟨u', r', q⟩ := hl j y v' e1 e2 e3
        refine ⟨u', r', ?_⟩
        rcases q with q | ⟨k, c', e, z'⟩
        · exact .inl q
        · refine .inr ⟨k, c', e, z'.sameBut hs ?_⟩
          rintro rfl
          exact hj (nodup_ix hN e1 (I.ok.inj _ _ _ e hc ▸ hi))
    · by_cases hcc : c' = c
      · subst hcc; exact ⟨_, hc'⟩
      · obtain ⟨w2, z2⟩ := I.cell y c' e
        exact ⟨w2, z2.sameBut hs hcc⟩
    · obtain ⟨e, n, ne, nf, d⟩ := I.pin p hp
      refine ⟨(hs.2 p.1 ?_).trans e, n, ne, nf, d⟩
      intro q
      rw [q, hoc] at e
      have q' : oc = p.2 := Option.some.inj e
      exact d w' (by rw [← q']; exact hocd)
theorem store_ok {M : Model} {A : Around} {E : Value → Shared → Prop} {i : Nat} {x : Str} {v : V} {u : Value} {Q : Unit → Shared → Prop} (I : Inv X pins σ H s) (hN : X.N.Nodup) (hi : X.N[i]? = some x) (hx : Loc X.env.scope x) (r : RelV v u)
    (h : ∀ s', Inv X pins (σ.set i (some v)) H s' → Q () s') (hf : X.fn x = true ∨ X.env.scope.names.lookup x = some .local := by first | exact .inl rfl | exact .inr rfl | assumption) : wpAny M A (storeName X.env x u) Q E s :=
  store_ok2 I hN hi hx r (fun s' I' _ => h s' I') hf
theorem Inv.call' {s' : Shared} {ch : List Addr} (I : Inv X pins σ H s) (ho : s'.os = s.os) (u : Un (frs X.stack) ch H H' s.heap s'.heap) (hok : HOk X.prog X.w H' s'.heap) (hg : AllBare s'.gens)
    (hch : ∀ b ∈ ch, (b ∈ X.ex ∨ X.s₀.heap.objs.size ≤ b) ∧ b ≠ X.env.locals ∧ (∀ x c, X.env.cells.lookup x = some c → c ≠ b) ∧ ∀ p ∈ X.pn ++ pins, p.1 ≠ b) : Inv X pins σ H' s' := by
  obtain ⟨h', g', d', t', o'⟩ := s'
  have e : o' = s.os := ho
  subst e
  exact I.call (g' := g') (t' := t') (d' := d') u hok hg hch
end
abbrev XK := Value → Option Addr → Hp → Prop
abbrev St := List (Option V)
abbrev VK := V → Hp → Prop
abbrev TE := St → Hp → VK → Prop
abbrev TT := St → Hp → (Bool → Hp → Prop) → Prop
abbrev TA := St → Hp → (List V → Hp → Prop) → Prop
structure Ends where
  nx : St → Hp → Prop
  rt : VK
  bk : St → Hp → Prop := fun _ _ => False
  ct : St → Hp → Prop := fun _ _ => False
abbrev TS := Ends → St → Hp → Prop
def EP (X : Cx) (pins : List (Addr × Obj)) (σ : St) (Q : VK) (u : Value) (s' : Shared) : Prop := ∃ v H', Inv X pins σ H' s' ∧ RelV v u ∧ Q v H'
def TP (X : Cx) (pins : List (Addr × Obj)) (σ : St) (Q : Bool → Hp → Prop) (b : Bool) (s' : Shared) : Prop := ∃ H', Inv X pins σ H' s' ∧ Q b H'
def AP (X : Cx) (pins : List (Addr × Obj)) (σ : St) (Q : List V → Hp → Prop) (us : List Value) (s' : Shared) : Prop := ∃ vs H', Inv X pins σ H' s' ∧ Vals vs us ∧ Q vs H'
def SP (X : Cx) (pins : List (Addr × Obj)) (D : Ends) (f : Flow) (s' : Shared) : Prop :=
  match f with
  | .next => ∃ σ' H', Inv X pins σ' H' s' ∧ D.nx σ' H'
  | .brk => ∃ σ' H', Inv X pins σ' H' s' ∧ D.bk σ' H'
  | .cont => ∃ σ' H', Inv X pins σ' H' s' ∧ D.ct σ' H'
  | .ret u => ∃ v σ' H', Inv X pins σ' H' s' ∧ RelV v u ∧ D.rt v H'
def PE (X : Cx) (e : Expr) (t : TE) : Prop :=
  ∀ (pins : List (Addr × Obj)) (s : Shared) (σ : St) (H : Hp) (Q : VK), Inv X pins σ H s → t σ H Q → wpAny (model X.prog X.w) X.A (eval e X.env) (EP X pins σ Q) X.xe s
def PT (X : Cx) (e : Expr) (t : TT) : Prop :=
  ∀ (pins : List (Addr × Obj)) (s : Shared) (σ : St) (H : Hp) (Q : Bool → Hp → Prop), Inv X pins σ H s → t σ H Q → wpAny (model X.prog X.w) X.A (isTrue e X.env (eval e X.env)) (TP X pins σ Q) X.xe s
def PW (X : Cx) (e : Expr) (t : TT) : Prop :=
  ∀ (whole : Sem Value) (pins : List (Addr × Obj)) (s : Shared) (σ : St) (H : Hp) (Q : Bool → Hp → Prop), Inv X pins σ H s → t σ H Q → wpAny (model X.prog X.w) X.A (isTrue e X.env whole) (TP X pins σ Q) X.xe s
def PA (X : Cx) (es : List Expr) (t : TA) : Prop :=
  ∀ (pos : Pos) (pins : List (Addr × Obj)) (s : Shared) (σ : St) (H : Hp) (Q : List V → Hp → Prop), Inv X pins σ H s → t σ H Q → wpAny (model X.prog X.w) X.A (spliced (backTo pos (starEach es X.env))) (AP X pins σ Q) X.xe s
def PS (X : Cx) (st : Stmt) (t : TS) : Prop :=
  ∀ (pins : List (Addr × Obj)) (s : Shared) (σ : St) (H : Hp) (D : Ends), Inv X pins σ H s → t D σ H → wpAny (model X.prog X.w) X.A (exec st X.env) (SP X pins D) X.xe s
def PSs (X : Cx) (st : List Stmt) (t : TS) : Prop :=
  ∀ (pins : List (Addr × Obj)) (s : Shared) (σ : St) (H : Hp) (D : Ends), Inv X pins σ H s → t D σ H → wpAny (model X.prog X.w) X.A (execs st X.env) (SP X pins D) X.xe s
theorem thn {α : Type} {t : Sem α} {Q Q' : α → Shared → Prop} {M : Model} {A : Around} {E : Value → Shared → Prop} {s : Shared} (h : wpAny M A t Q E s) (hQ : ∀ a s, Q a s → Q' a s) : wpAny M A t Q' E s := wpAny_mono h hQ fun _ _ x => x
end L2
namespace L2
open PySem PySem.Spec PyProof.Rows
section
variable {X : Cx}
theorem bin {a b : Expr} {ta tb : TE} (ha : PE X a ta) (hb : PE X b tb) {pins : List (Addr × Obj)} {s : Shared} {σ : St} {H : Hp} {R : V → V → Hp → Prop} (I : Inv X pins σ H s) (h : ta σ H fun x H1 => tb σ H1 fun y H2 => R x y H2)
    {α : Type} {Q : α → Shared → Prop} {f : Value → Value → Sem α}
    (hf : ∀ v u s2 x y H2, Inv X pins σ H2 s2 → RelV x v → RelV y u → R x y H2 → wpAny (model X.prog X.w) X.A (f v u) Q X.xe s2) :
    wpAny (model X.prog X.w) X.A (eval a X.env) (fun v s₁ => wpAny (model X.prog X.w) X.A (eval b X.env) (fun u s₂ => wpAny (model X.prog X.w) X.A (f v u) Q X.xe s₂) X.xe s₁) X.xe s := by
  refine thn (ha pins s σ H _ I h) fun v s1 ⟨x, H1, I1, r1, q1⟩ => ?_
  refine thn (hb pins s1 σ H1 _ I1 q1) fun u s2 ⟨y, H2, I2, r2, q2⟩ => ?_
  exact hf v u s2 x y H2 I2 r1 r2 q2
def tVar (i : Nat) : TE := fun σ H Q => ∃ v, σ[i]? = some (some v) ∧ Q v H
def tC (v : V) : TE := fun _ H Q => Q v H
theorem pe_var {i : Nat} {x : Str} {pos : Pos} (hN : X.N[i]? = some x) (hv : Vis X.env.scope x) (hd : (x == ("__debug__" : Str)) = false := by decide) (hcd : (x == ("__classdict__" : Str)) = false := by decide) : PE X (.Name x pos) (tVar i) := by
  intro pins s σ H Q I h
  obtain ⟨v, e, h⟩ := h
  obtain ⟨m, hn, hl⟩ := I.loc
  obtain ⟨u, r, l⟩ := hl i x v hN e hv
  have fin : EP X pins σ Q u s := ⟨v, H, I, r, h⟩
  rcases l with ⟨hk, hm⟩ | ⟨hk, c, hc, hcell⟩
  · exact wpAny_Name (wpAny_loadName_local I.ok.kind hk hn hm fin) hd
  · rcases hk with hk | hk
    · exact wpAny_Name (wpAny_loadName_cell I.ok.kind hk hc hcell fin) hd
    · exact wpAny_Name (wpAny_loadName_free I.ok.kind hk hc hcell fin hcd) hd
theorem pe_int {i j pos} : PE X (.Constant (.int i) j pos) (tC (.int i)) := fun _ _ _ H _ I h => wpAny_Constant_int ⟨.int i, H, I.tok _, ⟨_, rfl⟩, h⟩
theorem pe_bl {b j pos} : PE X (.Constant (.bool b) j pos) (tC (.bl b)) := fun _ _ _ H _ I h => Constant_bool ⟨.bl b, H, I, rfl, h⟩
theorem pe_non {j pos} : PE X (.Constant .none j pos) (tC .non) := fun _ _ _ H _ I h => Constant_none ⟨.non, H, I, rfl, h⟩
theorem pe_str {x j pos} : PE X (.Constant (.str x) j pos) (tC (.str x)) := fun _ _ _ H _ I h => Calls.Constant_str ⟨.str x, H, I.tok _, ⟨_, rfl⟩, h⟩
def Gl (X : Cx) (x : Str) : Prop := X.env.kindOf x = some .globalImplicit
theorem ld_glob {E : Value → Shared → Prop} {pins : List (Addr × Obj)} {s : Shared} {σ : St} {H : Hp} {x : Str} {u : Value} {pos : Pos} {Q : Value → Shared → Prop} (I : Inv X pins σ H s) (hg : Gl X x) (hm : X.mg x = some u) (h : Q u s)
    (hd : (x == ("__debug__" : Str)) = false := by decide) : wpAny (model X.prog X.w) X.A (eval (.Name x pos) X.env) Q E s :=
  Calls.Name_function_global I.ok.kind hg (Calls.loadGlobal_global (by rw [I.ok.glob]; exact I.mod.glob.keeps I.bk) hm h) hd
theorem ld_blt {E : Value → Shared → Prop} {pins : List (Addr × Obj)} {s : Shared} {σ : St} {H : Hp} {x : Str} {u : Value} {pos : Pos} {Q : Value → Shared → Prop} (I : Inv X pins σ H s) (hg : Gl X x) (hm : X.mg x = none) (hv : bootBuiltins x = some u) (h : Q u s)
    (hn : x ≠ "__name__" := by decide) (hd : (x == ("__debug__" : Str)) = false := by decide) : wpAny (model X.prog X.w) X.A (eval (.Name x pos) X.env) Q E s := by
  obtain ⟨mb, h1, h2⟩ := I.mod.blt
  exact Calls.Name_function_global I.ok.kind hg (Calls.loadGlobal_builtin (by rw [I.ok.glob]; exact I.mod.glob.keeps I.bk) hm (by rw [I.ok.blt]; exact h1.keeps I.bk) ((h2 x hn).trans hv) h) hd
theorem pe_glob {x : Str} {v : V} {u : Value} {pos : Pos} (hg : Gl X x) (hm : X.mg x = some u) (r : RelV v u) (hd : (x == ("__debug__" : Str)) = false := by decide) : PE X (.Name x pos) (tC v) :=
  fun _ _ _ H _ I h => ld_glob I hg hm ⟨v, H, I, r, h⟩ hd
theorem pe_bltn {x : Str} {v : V} {u : Value} {pos : Pos} (hg : Gl X x) (hm : X.mg x = none) (hv : bootBuiltins x = some u) (r : RelV v u) (hn : x ≠ "__name__" := by decide) (hd : (x == ("__debug__" : Str)) = false := by decide) : PE X (.Name x pos) (tC v) :=
  fun _ _ _ H _ I h => ld_blt I hg hm hv ⟨v, H, I, r, h⟩ hn hd
variable {a b : Expr} {ta tb : TE} {pos : Pos}
def PC (X : Cx) (op : CmpOp) (a b : Expr) (t : TE) : Prop :=
  ∀ (pins : List (Addr × Obj)) (s : Shared) (σ : St) (H : Hp) (Q : VK), Inv X pins σ H s → t σ H Q →
    wpAny (model X.prog X.w) X.A (eval a X.env) (fun v s₁ => wpAny (model X.prog X.w) X.A (eval b X.env) (fun u s₂ => wpAny (model X.prog X.w) X.A (compareOp op v u) (EP X pins σ Q) X.xe s₂) X.xe s₁) X.xe s
theorem nobehind (b : Expr) {op : CmpOp} (h : op ≠ .In) (h2 : op ≠ .NotIn) : behindInMarks op b = false := by
  have e1 : (op == CmpOp.In) = false := by cases op <;> first | rfl | exact absurd rfl h
  have e2 : (op == CmpOp.NotIn) = false := by cases op <;> first | rfl | exact absurd rfl h2
  cases b <;> simp [behindInMarks, e1, e2]
def tB (t : TE) : TT := fun σ H Q => t σ H fun x H1 => ∃ c, x = .bl c ∧ Q c H1
theorem pt_cmp {op : CmpOp} {t : TE} (h : PC X op a b t) (h1 : behindInMarks op b = false := by first | exact nobehind _ (by decide) (by decide) | rfl) : PT X (.Compare a [op] [b] pos) (tB t) := by
  intro pins s σ H Q I hw
  refine wpAny_isTrue_Compare1 (thn (h pins s σ H _ I hw) fun v s1 h1 => thn h1 fun u s2 h2 => thn h2 fun c s3 ⟨x, H1, I1, r1, q1⟩ => ?_) h1
  obtain ⟨d, rfl, q⟩ := q1
  cases r1
  exact wpAny_truthy_bool ⟨H1, I1, q⟩
theorem pt_val {e : Expr} {t : TE} (h : PE X e t) (he : ∀ whole, isTrue e X.env whole = (do let v ← whole; standAt e.pos; holding [v] (truthy v)) := by intro _; rfl) : PT X e (tB t) := by
  intro pins s σ H Q I hw
  refine isTrue_plain (thn (h pins s σ H _ I hw) fun v s1 ⟨x, H1, I1, r1, q1⟩ => ?_) (he _)
  obtain ⟨d, rfl, q⟩ := q1
  cases r1
  exact wpAny_truthy_bool ⟨H1, I1, q⟩
variable {tA tB' : TT} {rest : List Expr}
def tAnd (t u : TT) : TT := fun σ H Q => t σ H fun c H1 => if c = true then u σ H1 Q else Q false H1
def tOr (t u : TT) : TT := fun σ H Q => t σ H fun c H1 => if c = true then Q true H1 else u σ H1 Q
def tNot (t : TT) : TT := fun σ H Q => t σ H fun c H1 => Q (!c) H1
theorem pw_and1 (ha : PT X a tA) : PW X (.BoolOp .And [a] pos) tA := by
  intro wh pins s σ H Q I h
  refine isTrue_and (thn (ha pins s σ H Q I h) fun c s1 e => ?_)
  cases c with
  | true => exact isTrue_and_nil e
  | false => exact e
theorem pw_or1 (ha : PT X a tA) : PW X (.BoolOp .Or [a] pos) tA := by
  intro wh pins s σ H Q I h
  refine isTrue_or (thn (ha pins s σ H Q I h) fun c s1 e => ?_)
  cases c with
  | false => exact isTrue_or_nil e
  | true => exact e
theorem pw_and (ha : PT X a tA) (hb : PW X (.BoolOp .And (b :: rest) pos) tB') : PW X (.BoolOp .And (a :: b :: rest) pos) (tAnd tA tB') := by
  intro wh pins s σ H Q I h
  refine isTrue_and (thn (ha pins s σ H _ I h) fun c s1 ⟨H1, I1, q1⟩ => ?_)
  cases c with
  | true => exact hb wh pins s1 σ H1 Q I1 q1
  | false => exact ⟨H1, I1, q1⟩
theorem pw_or (ha : PT X a tA) (hb : PW X (.BoolOp .Or (b :: rest) pos) tB') : PW X (.BoolOp .Or (a :: b :: rest) pos) (tOr tA tB') := by
  intro wh pins s σ H Q I h
  refine isTrue_or (thn (ha pins s σ H _ I h) fun c s1 ⟨H1, I1, q1⟩ => ?_)
  cases c with
  | true => exact ⟨H1, I1, q1⟩
  | false => exact hb wh pins s1 σ H1 Q I1 q1
theorem pt_not (ha : PT X a tA) : PT X (.UnaryOp .Not a pos) (tNot tA) := by
  intro pins s σ H Q I h
  exact isTrue_not (ha pins s σ H (fun c H1 => Q (!c) H1) I h)
def tAndV (ta tb : TE) : TE := fun σ H Q => ta σ H fun x H1 => ∃ c, x = .bl c ∧ if c = true then tb σ H1 Q else Q (.bl false) H1
def tNotV (ta : TE) : TE := fun σ H Q => ta σ H fun x H1 => ∃ c, x = .bl c ∧ Q (.bl (!c)) H1
theorem pe_one {op} {t : TE} (h : PE X a t) : PE X (.BoolOp op [a] pos) t := fun pins s σ H Q I hw => BoolOp_one (h pins s σ H Q I hw)
theorem pe_and (ha : PE X a ta) (hb : PE X (.BoolOp .And (b :: rest) pos) tb) : PE X (.BoolOp .And (a :: b :: rest) pos) (tAndV ta tb) := by
  intro pins s σ H Q I h
  refine BoolOp_and (thn (ha pins s σ H _ I h) fun v s1 ⟨x, H1, I1, r1, q1⟩ => ?_)
  obtain ⟨c, rfl, q1⟩ := q1
  cases r1
  refine wpAny_truthy_bool ?_
  cases c with
  | true => exact hb pins s1 σ H1 Q I1 q1
  | false => exact ⟨.bl false, H1, I1, rfl, q1⟩
theorem pe_not (ha : PE X a ta) : PE X (.UnaryOp .Not a pos) (tNotV ta) := by
  intro pins s σ H Q I h
  refine UnaryOp_ (thn (ha pins s σ H _ I h) fun v s1 ⟨x, H1, I1, r1, q1⟩ => ?_)
  obtain ⟨c, rfl, q1⟩ := q1
  cases r1
  exact not_of (wpAny_truthy_bool ⟨.bl (!c), H1, I1, rfl, q1⟩)
def tIf (t : TT) (ta tb : TE) : TE := fun σ H Q => t σ H fun c H1 => if c = true then ta σ H1 Q else tb σ H1 Q
theorem pe_ifExp {c : Expr} (hc : PT X c tA) (ha : PE X a ta) (hb : PE X b tb) : PE X (.IfExp c a b pos) (tIf tA ta tb) := by
  intro pins s σ H Q I h
  refine wpAny_IfExp (thn (hc pins s σ H _ I h) fun d s1 ⟨H1, I1, q1⟩ => ?_)
  cases d with
  | true => exact ha pins s1 σ H1 Q I1 q1
  | false => exact hb pins s1 σ H1 Q I1 q1
end
end L2
namespace L2
open PySem PySem.Spec PyProof.Rows
def SqL (K : PySem.W.Frag) (H : Hp) (a : Addr) (xs : List V) : Prop :=
  Rd H a (.lst xs) ∨
    ∃ (o : Obj) (its : Array Value) (n : Nat), K.lookup a = some o ∧ o.cls = .type "list" ∧ o.dict = none ∧ o.data = .seq its n ∧ its.size ≤ sizeLine ∧ Vals xs its.toList
def SqT (K : PySem.W.Frag) (H : Hp) (a : Addr) (xs : List V) : Prop :=
  Rd H a (.tup xs) ∨
    ∃ (o : Obj) (its : Array Value) (n : Nat), K.lookup a = some o ∧ o.cls = .type "tuple" ∧ o.data = .seq its n ∧ its.size ≤ sizeLine ∧ Vals xs its.toList
def absV : Value → Option V
  | .none => some .non
  | .bool b => some (.bl b)
  | .int i _ => some (.int i)
  | .str x _ => some (.str x)
  | .bytes b _ => some (.byt b)
  | .float b _ => some (.flt b)
  | .ref a => some (.ref a)
  | .type n => some (.ty n)
  | _ => none
theorem RelV.abs {x : V} {u : Value} (r : RelV x u) : absV u = some x := by
  cases x with
  | non => cases r; rfl
  | bl _ => cases r; rfl
  | int _ => obtain ⟨t, rfl⟩ := r; rfl
  | str _ => obtain ⟨t, rfl⟩ := r; rfl
  | byt _ => obtain ⟨t, rfl⟩ := r; rfl
  | flt _ => obtain ⟨t, rfl⟩ := r; rfl
  | ref _ => cases r; rfl
  | ty _ => cases r; rfl
theorem RelV.inj {x y : V} {u : Value} (r : RelV x u) (q : RelV y u) : x = y := Option.some.inj (r.abs.symm.trans q.abs)
theorem Vals.inj : ∀ {xs ys : List V} {us : List Value}, Vals xs us → Vals ys us → xs = ys
  | _, _, _, .nil, .nil => rfl
  | _, _, _, .cons r t, .cons r' t' => by rw [r.inj r', Vals.inj t t']
section
variable {X : Cx} {pins : List (Addr × Obj)} {σ : St} {H : Hp} {s : Shared} {a : Addr} {xs ys : List V}
theorem SqL.of {K : PySem.W.Frag} (h : H a = some (.lst xs)) : SqL K H a xs := .inl (.inl h)
theorem SqT.of {K : PySem.W.Frag} (h : H a = some (.tup xs)) : SqT K H a xs := .inl (.inl h)
theorem Inv.list (I : Inv X pins σ H s) (h : SqL X.K H a xs) : ∃ its : List Value, Vals xs its ∧ PlainL s.heap a its.toArray ∧ xs.length ≤ sizeLine := by
  rcases h with h | ⟨o, its, n, hk, hc, hd, hs, hz, r⟩
  · obtain ⟨z, its, n, r, e⟩ := h.ok I.hok
    exact ⟨its, r, ⟨_, n, e, rfl, rfl, rfl⟩, z⟩
  · refine ⟨its.toList, r, ⟨o, n, I.kIn a o hk, hc, hd, by simpa using hs⟩, ?_⟩
    have e := r.length
    simp only [Array.length_toList] at e
    omega
theorem Inv.tuple (I : Inv X pins σ H s) (h : SqT X.K H a xs) : ∃ its : List Value, Vals xs its ∧ IsTup s.heap a its.toArray ∧ xs.length ≤ sizeLine := by
  rcases h with h | ⟨o, its, n, hk, hc, hs, hz, r⟩
  · obtain ⟨z, its, r, p⟩ := h.ok I.hok
    exact ⟨its, r, p, z⟩
  · refine ⟨its.toList, r, ⟨o, I.kIn a o hk, hc, n, by simpa using hs⟩, ?_⟩
    have e := r.length
    simp only [Array.length_toList] at e
    omega
theorem Inv.list_inj (I : Inv X pins σ H s) (h : SqL X.K H a xs) (h' : SqL X.K H a ys) : xs = ys := by
  obtain ⟨its, r, ⟨o, n, e, _, _, d⟩, _⟩ := I.list h
  obtain ⟨its', r', ⟨o', n', e', _, _, d'⟩, _⟩ := I.list h'
  rw [e] at e'; cases e'
  rw [d] at d'
  injection d' with d1 _
  have : its = its' := by simpa using congrArg Array.toList d1
  subst this
  exact r.inj r'
theorem Inv.tuple_inj (I : Inv X pins σ H s) (h : SqT X.K H a xs) (h' : SqT X.K H a ys) : xs = ys := by
  obtain ⟨its, r, ⟨o, e, _, n, d⟩, _⟩ := I.tuple h
  obtain ⟨its', r', ⟨o', e', _, n', d'⟩, _⟩ := I.tuple h'
  rw [e] at e'; cases e'
  rw [d] at d'
  injection d' with d1 _
  have : its = its' := by simpa using congrArg Array.toList d1
  subst this
  exact r.inj r'
end
abbrev Cx.wish (X : Cx) (E : Value → Shared → Prop) : Cx := { X with xe := E }
abbrev Cx.nox (X : Cx) : Cx := X.wish fun _ _ => False
theorem Cx.Ok.wish {X : Cx} (ok : X.Ok) (E : Value → Shared → Prop) : (X.wish E).Ok :=
  ⟨ok.mod, ok.kind, ok.glob, ok.blt, ok.above, ok.inj, ok.has, ok.cab, ok.hd, ok.frames, ok.stk, ok.exf, ok.bs, ok.bsz, ok.noex, ok.exfs, ok.funs, ok.frf⟩
theorem Cx.Ok.unwish {X : Cx} {E : Value → Shared → Prop} (ok : (X.wish E).Ok) : X.Ok :=
  ⟨ok.mod, ok.kind, ok.glob, ok.blt, ok.above, ok.inj, ok.has, ok.cab, ok.hd, ok.frames, ok.stk, ok.exf, ok.bs, ok.bsz, ok.noex, ok.exfs, ok.funs, ok.frf⟩
section
variable {X : Cx} {pins : List (Addr × Obj)} {σ : St} {H : Hp} {s : Shared} {E : Value → Shared → Prop}
theorem Inv.wish (I : Inv X pins σ H s) (E : Value → Shared → Prop) : Inv (X.wish E) pins σ H s := ⟨I.ok.wish E, I.os, I.bare, I.base, I.loc, I.cell, I.free, I.freeC, I.pin, I.hok, I.len⟩
theorem Inv.unwish (I : Inv (X.wish E) pins σ H s) : Inv X pins σ H s := ⟨I.ok.unwish, I.os, I.bare, I.base, I.loc, I.cell, I.free, I.freeC, I.pin, I.hok, I.len⟩
theorem SP.unwish {D : Ends} {f : Flow} {s' : Shared} (h : SP (X.wish E) pins D f s') : SP X pins D f s' := by
  cases f with
  | next => obtain ⟨σ', H', I, q⟩ := h; exact ⟨σ', H', I.unwish, q⟩
  | brk => obtain ⟨σ', H', I, q⟩ := h; exact ⟨σ', H', I.unwish, q⟩
  | cont => obtain ⟨σ', H', I, q⟩ := h; exact ⟨σ', H', I.unwish, q⟩
  | ret u => obtain ⟨v, σ', H', I, r, q⟩ := h; exact ⟨v, σ', H', I.unwish, r, q⟩
theorem PSs.nox {st : List Stmt} {t : TS} (h : PSs X.nox st t) : PSs X st t := fun pins s σ H D I hw =>
  wpAny_mono (h pins s σ H D (I.wish _) hw) (fun _ _ q => q.unwish) fun _ _ z => False.elim z
end
section
variable {X : Cx} {st : Stmt} {rest : List Stmt} {t u : TS} {e : Expr} {te : TE} {pos : Pos}
def tNext : TS := fun D σ H => D.nx σ H
def tSeq (t u : TS) : TS := fun D σ H => t { D with nx := u D } σ H
theorem pss_nil : PSs X [] tNext := fun _ _ σ H _ I h => wpAny_execs_nil ⟨σ, H, I, h⟩
theorem pss_cons (h1 : PS X st t) (h2 : PSs X rest u) : PSs X (st :: rest) (tSeq t u) := by
  intro pins s σ H D I h
  refine wpAny_execs_cons (thn (h1 pins s σ H { D with nx := u D } I h) fun f s1 q => ?_)
  cases f with
  | next =>
    obtain ⟨σ', H', I', q⟩ := q
    exact h2 pins s1 σ' H' D I' q
  | ret v => exact q
  | brk => exact q
  | cont => exact q
theorem pss_one (h1 : PS X st t) : PSs X [st] t := by
  intro pins s σ H D I h
  refine wpAny_execs_cons (thn (h1 pins s σ H D I h) fun f s1 q => ?_)
  cases f with
  | next => exact wpAny_execs_nil q
  | ret v => exact q
  | brk => exact q
  | cont => exact q
theorem Inv.quiet {pins : List (Addr × Obj)} {σ : St} {H : Hp} {s : Shared} (I : Inv X pins σ H s) : interactive X.env = false := by simp [interactive, I.ok.kind]
def tDrop (te : TE) : TS := fun D σ H => te σ H fun _ H1 => D.nx σ H1
theorem ps_expr (he : PE X e te) (hs : swapsWith e none pos.line X.env = pure false := by rfl) : PS X (.Expr e pos) (tDrop te) := by
  intro pins s σ H D I h
  exact wpAny_Expr_any (thn (he pins s σ H _ I h) fun v s1 ⟨x, H1, I1, r1, q1⟩ => ⟨σ, H1, I1, q1⟩) I.quiet hs
def tRet (te : TE) : TS := fun D σ H => te σ H D.rt
theorem ps_ret (he : PE X e te) : PS X (.Return (some e) pos) (tRet te) := by
  intro pins s σ H D I h
  exact wpAny_Return_some (thn (he pins s σ H _ I h) fun v s1 ⟨x, H1, I1, r1, q1⟩ => ⟨x, σ, H1, I1, r1, q1⟩)
def tIfS (c : TT) (t u : TS) : TS := fun D σ H => c σ H fun b H1 => if b = true then t D σ H1 else u D σ H1
theorem ps_if {c : Expr} {a b : List Stmt} {tc : TT} (hc : PT X c tc) (ha : PSs X a t) (hb : PSs X b u) : PS X (.If c a b pos) (tIfS tc t u) := by
  intro pins s σ H D I h
  refine wpAny_If (thn (hc pins s σ H _ I h) fun d s1 ⟨H1, I1, q1⟩ => ?_)
  cases d with
  | true => exact ha pins s1 σ H1 D I1 q1
  | false => exact hb pins s1 σ H1 D I1 q1
def tNever : TS := fun _ _ _ => False
theorem ps_never : PS X st tNever := fun _ _ _ _ _ _ h => h.elim
end
abbrev TG := V → St → Hp → (St → Hp → Prop) → Prop
abbrev TGs := List V → St → Hp → (St → Hp → Prop) → Prop
def PG (X : Cx) (target : Expr) (t : TG) : Prop :=
  ∀ (pins : List (Addr × Obj)) (s : Shared) (σ : St) (H : Hp) (v : V) (u : Value) (Q : St → Hp → Prop), Inv X pins σ H s → RelV v u → t v σ H Q →
    wpAny (model X.prog X.w) X.A (assign target X.env u) (fun _ s' => ∃ σ' H', Inv X pins σ' H' s' ∧ Q σ' H') X.xe s
def PGs (X : Cx) (ts : List Expr) (t : TGs) : Prop :=
  ∀ (pins : List (Addr × Obj)) (s : Shared) (σ : St) (H : Hp) (vs : List V) (us : List Value) (Q : St → Hp → Prop), Inv X pins σ H s → Vals vs us → t vs σ H Q →
    wpAny (model X.prog X.w) X.A (assignInOrder ((assignEach ts X.env).map (·.2)) us) (fun _ s' => ∃ σ' H', Inv X pins σ' H' s' ∧ Q σ' H') X.xe s
abbrev TSet := V → V → V → Hp → (Hp → Prop) → Prop
def PSet (X : Cx) (t : TSet) : Prop :=
  ∀ (pins : List (Addr × Obj)) (s : Shared) (σ : St) (H : Hp) (o i v : V) (ov iv u : Value) (Q : Hp → Prop), Inv X pins σ H s → RelV o ov → RelV i iv → RelV v u → t o i v H Q →
    wpAny (model X.prog X.w) X.A (setItem ov iv u) (fun _ s' => ∃ H', Inv X pins σ H' s' ∧ Q H') X.xe s
abbrev TIp := V → V → Hp → VK → Prop
def PIp (X : Cx) (op : Operator) (t : TIp) : Prop :=
  ∀ (pins : List (Addr × Obj)) (s : Shared) (σ : St) (H : Hp) (x y : V) (v u : Value) (Q : VK), Inv X pins σ H s → RelV x v → RelV y u → t x y H Q →
    wpAny (model X.prog X.w) X.A (inplaceOp op v u) (EP X pins σ Q) X.xe s
section
variable {X : Cx} {pos : Pos}
def gName (i : Nat) : TG := fun v σ H Q => Q (σ.set i (some v)) H
theorem pg_name {i : Nat} {x : Str} (hN : X.N.Nodup) (hi : X.N[i]? = some x) (hx : Loc X.env.scope x) (hf : X.fn x = true ∨ X.env.scope.names.lookup x = some .local := by first | exact .inl rfl | exact .inr rfl | assumption) : PG X (.Name x pos) (gName i) := by
  intro pins s σ H v u Q I r h
  exact wpAny_assign_Name (store_ok I hN hi hx r (fun s' I' => ⟨_, H, I', h⟩) hf)
def gNil : TGs := fun vs σ H Q => vs = [] ∧ Q σ H
def gCons (t : TG) (u : TGs) : TGs := fun vs σ H Q => ∃ v r, vs = v :: r ∧ t v σ H fun σ' H' => u r σ' H' Q
theorem pgs_nil : PGs X [] gNil := by
  intro pins s σ H vs us Q I r h
  obtain ⟨e, h⟩ := h
  subst e
  cases r
  exact assignInOrder_nil ⟨σ, H, I, h⟩
theorem pgs_cons {e : Expr} {es : List Expr} {t : TG} {u : TGs} (h1 : PG X e t) (h2 : PGs X es u)
    (hs : (assignEach (e :: es) X.env).map (·.2) = assign e X.env :: (assignEach es X.env).map (·.2) := by rfl) : PGs X (e :: es) (gCons t u) := by
  intro pins s σ H vs us Q I r h
  obtain ⟨v, vr, e1, h⟩ := h
  subst e1
  cases r with
  | cons r rr =>
    rw [hs]
    refine assignInOrder_cons (thn (h1 pins s σ H _ _ _ I r h) fun _ s1 ⟨σ1, H1, I1, q1⟩ => ?_)
    exact h2 pins s1 σ1 H1 _ _ Q I1 rr q1
def gTup (K : PySem.W.Frag) (n : Nat) (t : TGs) : TG := fun v σ H Q => ∃ a xs, v = .ref a ∧ SqT K H a xs ∧ xs.length = n ∧ t xs σ H Q
theorem pg_tup {es : List Expr} {k : Nat} {t : TGs} {n : Nat} (hc : X.calm = true) (h : PGs X es t)
    (hn : (assignEach es X.env).length = n := by rfl) (hst : (assignEach es X.env).findIdx? (·.1) = none := by rfl) : PG X (.Tuple es k pos) (gTup X.K n t) := by
  intro pins s σ H v u Q I r hw
  obtain ⟨a, xs, e1, hq, hl, hw⟩ := hw
  subst e1
  cases r
  obtain ⟨its, rv, ht, hz⟩ := I.tuple hq
  refine assign_Tuple_tuple (I.ok.hd hc) ht (by simp [hn, ← hl, rv.length]) hst fun h' hx => ?_
  have I1 : Inv X pins σ H { s with heap := h' } := I.kept (t' := s.toks) fun b o e => hx b o (Nat.ne_of_lt (Heap.lt_size e)) e
  exact h pins _ σ H xs _ Q I1 (by simpa using rv) hw
def gSub (to ti : TE) (t : TSet) : TG := fun v σ H Q => to σ H fun o H1 => ti σ H1 fun i H2 => t o i v H2 fun H3 => Q σ H3
theorem pg_sub {o i : Expr} {to ti : TE} {t : TSet} (ho : PE X o to) (hi : PE X i ti) (hs : PSet X t)
    (ha : ∀ v, assign (.Subscript o i pos) X.env v = (do
      let ov ← holding [v] (eval o X.env)
      let iv ← holding [v, ov] (eval i X.env)
      standAt pos
      holding [v, ov, iv] (setItem ov iv v)
      release [v, ov, iv] []) := by intro _; rfl) : PG X (.Subscript o i pos) (gSub to ti t) := by
  intro pins s σ H v u Q I r h
  rw [ha]
  refine wpAny_bind (wpAny_holding (thn (ho pins s σ H _ I h) fun ov s1 ⟨x, H1, I1, r1, q1⟩ => ?_))
  refine wpAny_bind (wpAny_holding (thn (hi pins s1 σ H1 _ I1 q1) fun iv s2 ⟨y, H2, I2, r2, q2⟩ => ?_))
  refine wpAny_bind (wpAny_standAt (wpAny_bind (wpAny_holding (thn (hs pins s2 σ H2 x y v ov iv u _ I2 r1 r2 r q2) fun _ s3 ⟨H3, I3, q3⟩ => ?_))))
  exact wpAny_release ⟨σ, H3, I3, q3⟩
def tAsg (te : TE) (g : TG) : TS := fun D σ H => te σ H fun x H1 => g x σ H1 D.nx
theorem ps_asg {tg e : Expr} {te : TE} {g : TG} (he : PE X e te) (hg : PG X tg g) (hs : swapsWithSole [tg] e pos.line X.env = pure false := by rfl) (hw : swappedStores [tg] e X.env = pure none := by rfl)
    (h1 : (assignEach [tg] X.env).map (·.2) = [assign tg X.env] := by rfl) : PS X (.Assign [tg] e pos) (tAsg te g) := by
  intro pins s σ H D I h
  refine wpAny_Assign_stores (thn (he pins s σ H _ I h) fun v s1 ⟨x, H1, I1, r1, q1⟩ => ?_) hs hw
  rw [h1]
  exact thn (hg pins s1 σ H1 x v _ I1 r1 q1) fun _ s2 q => q
theorem ps_set {i : Nat} {x : Str} {e : Expr} {te : TE} {pos' : Pos} (hN : X.N.Nodup) (hi : X.N[i]? = some x) (hx : Loc X.env.scope x) (he : PE X e te) (hs : swapsWith e (some (.Name x pos')) pos.line X.env = pure false := by rfl) (hf : X.fn x = true ∨ X.env.scope.names.lookup x = some .local := by first | exact .inl rfl | exact .inr rfl | assumption) :
    PS X (.Assign [.Name x pos'] e pos) (tAsg te (gName i)) := by
  intro pins s σ H D I h
  refine wpAny_Assign_Name (thn (he pins s σ H _ I h) fun v s1 ⟨y, H1, I1, r1, q1⟩ => ?_) hs
  exact store_ok I1 hN hi hx r1 (fun s2 I2 => ⟨_, H1, I2, q1⟩) hf
def tAug (i : Nat) (te : TE) (ti : TIp) : TS := fun D σ H => ∃ x, σ[i]? = some (some x) ∧ te σ H fun y H1 => ti x y H1 fun z H2 => D.nx (σ.set i (some z)) H2
theorem ps_aug {i : Nat} {x : Str} {e : Expr} {te : TE} {op : Operator} {ti : TIp} {pos' : Pos} (hN : X.N.Nodup) (hi : X.N[i]? = some x) (hx : Loc X.env.scope x) (he : PE X e te) (ho : PIp X op ti) (hf : X.fn x = true ∨ X.env.scope.names.lookup x = some .local := by first | exact .inl rfl | exact .inr rfl | assumption) :
    PS X (.AugAssign (.Name x pos') op e pos) (tAug i te ti) := by
  intro pins s σ H D I h
  obtain ⟨v, e1, h⟩ := h
  obtain ⟨m, hn, hl⟩ := I.loc
  have vis : Vis X.env.scope x := by rcases hx with k | k; exact .inl k; exact .inr (.inl k)
  obtain ⟨u, r, l⟩ := hl i x v hi e1 vis
  refine wpAny_AugAssign_Name ?_
  have go : wpAny (model X.prog X.w) X.A (eval e X.env) (fun w s₂ => wpAny (model X.prog X.w) X.A (inplaceOp op u w) (fun r s₃ => wpAny (model X.prog X.w) X.A (storeName X.env x r) (fun _ => SP X pins D .next) X.xe s₃) X.xe s₂) X.xe s := by
    refine thn (he pins s σ H _ I h) fun w s1 ⟨y, H1, I1, r1, q1⟩ => ?_
    refine thn (ho pins s1 σ H1 v y u w _ I1 r r1 q1) fun z s2 ⟨zv, H2, I2, r2, q2⟩ => ?_
    exact store_ok I2 hN hi hx r2 (fun s3 I3 => ⟨_, H2, I3, q2⟩) hf
  rcases l with ⟨hk, hm⟩ | ⟨hk, c, hc, hcell⟩
  · exact wpAny_loadName_local I.ok.kind hk hn hm go
  · rcases hk with hk | hk
    · exact wpAny_loadName_cell I.ok.kind hk hc hcell go
    · rcases hx with k | k
      · have : X.env.scope.names.lookup x = some .free := hk
        rw [k] at this; cases this
      · have : X.env.scope.names.lookup x = some .free := hk
        rw [k] at this; cases this
def ipI (f : Int → Int → Int) : TIp := fun x y H Q => ∃ i j, x = .int i ∧ y = .int j ∧ Q (.int (f i j)) H
theorem ip_add : PIp X .Add (ipI fun i j => i + j) := by
  intro pins s σ H x y v u Q I r1 r2 h
  obtain ⟨i, j, e1, e2, q⟩ := h
  subst e1; subst e2
  obtain ⟨t, rfl⟩ := r1
  obtain ⟨t', rfl⟩ := r2
  exact iadd_int ⟨.int _, H, I.tok _, ⟨_, rfl⟩, q⟩
end
section
variable {X : Cx} {pos : Pos}
end
structure It where
  go : Nat → Hp → Prop
  yld : Nat → Hp → V → Hp → Prop
  stop : Nat → Hp → Prop
def FpOk (X : Cx) (pins : List (Addr × Obj)) (H : Hp) (b : Addr) : Prop :=
  H b = none ∧ b ≠ X.env.locals ∧ b ∉ X.fs ∧ (b ∈ X.ex ∨ X.s₀.heap.objs.size ≤ b) ∧ (∀ x c, X.env.cells.lookup x = some c → c ≠ b) ∧ ∀ p ∈ X.pn ++ pins, p.1 ≠ b
theorem Inv.fpOk {X : Cx} {pins : List (Addr × Obj)} {σ : St} {H H' : Hp} {s : Shared} {b : Addr} (I : Inv X pins σ H s) (hb : s.heap.objs.size ≤ b) (hn : H' b = none) : FpOk X pins H' b := by
  refine ⟨hn, Nat.ne_of_gt (Nat.lt_of_lt_of_le I.lt hb), I.nofs hb, .inr (Nat.le_trans I.sz hb), fun x c e z => ?_, fun p hp z => ?_⟩
  · obtain ⟨v, q⟩ := I.cell x c e
    exact absurd (Nat.lt_of_lt_of_le q.lt (by rw [z]; exact hb)) (Nat.lt_irrefl _)
  · exact absurd (Nat.lt_of_lt_of_le (Heap.lt_size (I.pin p hp).1) (by rw [z]; exact hb)) (Nat.lt_irrefl _)
structure Turn (P : Program) (w : World) (K : PySem.W.Frag) (tg : Expr) (J : It) (fp : List Addr) (it : Addr) (tn : Nat → Heap → Prop) : Prop where
  mem : it ∈ fp
  obj : ∀ i h, tn i h → ∀ b ∈ fp, ∃ o, h.get? b = some o ∧ ∀ v, o.data ≠ .cell v
  keep : ∀ i h h', tn i h → (∀ b ∈ fp, ∀ o, h.get? b = some o → h'.get? b = some o) → tn i h'
  item : ∀ (X : Cx), X.prog = P → X.w = w → X.K = K → X.calm = true → ∀ (i : Nat) (pins : List (Addr × Obj)) (s : Shared) (σ : St) (H : Hp) (E : Value → Shared → Prop), Inv X pins σ H s → (∀ b ∈ fp, FpOk X pins H b) → tn i s.heap → J.go i H →
    wpAny (model P w) X.A (pyNext (.ref it)) (fun r s1 => ∃ u, r = some u ∧
      wpAny (model P w) X.A (letOwnedTupleGo tg (.ref it) u) (fun _ s2 => ∃ x H', Inv X pins σ H' s2 ∧ RelV x u ∧ J.yld i H x H' ∧ tn (i + 1) s2.heap ∧ ∀ b ∈ fp, H' b = none) E s1) E s
  done : ∀ (X : Cx), X.prog = P → X.w = w → X.K = K → X.calm = true → ∀ (i : Nat) (pins : List (Addr × Obj)) (s : Shared) (σ : St) (H : Hp) (E : Value → Shared → Prop), Inv X pins σ H s → (∀ b ∈ fp, FpOk X pins H b) → tn i s.heap → J.stop i H →
    wpAny (model P w) X.A (pyNext (.ref it)) (fun r s1 => r = none ∧ Inv X pins σ H s1) E s
  self : ∀ (A : Around) (i : Nat) (s : Shared) (Q : Value → Shared → Prop) (E : Value → Shared → Prop), tn i s.heap → Q (.ref it) s → wpAny (model P w) A (pyIter (.ref it)) Q E s
abbrev TI := St → Hp → (It → Hp → Prop) → Prop
def PIE (X : Cx) (pins : List (Addr × Obj)) (σ : St) (tg : Expr) (R : It → Hp → Prop) (itv : Value) (s2 : Shared) : Prop :=
  ∃ (it : Addr) (fp : List Addr) (tn : Nat → Heap → Prop) (J : It) (H' : Hp), itv = .ref it ∧ Inv X pins σ H' s2 ∧ Turn X.prog X.w X.K tg J fp it tn ∧ tn 0 s2.heap ∧ (∀ b ∈ fp, FpOk X pins H' b) ∧ R J H'
def PI (X : Cx) (tg iter : Expr) (wi : TI) : Prop :=
  ∀ (pins : List (Addr × Obj)) (s : Shared) (σ : St) (H : Hp) (R : It → Hp → Prop), Inv X pins σ H s → wi σ H R →
    wpAny (model X.prog X.w) X.A (eval iter X.env) (fun v s1 => wpAny (model X.prog X.w) X.A (pyIter v) (PIE X pins σ tg R) X.xe s1) X.xe s
theorem go_of {M : Model} {A : Around} {E : Value → Shared → Prop} {s : Shared} {tg : Expr} {it : Addr} {u : Value} {o : Obj} {n : String} {vs : Array Value} {Q : Unit → Shared → Prop} (ho : s.heap.get? it = some o) (hc : o.cls = .type n) (hd : o.data = .fields vs)
    (hn : ["enumerate", "zip", "dict_itemiterator", "dict_reverseitemiterator", "odict_iterator", "itertools.zip_longest", "itertools.pairwise"].contains n = false) (hQ : Q () s) : wpAny M A (letOwnedTupleGo tg (.ref it) u) Q E s := by
  unfold letOwnedTupleGo
  cases tg <;> first
    | exact wpAny_pure hQ
    | (cases u <;> first
        | exact wpAny_pure hQ
        | (refine wpAny_bind (wpAny_load ho ?_)
           rw [hc, hd]
           show wpAny M A (if (["enumerate", "zip", "dict_itemiterator", "dict_reverseitemiterator", "odict_iterator", "itertools.zip_longest", "itertools.pairwise"].contains n && vs[0]? == some (rawInt _)) = true then _ else _) Q E s
           rw [if_neg (by intro h; rw [hn, Bool.false_and] at h; cases h)]
           exact wpAny_pure hQ))
def Itl (K : PySem.W.Frag) (a : Addr) : It :=
  ⟨fun i H => ∃ xs x, SqL K H a xs ∧ xs[i]? = some x, fun i H x H' => H' = H ∧ ∀ xs, SqL K H a xs → xs[i]? = some x, fun i H => ∃ xs, SqL K H a xs ∧ xs.length ≤ i⟩
def Itt (K : PySem.W.Frag) (a : Addr) : It :=
  ⟨fun i H => ∃ xs x, SqT K H a xs ∧ xs[i]? = some x, fun i H x H' => H' = H ∧ ∀ xs, SqT K H a xs → xs[i]? = some x, fun i H => ∃ xs, SqT K H a xs ∧ xs.length ≤ i⟩
def Itr (lo : Int) (n : Nat) : It := ⟨fun i _ => i < n, fun i H x H' => H' = H ∧ x = .int (lo + i), fun i _ => n ≤ i⟩
theorem turn_list {P : Program} {w : World} {K : PySem.W.Frag} {tg : Expr} (a it : Addr) : Turn P w K tg (Itl K a) [it] it (fun i h => h.IsListIter it a i) where
  mem := by simp
  obj := fun i h st b hb => by
    have e : b = it := by simpa using hb
    subst e
    obtain ⟨o, e, c, d⟩ := st
    exact ⟨o, e, fun v z => by rw [d] at z; cases z⟩
  keep := fun i h h' st k => st.at fun o e => k it (by simp) o e
  item := by
    intro X hP hw hK hc i pins s σ H E I hf st hg
    subst hP hw hK
    obtain ⟨xs, x, hq, hx⟩ := hg
    obtain ⟨its, rv, p, hz⟩ := I.list hq
    obtain ⟨u, hu, ru⟩ := rv.get hx
    obtain ⟨f0, f1, f2, f3, f4, f5⟩ := hf it (by simp)
    refine wpAny_pyNext_list_item st p.isList (x := u) (by simpa using hu) fun h' st' sb => ?_
    have I1 : Inv X pins σ H { s with heap := h' } := I.turned (t' := s.toks) (fun b o hb e => (sb.2 b hb).trans e) f0 f1 f3 f4 f5
    obtain ⟨o, e, c, d⟩ := id st'
    exact ⟨u, rfl, go_of (s := { s with heap := h' }) e c d (by decide) ⟨x, H, I1, ru, ⟨rfl, fun ys hy => by rw [I.list_inj hy hq]; exact hx⟩, st', fun b hb => (hf b hb).1⟩⟩
  done := by
    intro X hP hw hK hc i pins s σ H E I hf st hg
    subst hP hw hK
    obtain ⟨xs, hq, hx⟩ := hg
    obtain ⟨its, rv, p, hz⟩ := I.list hq
    obtain ⟨f0, f1, f2, f3, f4, f5⟩ := hf it (by simp)
    have hl := rv.length
    exact wpAny_pyNext_list_end (I.ok.hd hc) st p.isList (by simp; omega) fun h' eb => ⟨rfl, I.turned (t' := s.toks) (fun b o hb e => eb b o hb e) f0 f1 f3 f4 f5⟩
  self := fun _ _ _ _ _ st h => wpAny_pyIter_listiter st h
theorem turn_tuple {P : Program} {w : World} {K : PySem.W.Frag} {tg : Expr} (a it : Addr) : Turn P w K tg (Itt K a) [it] it (fun i h => h.IsTupleIter it a i) where
  mem := by simp
  obj := fun i h st b hb => by
    have e : b = it := by simpa using hb
    subst e
    obtain ⟨o, e, c, d⟩ := st
    exact ⟨o, e, fun v z => by rw [d] at z; cases z⟩
  keep := fun i h h' st k => st.at fun o e => k it (by simp) o e
  item := by
    intro X hP hw hK hc i pins s σ H E I hf st hg
    subst hP hw hK
    obtain ⟨xs, x, hq, hx⟩ := hg
    obtain ⟨its, rv, p, hz⟩ := I.tuple hq
    obtain ⟨u, hu, ru⟩ := rv.get hx
    obtain ⟨f0, f1, f2, f3, f4, f5⟩ := hf it (by simp)
    refine wpAny_pyNext_tuple_item st (show s.heap.IsTuple a its.toArray from p) (x := u) (by simpa using hu) fun h' st' sb => ?_
    have I1 : Inv X pins σ H { s with heap := h' } := I.turned (t' := s.toks) (fun b o hb e => (sb.2 b hb).trans e) f0 f1 f3 f4 f5
    obtain ⟨o, e, c, d⟩ := id st'
    exact ⟨u, rfl, go_of (s := { s with heap := h' }) e c d (by decide) ⟨x, H, I1, ru, ⟨rfl, fun ys hy => by rw [I.tuple_inj hy hq]; exact hx⟩, st', fun b hb => (hf b hb).1⟩⟩
  done := by
    intro X hP hw hK hc i pins s σ H E I hf st hg
    subst hP hw hK
    obtain ⟨xs, hq, hx⟩ := hg
    obtain ⟨its, rv, p, hz⟩ := I.tuple hq
    obtain ⟨f0, f1, f2, f3, f4, f5⟩ := hf it (by simp)
    have hl := rv.length
    exact wpAny_pyNext_tuple_end (I.ok.hd hc) st (show s.heap.IsTuple a its.toArray from p) (by simp; omega) fun h' eb => ⟨rfl, I.turned (t' := s.toks) (fun b o hb e => eb b o hb e) f0 f1 f3 f4 f5⟩
  self := fun _ _ _ _ _ st h => wpAny_pyIter_tupleiter st h
theorem turn_range {P : Program} {w : World} {K : PySem.W.Frag} {tg : Expr} (it : Addr) (lo : Int) (n : Nat) : Turn P w K tg (Itr lo n) [it] it (fun i h => IsRangeIter h it (lo + (i : Nat) * 1) ((n : Int) - (i : Nat)) 1) where
  mem := by simp
  obj := fun i h st b hb => by
    have e : b = it := by simpa using hb
    subst e
    exact ⟨_, st, fun v z => by
      have z' : Data.fields _ = Data.cell v := z
      cases z'⟩
  keep := fun i h h' st k => k it (by simp) _ st
  item := by
    intro X hP hw hK hc i pins s σ H E I hf st hg
    subst hP hw hK
    obtain ⟨f0, f1, f2, f3, f4, f5⟩ := hf it (by simp)
    have W := Walks.range (prog := X.prog) (w := X.w) (I.ok.hd hc) it lo 1 n
    refine W.item i s _ _ hg st fun v h' tk hv st' kk => ?_
    obtain ⟨t, rfl⟩ := hv
    have I1 : Inv X pins σ H { s with heap := h', toks := tk } := I.turned (fun b o hb e => kk b o (by simpa using hb) e) f0 f1 f3 f4 f5
    refine ⟨_, rfl, go_of (s := { s with heap := h', toks := tk }) (n := "range_iterator") st' rfl rfl (by decide) ⟨.int (lo + i), H, I1, ⟨t, ?_⟩, ⟨rfl, rfl⟩, st', fun b hb => (hf b hb).1⟩⟩
    rw [Int.mul_one]
  done := by
    intro X hP hw hK hc i pins s σ H E I hf st hg
    subst hP hw hK
    obtain ⟨f0, f1, f2, f3, f4, f5⟩ := hf it (by simp)
    exact wpAny_pyNext_range_end (I.ok.hd hc) st (by have : n ≤ i := hg; omega) fun h' eb => ⟨rfl, I.turned (t' := s.toks) (fun b o hb e => eb b o hb e) f0 f1 f3 f4 f5⟩
  self := fun _ _ _ _ _ st h => wpAny_pyIter_rangeiter st h
end L2
namespace L2
open PySem PySem.Spec PyProof.Rows
section
variable {X : Cx} {tg : Expr}
def iList (K : PySem.W.Frag) (tl : TE) : TI := fun σ H R => tl σ H fun x H1 => ∃ a, x = .ref a ∧ (∃ xs, SqL K H1 a xs) ∧ R (Itl K a) H1
def iTup (K : PySem.W.Frag) (tl : TE) : TI := fun σ H R => tl σ H fun x H1 => ∃ a, x = .ref a ∧ (∃ xs, SqT K H1 a xs) ∧ R (Itt K a) H1
theorem pi_list {l : Expr} {tl : TE} (hl : PE X l tl) : PI X tg l (iList X.K tl) := by
  intro pins s σ H R I h
  refine thn (hl pins s σ H _ I h) fun v s1 ⟨x, H1, I1, r1, q1⟩ => ?_
  obtain ⟨a, e, ⟨xs, hq⟩, q⟩ := q1
  subst e
  cases r1
  obtain ⟨its, rv, p, hz⟩ := I1.list hq
  refine wpAny_pyIter_list p.isList ?_
  refine ⟨s1.heap.objs.size, [s1.heap.objs.size], _, _, H1, rfl, I1.kept (t' := s1.toks) fun b o e => Heap.get?_push_of_some _ e, turn_list a _, ⟨_, Heap.get?_push_size _ rfl, rfl, rfl⟩, fun b hb => ?_, q⟩
  have e : b = s1.heap.objs.size := by simpa using hb
  subst e
  exact I1.fpOk (Nat.le_refl _) (I1.hok.fresh (Nat.le_refl _))
theorem pi_tup {l : Expr} {tl : TE} (hl : PE X l tl) : PI X tg l (iTup X.K tl) := by
  intro pins s σ H R I h
  refine thn (hl pins s σ H _ I h) fun v s1 ⟨x, H1, I1, r1, q1⟩ => ?_
  obtain ⟨a, e, ⟨xs, hq⟩, q⟩ := q1
  subst e
  cases r1
  obtain ⟨its, rv, p, hz⟩ := I1.tuple hq
  refine wpAny_pyIter_tuple (show s1.heap.IsTuple a its.toArray from p) ?_
  refine ⟨s1.heap.objs.size, [s1.heap.objs.size], _, _, H1, rfl, I1.kept (t' := s1.toks) fun b o e => Heap.get?_push_of_some _ e, turn_tuple a _, ⟨_, Heap.get?_push_size _ rfl, rfl, rfl⟩, fun b hb => ?_, q⟩
  have e : b = s1.heap.objs.size := by simpa using hb
  subst e
  exact I1.fpOk (Nat.le_refl _) (I1.hok.fresh (Nat.le_refl _))
theorem range_it {pins : List (Addr × Obj)} {σ : St} {H : Hp} {s : Shared} {R : It → Hp → Prop} {E : Value → Shared → Prop} {lo hi : Int} {t u v : Tok} {tk : Nat} (I : Inv X pins σ H s) (h1 : -(2 ^ 62) ≤ lo) (h2 : lo < 2 ^ 62) (h3 : -(2 ^ 62) ≤ hi) (h4 : hi < 2 ^ 62)
    (q : R (Itr lo (hi - lo).toNat) H) : wpAny (model X.prog X.w) X.A (pyIter (.ref s.heap.objs.size)) (PIE X pins σ tg R) E { s with heap := s.heap.push { cls := .type "range", data := .fields #[.int lo t, .int hi u, .int 1 v] }, toks := tk } := by
  refine wpAny_pyIter_range (IsRange.new ..) (small_one h1 h2 h3 h4) ?_
  have I1 : Inv X pins σ H { s with heap := s.heap.push { cls := .type "range", data := .fields #[.int lo t, .int hi u, .int 1 v] }, toks := tk } := I.kept fun b o e => Heap.get?_push_of_some _ e
  refine ⟨(s.heap.push { cls := .type "range", data := .fields #[.int lo t, .int hi u, .int 1 v] }).objs.size, [(s.heap.push { cls := .type "range", data := .fields #[.int lo t, .int hi u, .int 1 v] }).objs.size], _, _, H, rfl,
    I1.kept (t' := tk) fun b o e => Heap.get?_push_of_some _ e, turn_range _ lo (hi - lo).toNat, ?_, fun b hb => ?_, q⟩
  · have e1 : lo + ((0 : Nat) : Int) * 1 = lo := by simp
    have e2 : (((hi - lo).toNat : Nat) : Int) - ((0 : Nat) : Int) = Builtin.Range.rangeSize lo hi 1 := by rw [rangeSize_one]; split <;> omega
    show IsRangeIter _ _ (lo + ((0 : Nat) : Int) * 1) ((((hi - lo).toNat : Nat) : Int) - ((0 : Nat) : Int)) 1
    rw [e1, e2]
    exact Heap.get?_push_size _ rfl
  · have e : b = (s.heap.push { cls := .type "range", data := .fields #[.int lo t, .int hi u, .int 1 v] }).objs.size := by simpa using hb
    subst e
    exact I1.fpOk (Nat.le_refl _) (I1.hok.fresh (Nat.le_refl _))
def iRng1 (ta : TA) : TI := fun σ H R => ta σ H fun vs H1 => ∃ j : Int, vs = [.int j] ∧ -(2 ^ 62) ≤ j ∧ j < 2 ^ 62 ∧ R (Itr 0 j.toNat) H1
theorem pi_range1 {a : Expr} {ta : TA} {p pos : Pos} (hg : Gl X "range") (hm : X.mg "range" = none) (ha : PA X [a] ta) (hs : starEach [a] X.env = [(false, eval a X.env)] := by rfl) : PI X tg (.Call (.Name "range" p) [a] [] pos) (iRng1 ta) := by
  intro pins s σ H R I h
  refine Call_ (ld_blt I hg hm boot_range (PyProof.Rows.callWith_type1 (thn (ha pos pins s σ H _ I h) fun us s1 ⟨vs, H1, I1, r1, q1⟩ => ?_) hs rfl))
  obtain ⟨j, e, q1, q2, q⟩ := q1
  subst e
  cases r1 with
  | cons r rr =>
    cases rr
    obtain ⟨t, rfl⟩ := r
    exact call_range_1 (range_it I1 (by omega) (by omega) q1 q2 (by simpa using q))
def tFor (wi : TI) (g : TG) (tb : TS) : TS := fun D σ H => wi σ H fun J H1 => ∃ W : Nat → Nat → St → Hp → Prop, (∃ m, W 0 m σ H1) ∧ ∀ i m σ H, W i m σ H →
  (J.stop i H ∧ D.nx σ H) ∨ (J.go i H ∧ ∃ N : St → Hp → Prop, (∀ σ' H', N σ' H' → ∃ m', m' < m ∧ W (i + 1) m' σ' H') ∧ ∀ x H', J.yld i H x H' → g x σ H' fun σ2 H2 => tb { D with nx := N, ct := N, bk := D.nx } σ2 H2)
def pinsAt (fp : List Addr) (h : Heap) : List (Addr × Obj) := fp.filterMap fun b => (h.get? b).map fun o => (b, o)
theorem mem_pinsAt {fp : List Addr} {h : Heap} {b : Addr} {o : Obj} (hb : b ∈ fp) (e : h.get? b = some o) : (b, o) ∈ pinsAt fp h := List.mem_filterMap.mpr ⟨b, hb, by rw [e]; rfl⟩
theorem of_pinsAt {fp : List Addr} {h : Heap} {p : Addr × Obj} (hp : p ∈ pinsAt fp h) : p.1 ∈ fp ∧ h.get? p.1 = some p.2 := by
  obtain ⟨b, hb, e⟩ := List.mem_filterMap.mp hp
  cases q : h.get? b with
  | none => rw [q] at e; cases e
  | some o =>
    rw [q] at e
    have e' : (b, o) = p := Option.some.inj e
    subst e'
    exact ⟨hb, q⟩
theorem Inv.pinned {pins : List (Addr × Obj)} {σ : St} {H : Hp} {s : Shared} {fp : List Addr} (I : Inv X pins σ H s) (hf : ∀ b ∈ fp, FpOk X pins H b) (ho : ∀ b ∈ fp, ∃ o, s.heap.get? b = some o ∧ ∀ v, o.data ≠ .cell v) : Inv X (pins ++ pinsAt fp s.heap) σ H s :=
  I.pins_of fun p hp => (List.mem_append.mp hp).elim (fun z => I.pin p (List.mem_append_right _ z)) fun z => by
    obtain ⟨hb, e⟩ := of_pinsAt z
    obtain ⟨f0, f1, f2, _⟩ := hf p.1 hb
    obtain ⟨o, e', d⟩ := ho p.1 hb
    rw [e] at e'; cases e'
    exact ⟨e, f0, f1, f2, d⟩
theorem Inv.unpinned {pins pl : List (Addr × Obj)} {σ : St} {H : Hp} {s : Shared} (I : Inv X (pins ++ pl) σ H s) : Inv X pins σ H s := I.pins_of fun p hp => I.pin p (List.mem_append_right _ (List.mem_append_left _ hp))
theorem ps_for {iter : Expr} {body : List Stmt} {wi : TI} {g : TG} {tb : TS} {pos : Pos} (hp : PassesOwn (model X.prog X.w) X.A X.env X.xe) (hc : X.calm = true) (hi : PI X tg iter wi) (hg : PG X tg g) (hb : PSs X body tb)
    (hs : ∀ x, foldedSetIterable iter X.env x = pure x := by intro _; rfl) : PS X (.For tg iter body [] pos) (tFor wi g tb) := by
  intro pins s σ H D I h
  refine wpAny_For (thn (hi pins s σ H _ I h) fun v s1 h1 => thn h1 fun itv s2 h2 => ?_) hs
  obtain ⟨it, fp, tn, J, H2, e, I2, T, st2, f2, W, ⟨m0, w0⟩, turn⟩ := h2
  subst e
  have stat : ∀ {H' : Hp}, (∀ b ∈ fp, H' b = none) → ∀ b ∈ fp, FpOk X pins H' b := fun hn b hb => ⟨hn b hb, (f2 b hb).2⟩
  refine codeAny_forLoop_any (fun n s' => ∃ i σ' H', Inv X pins σ' H' s' ∧ tn i s'.heap ∧ (∀ b ∈ fp, H' b = none) ∧ W i n σ' H') ?_ m0 ⟨0, σ, H2, I2, st2, fun b hb => (f2 b hb).1, w0⟩
  rintro n s3 ⟨i, σ3, H3, I3, st3, fr3, w3⟩
  rcases turn i n σ3 H3 w3 with ⟨stop, qn⟩ | ⟨go, N, hN, step⟩
  · refine wpAny_passesOwn hp (thn (T.done X rfl rfl rfl hc i pins s3 σ3 H3 X.xe I3 (stat fr3) st3 stop) fun r s4 ⟨hr, I4⟩ => ?_)
    subst hr
    exact wpAny_execs_nil ⟨σ3, H3, I4, qn⟩
  · refine wpAny_passesOwn hp (thn (T.item X rfl rfl rfl hc i pins s3 σ3 H3 X.xe I3 (stat fr3) st3 go) fun r s4 ⟨u, hr, h4⟩ => ?_)
    subst hr
    refine wpAny_passesOwn hp (thn h4 fun _ s5 ⟨x, H5, I5, r5, y5, st5, fr5⟩ => ?_)
    have I5' := I5.pinned (stat fr5) (T.obj _ _ st5)
    refine wpAny_passesOwn hp (thn (hg _ s5 σ3 H5 x u _ I5' r5 (step x H5 y5)) fun _ s6 ⟨σ6, H6, I6, q6⟩ => ?_)
    refine wpAny_passesOwn hp (thn (hb _ s6 σ6 H6 _ I6 q6) fun f s7 q7 => ?_)
    have again : ∀ {σ7 : St} {H7 : Hp}, Inv X (pins ++ pinsAt fp s5.heap) σ7 H7 s7 → N σ7 H7 → ∃ m, m < n ∧ ∃ i σ' H', Inv X pins σ' H' s7 ∧ tn i s7.heap ∧ (∀ b ∈ fp, H' b = none) ∧ W i m σ' H' := fun {σ7 H7} I7 n7 => by
      obtain ⟨m', hm, w7⟩ := hN σ7 H7 n7
      refine ⟨m', hm, i + 1, σ7, H7, I7.unpinned, T.keep _ _ _ st5 fun b hb o e => (I7.pin (b, o) (List.mem_append_right _ (List.mem_append_right _ (mem_pinsAt hb e)))).1, fun b hb => ?_, w7⟩
      obtain ⟨o, e, d⟩ := T.obj _ _ st5 b hb
      exact (I7.pin (b, o) (List.mem_append_right _ (List.mem_append_right _ (mem_pinsAt hb e)))).2.1
    cases f with
    | next => obtain ⟨σ7, H7, I7, n7⟩ := q7; exact again I7 n7
    | cont => obtain ⟨σ7, H7, I7, n7⟩ := q7; exact again I7 n7
    | brk => obtain ⟨σ7, H7, I7, q7⟩ := q7; exact ⟨σ7, H7, I7.unpinned, q7⟩
    | ret v => obtain ⟨x7, σ7, H7, I7, r7, q7⟩ := q7; exact ⟨x7, σ7, H7, I7.unpinned, r7, q7⟩
end
end L2
namespace L2
open PySem PySem.Spec PyProof.Rows
abbrev R2 := V → V → Hp → VK → Prop
def OpR (X : Cx) (f : Value → Value → Sem Value) (r : R2) : Prop :=
  ∀ (pins : List (Addr × Obj)) (s : Shared) (σ : St) (H : Hp) (x y : V) (v u : Value) (Q : VK), Inv X pins σ H s → RelV x v → RelV y u → r x y H Q →
    wpAny (model X.prog X.w) X.A (f v u) (EP X pins σ Q) X.xe s
def UnR (X : Cx) (f : Value → Sem Value) (r : V → Hp → VK → Prop) : Prop :=
  ∀ (pins : List (Addr × Obj)) (s : Shared) (σ : St) (H : Hp) (x : V) (v : Value) (Q : VK), Inv X pins σ H s → RelV x v → r x H Q →
    wpAny (model X.prog X.w) X.A (f v) (EP X pins σ Q) X.xe s
def CallR (X : Cx) (f : Value) (r : List V → Hp → VK → Prop) : Prop :=
  ∀ (pins : List (Addr × Obj)) (s : Shared) (σ : St) (H : Hp) (xs : List V) (us : List Value) (Q : VK), Inv X pins σ H s → Vals xs us → r xs H Q →
    wpAny (model X.prog X.w) X.A (call f us) (EP X pins σ Q) X.xe s
def tOp (r : R2) (ta tb : TE) : TE := fun σ H Q => ta σ H fun x H1 => tb σ H1 fun y H2 => r x y H2 Q
def tUn (r : V → Hp → VK → Prop) (ta : TE) : TE := fun σ H Q => ta σ H fun x H1 => r x H1 Q
def rI (C : Int → Int → Prop) (g : Int → Int → V) : R2 := fun x y H Q => ∃ i j, x = .int i ∧ y = .int j ∧ C i j ∧ Q (g i j) H
def rI0 (g : Int → Int → V) : R2 := fun x y H Q => ∃ i j, x = .int i ∧ y = .int j ∧ Q (g i j) H
def rU (g : Int → V) : V → Hp → VK → Prop := fun x H Q => ∃ i, x = .int i ∧ Q (g i) H
section
variable {X : Cx} {a b c : Expr} {ta tb tc : TE} {pos : Pos}
theorem binT (ha : PE X a ta) (hb : PE X b tb) {pins : List (Addr × Obj)} {s : Shared} {σ : St} {H : Hp} {R : V → V → Hp → Prop} (I : Inv X pins σ H s)
    (h : ta σ H fun x H1 => tb σ H1 fun y H2 => R x y H2) {Q : Value → Shared → Prop} {f : Value → Value → Sem Value}
    (hf : ∀ v u s2 x y H2, Inv X pins σ H2 s2 → RelV x v → RelV y u → R x y H2 → wpAny (model X.prog X.w) X.A (f v u) Q X.xe s2) :
    wpAny (model X.prog X.w) X.A (eval a X.env) (fun v s₁ => wpAny (model X.prog X.w) X.A (eval b X.env) (fun u s₂ => wpAny (model X.prog X.w) X.A (f v u) Q X.xe s₂) X.xe s₁) X.xe s := by
  refine thn (ha pins s σ H _ I h) fun v s1 ⟨x, H1, I1, r1, q1⟩ => ?_
  refine thn (hb pins s1 σ H1 _ I1 q1) fun u s2 ⟨y, H2, I2, r2, q2⟩ => ?_
  exact hf v u s2 x y H2 I2 r1 r2 q2
theorem pe_op {op : Operator} {r : R2} (ho : OpR X (binaryOp op) r) (ha : PE X a ta) (hb : PE X b tb) : PE X (.BinOp a op b pos) (tOp r ta tb) := by
  intro pins s σ H Q I h
  exact wpAny_BinOp (binT ha hb I h fun v u s2 x y H2 I2 rx ry q => ho pins s2 σ H2 x y v u Q I2 rx ry q)
theorem pe_un {op : UnaryOp} {r : V → Hp → VK → Prop} (ho : UnR X (unaryOp op) r) (ha : PE X a ta) : PE X (.UnaryOp op a pos) (tUn r ta) := by
  intro pins s σ H Q I h
  exact UnaryOp_ (thn (ha pins s σ H _ I h) fun v s1 ⟨x, H1, I1, r1, q1⟩ => ho pins s1 σ H1 x v Q I1 r1 q1)
theorem opI {f : Value → Value → Sem Value} {C : Int → Int → Prop} {g : Int → Int → Int}
    (rule : ∀ (i j : Int) (t u : Tok) (s : Shared) (Q : Value → Shared → Prop) (E : Value → Shared → Prop), C i j → Q (.int (g i j) s.toks) { s with toks := s.toks + 1 } → wpAny (model X.prog X.w) X.A (f (.int i t) (.int j u)) Q E s) :
    OpR X f (rI C fun i j => .int (g i j)) := by
  intro pins s σ H x y v u Q I rx ry h
  obtain ⟨i, j, rfl, rfl, hc, q⟩ := h
  obtain ⟨t, rfl⟩ := rx
  obtain ⟨t', rfl⟩ := ry
  exact rule i j t t' s _ _ hc ⟨.int (g i j), H, I.tok _, ⟨_, rfl⟩, q⟩
theorem opI0 {f : Value → Value → Sem Value} {g : Int → Int → Int}
    (rule : ∀ (i j : Int) (t u : Tok) (s : Shared) (Q : Value → Shared → Prop) (E : Value → Shared → Prop), Q (.int (g i j) s.toks) { s with toks := s.toks + 1 } → wpAny (model X.prog X.w) X.A (f (.int i t) (.int j u)) Q E s) :
    OpR X f (rI0 fun i j => .int (g i j)) := by
  intro pins s σ H x y v u Q I rx ry h
  obtain ⟨i, j, rfl, rfl, q⟩ := h
  obtain ⟨t, rfl⟩ := rx
  obtain ⟨t', rfl⟩ := ry
  exact rule i j t t' s _ _ ⟨.int (g i j), H, I.tok _, ⟨_, rfl⟩, q⟩
theorem opB0 {f : Value → Value → Sem Value} {g : Int → Int → Bool}
    (rule : ∀ (i j : Int) (t u : Tok) (s : Shared) (Q : Value → Shared → Prop) (E : Value → Shared → Prop), Q (.bool (g i j)) s → wpAny (model X.prog X.w) X.A (f (.int i t) (.int j u)) Q E s) :
    OpR X f (rI0 fun i j => .bl (g i j)) := by
  intro pins s σ H x y v u Q I rx ry h
  obtain ⟨i, j, rfl, rfl, q⟩ := h
  obtain ⟨t, rfl⟩ := rx
  obtain ⟨t', rfl⟩ := ry
  exact rule i j t t' s _ _ ⟨.bl (g i j), H, I, rfl, q⟩
def CDiv (i j : Int) : Prop := 0 < j ∧ j < 1073741824
def CPow (i j : Int) : Prop := 0 ≤ j ∧ j ≤ 1000000 ∧ i.natAbs < 2 ^ 64
def CMul (i j : Int) : Prop := (-(2 ^ 64) < i ∧ i < 2 ^ 64) ∨ (-(2 ^ 64) < j ∧ j < 2 ^ 64)
theorem CMul.ok {i j : Int} (h : CMul i j) : IntMulOk i j := by
  rcases h with ⟨h1, h2⟩ | ⟨h1, h2⟩
  · exact .of_left (intBits_le_64 h1 h2)
  · exact .of_right (intBits_le_64 h1 h2)
theorem op_add : OpR X (binaryOp .Add) (rI0 fun i j => .int (i + j)) := opI0 fun _ _ _ _ _ _ _ q => add_int q
theorem op_sub : OpR X (binaryOp .Sub) (rI0 fun i j => .int (i - j)) := opI0 fun _ _ _ _ _ _ _ q => sub_int q
theorem op_mul : OpR X (binaryOp .Mult) (rI CMul fun i j => .int (i * j)) := opI fun _ _ _ _ _ _ _ hc q => mul_int q hc.ok
theorem op_fdiv : OpR X (binaryOp .FloorDiv) (rI CDiv fun i j => .int (i / j)) := opI fun i j _ _ _ _ _ hc q => by
  have h1 : (0 : Int) < j := hc.1
  have h2 : j < 1073741824 := hc.2
  exact floordiv_int (by omega) (by rw [Int.fdiv_eq_ediv_of_nonneg i (by omega)]; exact q) (.inl (PyProof.noPylong_small (by omega)))
theorem op_mod : OpR X (binaryOp .Mod) (rI (fun _ j => 0 < j) fun i j => .int (i % j)) := opI fun i j _ _ _ _ _ hc q => by
  have h1 : (0 : Int) < j := hc
  exact mod_int' (by omega) (by rw [Int.fmod_eq_emod_of_nonneg i (by omega)]; exact q)
theorem op_pow : OpR X (binaryOp .Pow) (rI CPow fun i j => .int (i ^ j.toNat)) := opI fun _ _ _ _ _ _ _ hc q => pow_int_small hc.1 hc.2.1 hc.2.2 q
theorem unI {f : Value → Sem Value} {g : Int → Int}
    (rule : ∀ (i : Int) (t : Tok) (s : Shared) (Q : Value → Shared → Prop) (E : Value → Shared → Prop), Q (.int (g i) s.toks) { s with toks := s.toks + 1 } → wpAny (model X.prog X.w) X.A (f (.int i t)) Q E s) :
    UnR X f (rU fun i => .int (g i)) := by
  intro pins s σ H x v Q I rx h
  obtain ⟨i, rfl, q⟩ := h
  obtain ⟨t, rfl⟩ := rx
  exact rule i t s _ _ ⟨.int (g i), H, I.tok _, ⟨_, rfl⟩, q⟩
theorem un_neg : UnR X (unaryOp .USub) (rU fun i => .int (-i)) := unI fun _ _ _ _ _ q => neg_int q
end
section
variable {X : Cx} {a b c : Expr} {ta tb tc : TE} {pos : Pos}
theorem fin_bl {pins : List (Addr × Obj)} {σ : St} {H : Hp} {s : Shared} {Q : VK} {k k' : Bool} (I : Inv X pins σ H s) (q : Q (.bl k) H) (e : k = k') : EP X pins σ Q (.bool k') s := by
  subst e
  exact ⟨.bl k, H, I, rfl, q⟩
theorem op_lt : OpR X (compareOp .Lt) (rI0 fun i j => .bl (decide (i < j))) := opB0 fun _ _ _ _ _ _ _ q => lt_int q
theorem op_le : OpR X (compareOp .LtE) (rI0 fun i j => .bl (decide (i ≤ j))) := opB0 fun _ _ _ _ _ _ _ q => le_int q
theorem op_gt : OpR X (compareOp .Gt) (rI0 fun i j => .bl (decide (j < i))) := opB0 fun _ _ _ _ _ _ _ q => gt_int q
theorem op_ge : OpR X (compareOp .GtE) (rI0 fun i j => .bl (decide (j ≤ i))) := opB0 fun _ _ _ _ _ _ _ q => ge_int q
theorem op_isN : OpR X (compareOp .Is) (fun x y H Q => y = .non ∧ Q (.bl (decide (x = .non))) H) := by
  intro pins s σ H x y v u Q I rx ry h
  obtain ⟨rfl, q⟩ := h
  cases ry
  refine is_none_gen (fin_bl I q ?_)
  cases x <;> first
    | (cases rx; rfl)
    | (obtain ⟨t, rfl⟩ := rx; rfl)
theorem op_notN : OpR X (compareOp .IsNot) (fun x y H Q => y = .non ∧ Q (.bl (!decide (x = .non))) H) := by
  intro pins s σ H x y v u Q I rx ry h
  obtain ⟨rfl, q⟩ := h
  cases ry
  refine isnot_none_gen (fin_bl I q ?_)
  cases x <;> first
    | (cases rx; rfl)
    | (obtain ⟨t, rfl⟩ := rx; rfl)
theorem nomark (b : Expr) {op : CmpOp} (h : op ≠ .In := by decide) (h2 : op ≠ .NotIn := by decide) : behindInMarks op b = false := by
  have e1 : (op == CmpOp.In) = false := by cases op <;> first | rfl | exact absurd rfl h
  have e2 : (op == CmpOp.NotIn) = false := by cases op <;> first | rfl | exact absurd rfl h2
  cases b <;> simp [behindInMarks, e1, e2]
theorem pe_cmpR {op : CmpOp} {r : R2} (ho : OpR X (compareOp op) r) (ha : PE X a ta) (hb : PE X b tb) (hm : behindInMarks op b = false) : PE X (.Compare a [op] [b] pos) (tOp r ta tb) := by
  intro pins s σ H Q I h
  exact wpAny_Compare1 (binT ha hb I h fun v u s2 x y H2 I2 rx ry q => ho pins s2 σ H2 x y v u Q I2 rx ry q) hm
def tTest (t : TE) : TT := fun σ H Q => t σ H fun x H' => ∃ k, x = .bl k ∧ Q k H'
theorem pt_cmpR {op : CmpOp} {r : R2} (ho : OpR X (compareOp op) r) (ha : PE X a ta) (hb : PE X b tb) (hm : behindInMarks op b = false) : PT X (.Compare a [op] [b] pos) (tTest (tOp r ta tb)) := by
  intro pins s σ H Q I h
  refine wpAny_isTrue_Compare1 (thn (ha pins s σ H _ I h) fun v s1 ⟨x, H1, I1, r1, q1⟩ => thn (hb pins s1 σ H1 _ I1 q1) fun u s2 ⟨y, H2, I2, r2, q2⟩ =>
    thn (ho pins s2 σ H2 x y v u _ I2 r1 r2 q2) fun c s3 ⟨z, H3, I3, r3, k, e, q3⟩ => ?_) hm
  subst e
  cases r3
  exact wpAny_truthy_bool ⟨H3, I3, q3⟩
def tChain (r r' : R2) (ta tb tc : TE) : TE := fun σ H Q => ta σ H fun x H1 => tb σ H1 fun y H2 => r x y H2 fun z H3 => ∃ k, z = .bl k ∧
  (if k = true then tc σ H3 fun w' H4 => r' y w' H4 Q else Q (.bl false) H3)
theorem pt_chain {op op' : CmpOp} {r r' : R2} (ho : OpR X (compareOp op) r) (ho' : OpR X (compareOp op') r') (ha : PE X a ta) (hb : PE X b tb) (hc : PE X c tc)
    (hm : lastMarks [op, op'] [b, c] = false := by with_unfolding_all rfl) : PT X (.Compare a [op, op'] [b, c] pos) (tTest (tChain r r' ta tb tc)) := by
  intro pins s σ H Q I h
  refine isTrue_chain (thn (ha pins s σ H _ I h) fun v s1 ⟨x, H1, I1, r1, q1⟩ => test_link (thn (hb pins s1 σ H1 _ I1 q1) fun u s2 ⟨y, H2, I2, r2, q2⟩ =>
    thn (ho pins s2 σ H2 x y v u _ I2 r1 r2 q2) fun d s3 ⟨z, H3, I3, r3, k, e, q3⟩ => ?_)) hm
  subst e
  cases r3
  refine wpAny_truthy_bool ?_
  cases k with
  | false =>
    obtain ⟨k', e', q'⟩ := q3
    cases e'
    exact ite_ff ⟨H3, I3, q'⟩
  | true =>
    refine ite_tt (test_last (thn (hc pins s3 σ H3 _ I3 q3) fun w' s4 ⟨z', H4, I4, r4, q4⟩ => thn (ho' pins s4 σ H4 y z' u w' _ I4 r2 r4 q4) fun d' s5 ⟨z2, H5, I5, r5, k2, e2, q5⟩ => ?_))
    subst e2
    cases r5
    exact wpAny_truthy_bool ⟨H5, I5, q5⟩
theorem line63 : (sizeLine : Nat) < 2 ^ 63 := by rw [sizeLine_eq]; decide
theorem vals1 {x : V} {us : List Value} (r : Vals [x] us) : ∃ u, us = [u] ∧ RelV x u := by
  cases r with
  | cons r1 r2 => cases r2; exact ⟨_, rfl, r1⟩
theorem vals2 {x y : V} {us : List Value} (r : Vals [x, y] us) : ∃ u w', us = [u, w'] ∧ RelV x u ∧ RelV y w' := by
  cases r with
  | cons r1 r2 =>
    cases r2 with
    | cons r3 r4 => cases r4; exact ⟨_, _, rfl, r1, r3⟩
end
end L2
namespace L2
open PySem PySem.Spec PyProof.Rows
structure ObjM (h : Heap) (x dx C : Addr) (mA : Str → Option Value) : Prop where
  obj : h.get? x = some (PySem.W.instObj C dx)
  ns : h.Ns1 dx mA
  ne : dx ≠ x
theorem lookIn_ns {h : Heap} {dx : Addr} {mA : Str → Option Value} (n : h.Ns1 dx mA) : ∃ od, h.get? dx = some od ∧ ∀ name, PySem.W.lookIn name od = some (mA name) := by
  obtain ⟨o, es, ep, ho, hd, hk, _, hm⟩ := n
  refine ⟨o, ho, fun name => ?_⟩
  have e := hm name
  unfold nsFind findBy at e
  rw [← Array.find?_toList] at e
  unfold PySem.W.lookIn
  rw [hd]
  dsimp only
  split
  · rename_i y q
    rw [q] at e
    exact congrArg some e
  · rename_i q
    rw [q] at e
    have a : es.toList.any (·.refKey) = false := by
      rw [List.any_eq_false]
      intro y hy
      obtain ⟨z, t, hkey⟩ := hk y (Array.mem_toList_iff.mp hy)
      simp [DictEntry.refKey, hkey]
    have a' : ¬ es.toList.any (·.refKey) = true := by rw [a]; exact Bool.false_ne_true
    rw [if_neg a']
    exact congrArg some e
theorem ObjM.look {h : Heap} {x dx C : Addr} {mA : Str → Option Value} (I : ObjM h x dx C mA) : ∃ od, PySem.W.InstAt h x (PySem.W.instObj C dx) C (some od) ∧ ∀ name, PySem.W.lookIn name od = some (mA name) :=
  let ⟨od, ho, hl⟩ := lookIn_ns I.ns
  ⟨od, ⟨I.obj, rfl, rfl, ho⟩, hl⟩
section
variable {prog : Program} {w : World} {A : Around} {E : Value → Shared → Prop} {s : Shared} {K : PySem.W.Frag} {x dx C f : Addr} {mA : Str → Option Value} {name : Str} {v : Value}
theorem get_map {expr : Bool} {Q : Value → Shared → Prop} (X : K.In s.heap) (I : ObjM s.heap x dx C mA) (hg : PySem.W.plainGet K C name = true) (hh : PySem.W.hasDictIn K C = true)
    (ha : PySem.W.findIn K (.ref C) name = some none) (hv : mA name = some v) (hv' : PySem.W.handedIn v = true) (h : Q v { s with toks := s.toks + 1 }) :
    wpAny (model prog w) A (getAttr (.ref x) name expr) Q E s := by
  obtain ⟨od, J, hl⟩ := I.look
  exact PySem.W.get_value X J (PySem.W.plainGet_of hg).1 (PySem.W.findObj_own hh ha rfl (by rw [hl, hv])) hv' h
theorem get_meth {pl : Sem Bool} {Q : Value × List Value → Shared → Prop} (X : K.In s.heap) (I : ObjM s.heap x dx C mA) (hg : PySem.W.plainGet K C name = true)
    (hf : PySem.W.findIn K (.ref C) name = some (some (.ref f))) (ht : PySem.W.isFn K (.ref f) = true) (hv : mA name = none) (h : Q (.ref f, [.ref x]) s) :
    wpAny (model prog w) A (getMethod (.ref x) name pl) Q E s := by
  obtain ⟨od, J, hl⟩ := I.look
  exact PySem.W.method_fn X J (PySem.W.plainGet_of hg).1 (PySem.W.plainGet_of hg).2 hf (beq_iff_eq.mp ht) (by show (PySem.W.lookIn name od).map (·.isSome) = some false; rw [hl, hv]; rfl) h
theorem set_map {ns : List Str} {Q : Unit → Shared → Prop} (X : K.In s.heap) (I : ObjM s.heap x dx C mA)
    (hs : PySem.W.findIn K (.ref C) "__setattr__" = some (some (.builtin "object.__setattr__"))) (hp : PySem.W.plainOver K C = true) (ht : PySem.W.takerIn K C name = some none) (hh : PySem.W.hasDictIn K C = true)
    (hw : PySem.Within mA ns) (hsz : ns.length ≤ sizeLine)
    (h : ∀ h', ObjM h' x dx C (fun y => if y = name then some v else mA y) → Heap.SameBut dx s.heap h' → Q () { s with heap := h', toks := s.toks + 2 }) :
    wpAny (model prog w) A (setAttr (.ref x) name v) Q E s := by
  obtain ⟨od, J, hl⟩ := I.look
  refine PySem.W.set_plain X J hs (PySem.W.osa_open (s := { s with toks := s.toks + 1 }) (r := none) X J hp ht fun b => ?_)
  obtain ⟨cd, hc, hd'⟩ := PySem.W.any_some hh
  have hx : s.heap.get? x = some ⟨.ref C, some dx, .plain, #[]⟩ := I.obj
  refine wpAny_bind (wpAny_pure (wpAny_bind (wpAny_bind (wpAny_loadPart hx (wpAny_bind (PySem.W.Looks.here (s := { s with toks := s.toks + 1 }) (PySem.W.looks_clsIn X hc) ?_))))))
  rw [hd']
  refine wpAny_pure (a := some dx) (wpAny_bind (wpAny_pure (wpAny_bind ?_)))
  refine wpAny_nsSet1 (s := { s with toks := s.toks + 1 }) I.ns fun h' hn2 hs2 => ?_
  obtain ⟨oD, esD, epD, hoD, hdD, hcD⟩ := hn2.count (PySem.Within.cons name v hw)
  refine wpAny_bind (wpAny_lookBehind hoD (by rw [hdD]; exact pastItsLine_dict (Nat.le_trans hcD (by rw [List.length_cons]; omega))) ?_)
  exact wpAny_pure (h _ ⟨(hs2.2 _ (Ne.symm I.ne)).trans I.obj, hn2, I.ne⟩ hs2)
theorem make_map {R : Result → Shared → Prop} {vs : List Value} {kw : List (Str × Value)} (X : K.In s.heap) (hm : PySem.W.makesIn K C = true)
    (hi : PySem.W.findIn K (.ref C) "__init__" = some (some (.ref f))) (hf : PySem.W.typeIn K (.ref f) = some (.type "function"))
    (h : codeAny (model prog w) (A.under (.builtin "type.__call__" ⟨.ref C :: vs, kw⟩)) (.call (.ref f) ⟨.ref (s.heap.objs.size + 1) :: vs, kw⟩) (PySem.W.InitBack (s.heap.objs.size + 1) R)
      { s with heap := (s.heap.push PySem.W.emptyDict).push (PySem.W.instObj C s.heap.objs.size) }) :
    codeAny (model prog w) A (.call (.ref C) ⟨vs, kw⟩) R s := by
  obtain ⟨hh, g, d, t, os⟩ := s
  exact PySem.W.make_core (PySem.W.makes_of X hm) (PySem.W.looks_findIn X hi) (fun self => PySem.W.bind_fn X self hf) (.inl rfl) h
end
def putF (f : Str) (v : V) : List (Str × V) → List (Str × V)
  | [] => [(f, v)]
  | (g, x) :: r => if g = f then (g, v) :: r else (g, x) :: putF f v r
theorem lookup_putF (f g : Str) (v : V) : ∀ fs : List (Str × V), (putF f v fs).lookup g = if g = f then some v else fs.lookup g
  | [] => by
    show List.lookup g [(f, v)] = _
    by_cases h : g = f
    · have hb : (g == f) = true := beq_iff_eq.mpr h
      simp only [List.lookup, hb, if_pos h]
    · have hb : (g == f) = false := beq_eq_false_iff_ne.mpr h
      simp only [List.lookup, hb, if_neg h]
  | (k, x) :: r => by
    have ih := lookup_putF f g v r
    rw [show putF f v ((k, x) :: r) = (if k = f then (k, v) :: r else (k, x) :: putF f v r) from rfl]
    by_cases hk : k = f
    · rw [if_pos hk]
      by_cases h : g = k
      · have hb : (g == k) = true := beq_iff_eq.mpr h
        simp only [List.lookup, hb, if_pos (h.trans hk)]
      · have hb : (g == k) = false := beq_eq_false_iff_ne.mpr h
        simp only [List.lookup, hb, if_neg (fun e : g = f => h (e.trans hk.symm))]
    · rw [if_neg hk]
      by_cases h : g = k
      · have hb : (g == k) = true := beq_iff_eq.mpr h
        simp only [List.lookup, hb, if_neg (fun e : g = f => hk (h.symm.trans e))]
      · have hb : (g == k) = false := beq_eq_false_iff_ne.mpr h
        simp only [List.lookup, hb]
        exact ih
theorem keys_putF (f : Str) (v : V) : ∀ fs : List (Str × V), f ∈ (putF f v fs).map (·.1) ∧ ∀ g, g ∈ fs.map (·.1) → g ∈ (putF f v fs).map (·.1)
  | [] => ⟨by simp [putF], fun g h => by simp at h⟩
  | (k, x) :: r => by
    obtain ⟨i1, i2⟩ := keys_putF f v r
    rw [show putF f v ((k, x) :: r) = (if k = f then (k, v) :: r else (k, x) :: putF f v r) from rfl]
    by_cases hk : k = f
    · rw [if_pos hk]
      subst hk
      exact ⟨by simp, fun g h => by simpa using h⟩
    · rw [if_neg hk]
      refine ⟨?_, fun g h => ?_⟩
      · rw [List.map_cons]
        exact List.mem_cons_of_mem _ i1
      · rw [List.map_cons] at h ⊢
        rcases List.mem_cons.mp h with e | e
        · exact List.mem_cons.mpr (.inl e)
        · exact List.mem_cons_of_mem _ (i2 g e)
theorem length_putF (f : Str) (v : V) : ∀ fs : List (Str × V), (putF f v fs).length ≤ fs.length + 1
  | [] => by simp [putF]
  | (k, x) :: r => by
    have ih := length_putF f v r
    rw [show putF f v ((k, x) :: r) = (if k = f then (k, v) :: r else (k, x) :: putF f v r) from rfl]
    by_cases hk : k = f
    · rw [if_pos hk, List.length_cons, List.length_cons]; omega
    · rw [if_neg hk, List.length_cons, List.length_cons]; omega
theorem RelO.some_of {v : V} {o : Option Value} (r : RelO (some v) o) : ∃ u, o = some u ∧ RelV v u := by
  cases o with
  | none => exact (show False from r).elim
  | some u => exact ⟨u, rfl, r⟩
theorem RelO.none_of {o : Option Value} (r : RelO none o) : o = none := by
  cases o with
  | none => rfl
  | some u => exact (show False from r).elim
theorem handed_of {v : V} {u : Value} (r : RelV v u) : PySem.W.handedIn u = true := by
  cases v with
  | non => cases (show u = Value.none from r); rfl
  | bl b => cases (show u = Value.bool b from r); rfl
  | int i => obtain ⟨t, e⟩ := (show ∃ t, u = Value.int i t from r); cases e; rfl
  | str x => obtain ⟨t, e⟩ := (show ∃ t, u = Value.str x t from r); cases e; rfl
  | byt b => obtain ⟨t, e⟩ := (show ∃ t, u = Value.bytes b t from r); cases e; rfl
  | flt b => obtain ⟨t, e⟩ := (show ∃ t, u = Value.float b t from r); cases e; rfl
  | ref a => cases (show u = Value.ref a from r); rfl
  | ty n => cases (show u = Value.type n from r); rfl
section
variable {P : Program} {w : World} {H H' : Hp} {h h' : Heap} {a C dx : Addr} {fs fs' : List (Str × V)}
theorem ins_get (hok : HOk P w H h) (e : H a = some (.ins C dx fs)) : ∃ mA, ObjM h a dx C mA ∧ (∀ f, RelO (fs.lookup f) (mA f)) ∧ PySem.Within mA (fs.map (·.1)) ∧ fs.length ≤ 1000 ∧ H dx = some (.own a) := by
  obtain ⟨d, z, ne, ob, mA, n, r, q⟩ := (show ObjOk P w H h a (.ins C dx fs) from hok a _ e)
  exact ⟨mA, ⟨ob, n, ne⟩, r, q, z, d⟩
end
structure Cls (K : PySem.W.Frag) (C : Addr) : Prop where
  pg : PySem.W.plainGet K C Str.empty = true
  hd : PySem.W.hasDictIn K C = true
  po : PySem.W.plainOver K C = true
  sa : PySem.W.findIn K (.ref C) "__setattr__" = some (some (.builtin "object.__setattr__"))
theorem Cls.get {K : PySem.W.Frag} {C : Addr} (c : Cls K C) (f : Str) : PySem.W.plainGet K C f = true := c.pg
def NoAttr (K : PySem.W.Frag) (C : Addr) (f : Str) : Prop := PySem.W.findIn K (.ref C) f = some none
theorem NoAttr.taker {K : PySem.W.Frag} {C : Addr} {f : Str} (n : NoAttr K C f) : PySem.W.takerIn K C f = some none := by
  unfold PySem.W.takerIn
  rw [show PySem.W.findIn K (.ref C) f = some none from n]
  rfl
structure Meth (K : PySem.W.Frag) (C : Addr) (m : Str) (f : Addr) : Prop where
  at_ : PySem.W.findIn K (.ref C) m = some (some (.ref f))
  fn : PySem.W.isFn K (.ref f) = true
  kp : PySem.W.keepIn K (.ref f) = true
section
variable {X : Cx} {pins : List (Addr × Obj)} {σ : St} {H : Hp} {s : Shared} {a C dx : Addr} {fs : List (Str × V)} {f : Str} {v : V} {A : Around} {E : Value → Shared → Prop}
theorem getattr_ok {b : Bool} {Q : Value → Shared → Prop} (I : Inv X pins σ H s) (e : H a = some (.ins C dx fs)) (c : Cls X.K C) (n : NoAttr X.K C f) (l : fs.lookup f = some v)
    (h : ∀ u s', Inv X pins σ H s' → RelV v u → Q u s') : wpAny (model X.prog X.w) A (getAttr (.ref a) f b) Q E s := by
  obtain ⟨mA, O, r, _, _, _⟩ := ins_get I.hok e
  obtain ⟨u, hu, ru⟩ := RelO.some_of (v := v) (o := mA f) (by rw [← l]; exact r f)
  exact get_map I.kIn O (c.get f) c.hd n hu (handed_of ru) (h u _ (I.tok _) ru)
theorem getmeth_ok {m : Str} {g : Addr} {pl : Sem Bool} {Q : Value × List Value → Shared → Prop} (I : Inv X pins σ H s) (e : H a = some (.ins C dx fs)) (c : Cls X.K C) (k : Meth X.K C m g) (l : fs.lookup m = none)
    (h : Q (.ref g, [.ref a]) s) : wpAny (model X.prog X.w) A (getMethod (.ref a) m pl) Q E s := by
  obtain ⟨mA, O, r, _, _, _⟩ := ins_get I.hok e
  have hn : mA m = none := RelO.none_of (by rw [← l]; exact r m)
  exact get_meth I.kIn O (c.get m) k.at_ k.fn hn h
theorem setattr_ok {y : V} {u : Value} {Q : Unit → Shared → Prop} (I : Inv X pins σ H s) (e : H a = some (.ins C dx fs)) (c : Cls X.K C) (n : NoAttr X.K C f) (hl : fs.length < 1000) (ry : RelV y u)
    (h : ∀ s', Inv X pins σ (upd H a (.ins C dx (putF f y fs))) s' → Q () s') : wpAny (model X.prog X.w) A (setAttr (.ref a) f u) Q E s := by
  obtain ⟨mA, O, r, wi, _, ho⟩ := ins_get I.hok e
  have hz : (fs.map (·.1)).length ≤ sizeLine := by rw [List.length_map, sizeLine_eq]; omega
  refine set_map I.kIn O c.sa c.po n.taker c.hd wi hz fun h' O' sb => h _ ?_
  have hd : ∃ o, h'.get? dx = some o := let ⟨o, _, _, e', _⟩ := O'.ns; ⟨o, e'⟩
  refine I.write (x := a) (e := dx) (by rw [e]; exact True.intro) (.inr ho) (fun b q hb z => (sb.2 b hb).trans z) hd ?_
  refine ⟨by rw [upd_ne O.ne]; exact ho, ?_, O.ne, O'.obj, _, O'.ns, fun g => ?_, fun g hg => ?_⟩
  · have := length_putF f y fs; omega
  · show RelO ((putF f y fs).lookup g) (if g = f then some u else mA g)
    rw [lookup_putF]
    by_cases q : g = f
    · rw [if_pos q, if_pos q]; exact ry
    · rw [if_neg q, if_neg q]; exact r g
  · by_cases q : g = f
    · rw [q]; exact (keys_putF f y fs).1
    · refine (keys_putF f y fs).2 g (wi g fun z => hg ?_)
      show (if g = f then some u else mA g) = none
      rw [if_neg q]; exact z
theorem Inv.made (I : Inv X pins σ H s) : Inv X pins σ (upd (upd H s.heap.objs.size (.own (s.heap.objs.size + 1))) (s.heap.objs.size + 1) (.ins C s.heap.objs.size []))
    { s with heap := (s.heap.push PySem.W.emptyDict).push (PySem.W.instObj C s.heap.objs.size) } := by
  have e1 : (s.heap.push PySem.W.emptyDict).get? s.heap.objs.size = some PySem.W.emptyDict := Heap.get?_push_size s.heap rfl
  have e2 : ((s.heap.push PySem.W.emptyDict).push (PySem.W.instObj C s.heap.objs.size)).get? (s.heap.objs.size + 1) = some (PySem.W.instObj C s.heap.objs.size) := by
    have := Heap.get?_push_size (s.heap.push PySem.W.emptyDict) (o := PySem.W.instObj C s.heap.objs.size) rfl
    rwa [Heap.size_push] at this
  have e3 : (s.heap.push PySem.W.emptyDict).Ns s.heap.objs.size (fun _ => none) := ⟨PySem.W.emptyDict, #[], _, e1, rfl, (fun e he => absurd he (by simp)), fun _ => rfl⟩
  have I1 := I.laid (a := s.heap.objs.size) (o := .own (s.heap.objs.size + 1)) (h' := s.heap.push PySem.W.emptyDict) (t' := s.toks) (fun b u q => Heap.get?_push_of_some _ q) (Nat.le_refl _) ⟨_, e1⟩
  refine I1.laid (a := s.heap.objs.size + 1) (o := .ins C s.heap.objs.size []) (t' := s.toks) (fun b u q => Heap.get?_push_of_some _ q) (Nat.le_of_eq (Heap.size_push _ _)) ?_
  have ne : s.heap.objs.size ≠ s.heap.objs.size + 1 := Nat.ne_of_lt (Nat.lt_succ_self _)
  refine ⟨by rw [upd_ne ne, upd_same], Nat.zero_le _, ne, e2, fun _ => none, (Heap.Ns1.of_empty e3).at fun o q => Heap.get?_push_of_some _ q, fun _ => True.intro, fun y hy => absurd rfl hy⟩
theorem attr_of {prog : Program} {w : World} {env : Env} {e : Expr} {f : Str} {pos : Pos} {s : Shared} {Q : Value → Shared → Prop} (hb : attributeBase e f env (eval e env) = eval e env)
    (h : wpAny (model prog w) A (eval e env) (fun o s₁ => wpAny (model prog w) A (getAttr o f true) Q E s₁) E s) : wpAny (model prog w) A (eval (.Attribute e f pos) env) Q E s :=
  Attribute_any_ h (by rw [arm_eval_Attribute, hb])
end
def tFld (K : PySem.W.Frag) (ta : TE) (f : Str) : TE := fun σ H Q => ta σ H fun x H1 => ∃ a C dx fs v, x = .ref a ∧ H1 a = some (.ins C dx fs) ∧ Cls K C ∧ NoAttr K C f ∧ fs.lookup f = some v ∧ Q v H1
def sFld (K : PySem.W.Frag) (ta tv : TE) (f : Str) : TS := fun D σ H => tv σ H fun y H1 => ta σ H1 fun x H2 => ∃ a C dx fs, x = .ref a ∧ H2 a = some (.ins C dx fs) ∧ Cls K C ∧ NoAttr K C f ∧ fs.length < 1000 ∧
  D.nx σ (upd H2 a (.ins C dx (putF f y fs)))
def InOp (X : Cx) (op : Operator) (rd : V → V → Hp → VK → Prop) : Prop :=
  ∀ (pins : List (Addr × Obj)) (s : Shared) (σ : St) (H : Hp) (x y : V) (u v : Value) (Q : VK), Inv X pins σ H s → RelV x u → RelV y v → rd x y H Q → wpAny (model X.prog X.w) X.A (inplaceOp op u v) (EP X pins σ Q) X.xe s
def sFldAug (K : PySem.W.Frag) (ta tv : TE) (rd : V → V → Hp → VK → Prop) (f : Str) : TS := fun D σ H => ta σ H fun x H1 => ∃ a C dx fs v, x = .ref a ∧ H1 a = some (.ins C dx fs) ∧ Cls K C ∧ NoAttr K C f ∧ fs.lookup f = some v ∧
  tv σ H1 fun y H2 => rd v y H2 fun z H3 => ∃ dx' fs', H3 a = some (.ins C dx' fs') ∧ fs'.length < 1000 ∧ D.nx σ (upd H3 a (.ins C dx' (putF f z fs')))
section
variable {X : Cx} {o e value : Expr} {f : Str} {pos pos' tpos : Pos} {ta tv : TE}
theorem pe_fld (he : PE X e ta) (hb : attributeBase e f X.env (eval e X.env) = eval e X.env) : PE X (.Attribute e f pos) (tFld X.K ta f) := by
  intro pins s σ H Q I h
  refine attr_of hb (thn (he pins s σ H _ I h) fun u s1 ⟨x, H1, I1, rx, a, C, dx, fs, v, ex, ea, c, n, l, q⟩ => ?_)
  subst ex
  obtain rfl : u = Value.ref a := rx
  exact getattr_ok I1 ea c n l fun u' s2 I2 ru => ⟨v, H1, I2, ru, q⟩
theorem ps_fld (ha : PE X o ta) (hv : PE X value tv) (hs : swapsWith value (some (.Attribute o f pos')) pos.line X.env = pure false) : PS X (.Assign [.Attribute o f pos'] value pos) (sFld X.K ta tv f) := by
  intro pins s σ H D I h
  refine plainObj_wpAny_Assign_Attribute (thn (hv pins s σ H _ I h) fun u s1 ⟨y, H1, I1, ry, q⟩ => thn (ha pins s1 σ H1 _ I1 q) fun ov s2 ⟨x, H2, I2, rx, a, C, dx, fs, ex, ea, c, n, l, q2⟩ => ?_) hs
  subst ex
  obtain rfl : ov = Value.ref a := rx
  exact setattr_ok I2 ea c n l ry fun s3 I3 => ⟨σ, _, I3, q2⟩
theorem ps_fldaug {op : Operator} {rd : V → V → Hp → VK → Prop} (ha : PE X o ta) (hv : PE X value tv) (hop : InOp X op rd) : PS X (.AugAssign (.Attribute o f tpos) op value pos) (sFldAug X.K ta tv rd f) := by
  intro pins s σ H D I h
  refine wpAny_AugAssign_AttributeAny (thn (ha pins s σ H _ I h) fun ov s1 ⟨x, H1, I1, rx, a, C, dx, fs, v, ex, ea, c, n, l, q⟩ => ?_)
  subst ex
  obtain rfl : ov = Value.ref a := rx
  refine getattr_ok I1 ea c n l fun u s2 I2 ru => thn (hv pins s2 σ H1 _ I2 q) fun w3 s3 ⟨y, H2, I3, ry, q3⟩ => thn (hop pins s3 σ H2 v y u w3 _ I3 ru ry q3) fun w4 s4 ⟨z, H3, I4, rz, dx', fs', ea', l', q4⟩ => ?_
  exact setattr_ok I4 ea' c n l' rz fun s5 I5 => ⟨σ, _, I5, q4⟩
def rAdd : V → V → Hp → VK → Prop := fun x y H Q => ∃ i j, x = .int i ∧ y = .int j ∧ Q (.int (i + j)) H
theorem in_add : InOp X .Add rAdd := by
  rintro pins s σ H x y u v Q I rx ry ⟨i, j, rfl, rfl, q⟩
  obtain ⟨t, rfl⟩ := (show ∃ t, u = Value.int i t from rx)
  obtain ⟨t', rfl⟩ := (show ∃ t', v = Value.int j t' from ry)
  exact PyProof.Rows.iadd_int ⟨.int (i + j), H, I.tok _, ⟨_, rfl⟩, q⟩
theorem methcall_of {pl : Sem Bool} {m : Str} {apos : Pos} {args : List Expr} {pins : List (Addr × Obj)} {s : Shared} {σ : St} {H : Hp} {Q : Value → Shared → Prop} {te : TE} (he : PE X e te) (I : Inv X pins σ H s)
    (h : te σ H fun x H1 => ∃ a C dx fs g, x = .ref a ∧ H1 a = some (.ins C dx fs) ∧ Cls X.K C ∧ Meth X.K C m g ∧ fs.lookup m = none ∧
      ∀ s1, Inv X pins σ H1 s1 → wpAny (model X.prog X.w) X.A (callWith pos (.ref g) [.ref a] (backTo pos (starEach args X.env)) (backToKw pos (keywordEach [] X.env))) Q X.xe s1)
    (ht : eval (.Call (.Attribute e m apos) args [] pos) X.env = (do
      let ov ← eval e X.env
      standAt apos.atName
      let (f, first) ← holding [ov] (getMethod ov m pl)
      callWith pos f first (backTo pos (starEach args X.env)) (backToKw pos (keywordEach [] X.env)))) :
    wpAny (model X.prog X.w) X.A (eval (.Call (.Attribute e m apos) args [] pos) X.env) Q X.xe s := by
  refine PySem.W.methodCall_KW (pl := pl) (thn (he pins s σ H _ I h) fun u s1 ⟨x, H1, I1, rx, a, C, dx, fs, g, ex, ea, c, k, l, q⟩ => ?_) ht
  subst ex
  obtain rfl : u = Value.ref a := rx
  exact getmeth_ok I1 ea c k l (q s1 I1)
end
section
variable {X : Cx} {pins : List (Addr × Obj)} {σ : St} {H : Hp} {s : Shared} {A : Around} {E : Value → Shared → Prop} {Q : Value → Shared → Prop} {c : Value} {b : Bool}
end
end L2
namespace L2
open PySem PySem.Spec PyProof.Rows
structure Room (k : Nat) (A : Around) : Prop where
  hd : A.handled = none
  dp : A.depth + 3 * k + 5 < recursionLimit
  un : A.units + 16 * k + 200 < cLine
theorem Room.mono {j k : Nat} {A : Around} (r : Room k A) (h : j ≤ k) : Room j A := ⟨r.hd, by have := r.dp; omega, by have := r.un; omega⟩
theorem Room.deeper {k : Nat} {A : Around} (r : Room (k + 1) A) (env : Env) : Room k (A.deeper env) :=
  ⟨r.hd, by have := r.dp; show A.depth + 1 + 3 * k + 5 < _; omega, by have := r.un; show A.units + 3 + 16 * k + 200 < _; omega⟩
theorem make_depth {A : Around} {C : Addr} {us : List Value} {kw : List (Str × Value)} : (A.under (.builtin "type.__call__" ⟨.ref C :: us, kw⟩)).depth = A.depth + 1 := by
  first | rfl | simp [Around.under, Code.weight, Code.isCreation, Code.isGuard, Code.isCaller, Code.frames, Code.isFrame, guardIds]
theorem make_units {A : Around} {C : Addr} {us : List Value} {kw : List (Str × Value)} : (A.under (.builtin "type.__call__" ⟨.ref C :: us, kw⟩)).units = A.units + 1 := by
  first | rfl | simp [Around.under, Code.cUnits, Code.frames, Code.isFrame]
theorem Room.make {k : Nat} {A : Around} (r : Room (k + 1) A) (C : Addr) (us : List Value) (kw : List (Str × Value)) : Room k (A.under (.builtin "type.__call__" ⟨.ref C :: us, kw⟩)) :=
  ⟨r.hd, by have := r.dp; rw [make_depth]; omega, by have := r.un; rw [make_units]; omega⟩
theorem Room.depth {k : Nat} {A : Around} (r : Room k A) : A.depth < recursionLimit := by have := r.dp; omega
theorem Room.units {k : Nat} {A : Around} (r : Room k A) : A.units + 64 < cLine := by have := r.un; omega
def tNil : TA := fun _ H Q => Q [] H
def tCons (ta : TE) (tr : TA) : TA := fun σ H Q => ta σ H fun x H1 => tr σ H1 fun xs H2 => Q (x :: xs) H2
section
variable {X : Cx} {e : Expr} {es : List Expr} {te : TE} {t : TA} {pos : Pos}
theorem pa_nil : PA X [] tNil := fun _ _ _ _ H Q I h => Calls.spliced_nil ⟨[], H, I, .nil, h⟩
theorem pa_cons (ha : PE X e te) (hr : PA X es t) (hs : starEach (e :: es) X.env = (false, eval e X.env) :: starEach es X.env := by rfl) : PA X (e :: es) (tCons te t) := by
  intro pos pins s σ H Q I h
  rw [hs]
  show wpAny _ _ (spliced ((false, eval e X.env) :: backTo pos (starEach es X.env))) _ _ s
  refine Calls.spliced_cons (thn (ha pins s σ H _ I h) fun u s1 ⟨x, H1, I1, r1, q1⟩ => ?_)
  exact thn (hr pos pins s1 σ H1 _ I1 q1) fun us s2 ⟨xs, H2, I2, r2, q2⟩ => ⟨x :: xs, H2, I2, .cons r1 r2, q2⟩
def tTup (t : TA) : TE := fun σ H Q => t σ H fun xs H1 => xs.length ≤ sizeLine ∧ ∀ p, H1 p = none → Q (.ref p) (upd H1 p (.tup xs))
def tLst (t : TA) : TE := fun σ H Q => t σ H fun xs H1 => xs.length ≤ sizeLine ∧ ∀ p, H1 p = none → Q (.ref p) (upd H1 p (.lst xs))
theorem pe_tup {x1} (h : PA X es t) : PE X (.Tuple es x1 pos) (tTup t) := by
  intro pins s σ H Q I hq
  refine wpAny_Tuple_spliced (thn (h pos pins s σ H _ I hq) fun us s1 ⟨xs, H1, I1, r, z, q⟩ => ⟨by rw [← r.length]; exact z, ?_⟩)
  have hf : H1 s1.heap.objs.size = none := I1.hok.fresh (Nat.le_refl _)
  refine ⟨.ref s1.heap.objs.size, upd H1 s1.heap.objs.size (.tup xs), I1.laid (t' := s1.toks) (fun b u e => Heap.get?_push_of_some _ e) (Nat.le_refl _) ?_, rfl, q _ hf⟩
  exact ⟨z, us, r, ⟨_, Heap.get?_push_size _ rfl, rfl, _, rfl⟩⟩
theorem pe_lst (h : PA X es t) : PE X (.List es pos) (tLst t) := by
  intro pins s σ H Q I hq
  refine wpAny_List_spliced (thn (h pos pins s σ H _ I hq) fun us s1 ⟨xs, H1, I1, r, z, q⟩ => ⟨by rw [← r.length]; exact z, ?_⟩)
  have hf : H1 s1.heap.objs.size = none := I1.hok.fresh (Nat.le_refl _)
  refine ⟨.ref s1.heap.objs.size, upd H1 s1.heap.objs.size (.lst xs), I1.laid (t' := s1.toks) (fun b u e => Heap.get?_push_of_some _ e) (Nat.le_refl _) ?_, rfl, q _ hf⟩
  exact ⟨z, us, 0, r, Heap.get?_push_size _ rfl⟩
end
abbrev Sp := List V → Hp → VK → XK → Prop
abbrev CXT := List Env → Hp → Shared → XK → Value → Shared → Prop
structure Env0 (P : Program) (w : World) (K : PySem.W.Frag) (mg : Str → Option Value) (base : Heap) (A : Around) (outer : List Env) (s : Shared) (H : Hp) : Prop where
  frames : A.frames = some outer
  mod : Mod K mg base
  bs : ∀ b o, base.get? b = some o → s.heap.get? b = some o ∧ H b = none
  bsz : base.objs.size ≤ s.heap.objs.size
  funs : s.heap.FunFrames base outer
  frf : ∀ b ∈ frs outer, H b = none
  hok : HOk P w H s.heap
  bare : AllBare s.gens
def CE (outer : List Env) (P : Program) (w : World) (H : Hp) (s : Shared) (Q : VK) (u : Value) (s' : Shared) : Prop :=
  ∃ v H', s'.os = s.os ∧ AllBare s'.gens ∧ Un (frs outer) [] H H' s.heap s'.heap ∧ HOk P w H' s'.heap ∧ RelV v u ∧ Q v H'
def CR (CX : CXT) (outer : List Env) (P : Program) (w : World) (H : Hp) (s : Shared) (Q : VK) (E : XK) (r : Result) (s' : Shared) : Prop :=
  match r with
  | .ok (.ret u) => CE outer P w H s Q u s'
  | .ok _ => False
  | .error e => CX outer H s E e s'
structure FnOk (P : Program) (w : World) (K : PySem.W.Frag) (mg : Str → Option Value) (base : Heap) (CX : CXT) (k : Nat) (f : Addr) (fd : FuncData) (ps : List Str) (sp : Sp) : Prop where
  len : ∀ vs H Q E, sp vs H Q E → vs.length = ps.length
  run : ∀ (A : Around) (outer : List Env) (s : Shared) (H : Hp) (args : Args) (us : List Value) (vs : List V) (Q : VK) (E : XK), Room k A → Env0 P w K mg base A outer s H → BindsTo s fd args (ps.zip us) → Vals vs us → sp vs H Q E →
    codeAny (model P w) A (.call (.ref f) args) (CR CX outer P w H s Q E) s
theorem Env0.make {P : Program} {w : World} {K : PySem.W.Frag} {mg : Str → Option Value} {base : Heap} {A : Around} {outer : List Env} {s : Shared} {H : Hp} (e : Env0 P w K mg base A outer s H) (C : Addr) (us : List Value) (kw : List (Str × Value)) :
    Env0 P w K mg base (A.under (.builtin "type.__call__" ⟨.ref C :: us, kw⟩)) outer s H := ⟨by first | exact e.frames | (simpa [Around.under, Code.envs, Code.isFrame, pushEnvs] using e.frames), e.mod, e.bs, e.bsz, e.funs, e.frf, e.hok, e.bare⟩
section
variable {X : Cx} {pins : List (Addr × Obj)} {σ : St} {H : Hp} {s s' : Shared}
theorem Inv.env0 (I : Inv X pins σ H s) : Env0 X.prog X.w X.K X.mg X.base X.A X.stack s H :=
  ⟨I.ok.frames, I.ok.mod, I.bs, Nat.le_trans I.ok.bsz I.sz, I.stack, I.stkFree, I.hok, I.bare⟩
theorem Inv.after {Q : VK} {u : Value} (I : Inv X pins σ H s) (h : CE X.stack X.prog X.w H s Q u s') : EP X pins σ Q u s' := by
  obtain ⟨v, H', os, bare, un, hok, r, q⟩ := h
  obtain ⟨hh, g, d, t, os'⟩ := s'
  obtain rfl : os' = s.os := os
  exact ⟨v, H', I.call (h' := hh) (g' := g) (d' := d) (t' := t) (ch := []) un hok bare (fun b z => absurd z (by simp)), r, q⟩
end
def tCall (sp : Sp) (dvs : List V) (E : XK) (t : TA) : TE := fun σ H Q => t σ H fun vs H1 => sp (vs ++ dvs) H1 Q E
def tMeth (C : Addr) (m : Str) (sp : Sp) (dvs : List V) (E : XK) (ta : TE) (t : TA) : TE := fun σ H Q => ta σ H fun x H1 => ∃ a dx fs, x = .ref a ∧ H1 a = some (.ins C dx fs) ∧ fs.lookup m = none ∧
  t σ H1 fun vs H2 => sp (x :: (vs ++ dvs)) H2 Q E
def Binds (K : PySem.W.Frag) (fd : FuncData) (ps : List Str) (ds : List Value) : Prop :=
  ∀ (s : Shared) (us : List Value), K.In s.heap → (us ++ ds).length = ps.length → BindsTo s fd ⟨us, []⟩ (ps.zip (us ++ ds))
theorem Binds.all {K : PySem.W.Frag} {fd : FuncData} {ps : List Str} (h : ∀ us : List Value, us.length = ps.length → bindArgs fd ⟨us, []⟩ = pure (ps.zip us)) : Binds K fd ps [] := fun s us _ hl => by
  rw [List.append_nil] at hl ⊢
  exact .of_eq (h us hl)
def Passes (CX : CXT) (X : Cx) (E : XK) : Prop := ∀ (pins : List (Addr × Obj)) (σ : St) (H : Hp) (s : Shared) (e : Value) (s' : Shared), Inv X pins σ H s → CX X.stack H s E e s' → X.xe e s'
section
variable {X : Cx} {CX : CXT} {k : Nat} {f C : Addr} {fd : FuncData} {ps : List Str} {sp : Sp} {dvs : List V} {ds : List Value} {E : XK} {x m : Str} {p pos apos : Pos} {e o : Expr} {es : List Expr} {ta : TE} {t : TA}
theorem run_fn {pins : List (Addr × Obj)} {σ : St} {H : Hp} {s : Shared} {Q : VK} {us : List Value} {vs : List V} (F : FnOk X.prog X.w X.K X.mg X.base CX k f fd ps sp) (hr : Room k X.A) (hb : Binds X.K fd ps ds) (hd : Vals dvs ds) (hx : Passes CX X E)
    (I : Inv X pins σ H s) (r : Vals vs us) (h : sp (vs ++ dvs) H Q E) : wpAny (model X.prog X.w) X.A (call (.ref f) us) (EP X pins σ Q) X.xe s := by
  have r2 : Vals (vs ++ dvs) (us ++ ds) := r.append hd
  have hl : (us ++ ds).length = ps.length := by rw [← r2.length]; exact F.len _ _ _ _ h
  refine wpAny_call (codeAny_mono (F.run X.A X.stack s H ⟨us, []⟩ (us ++ ds) (vs ++ dvs) Q E hr I.env0 (hb s us I.kIn hl) r2 h) fun r s' hq => ?_)
  cases r with
  | error e => exact hx pins σ H s e s' I hq
  | ok fl =>
    cases fl with
    | ret u => exact I.after hq
    | next => exact False.elim hq
    | brk => exact False.elim hq
    | cont => exact False.elim hq
theorem pe_call (F : FnOk X.prog X.w X.K X.mg X.base CX k f fd ps sp) (hr : Room k X.A) (hg : Gl X x) (hm : X.mg x = some (.ref f)) (hk : PySem.W.keepIn X.K (.ref f) = true) (hb : Binds X.K fd ps ds) (hd : Vals dvs ds) (hx : Passes CX X E)
    (ha : PA X (e :: es) t) (hdb : (x == ("__debug__" : Str)) = false := by decide) (he : starEach (e :: es) X.env = (false, eval e X.env) :: starEach es X.env := by rfl) (hpl : (backTo pos (starEach es X.env)).any (·.1) = false := by rfl) :
    PE X (.Call (.Name x p) (e :: es) [] pos) (tCall sp dvs E t) := by
  intro pins s σ H Q I h
  refine wpAny_Call_Name_kw (ld_glob I hg hm ?_ hdb)
  refine PySem.W.callWith_K (h₀ := X.base) I.ok.mod.kin hk (thn (ha pos pins s σ H _ I h) fun us s1 ⟨vs, H1, I1, r, q⟩ => ⟨I1.kIn, ?_⟩) he hpl
  exact run_fn F hr hb hd hx I1 r q
theorem pe_meth {pl : Sem Bool} (he : PE X o ta) (c : Cls X.K C) (hm : Meth X.K C m f) (F : FnOk X.prog X.w X.K X.mg X.base CX k f fd ps sp) (hr : Room k X.A) (hb : Binds X.K fd ps ds) (hd : Vals dvs ds) (hx : Passes CX X E) (ha : PA X (e :: es) t)
    (hst : starEach (e :: es) X.env = (false, eval e X.env) :: starEach es X.env := by rfl) (hpl : (backTo pos (starEach es X.env)).any (·.1) = false := by rfl)
    (ht : eval (.Call (.Attribute o m apos) (e :: es) [] pos) X.env = (do
      let ov ← eval o X.env
      standAt apos.atName
      let (f, first) ← holding [ov] (getMethod ov m pl)
      callWith pos f first (backTo pos (starEach (e :: es) X.env)) (backToKw pos (keywordEach [] X.env))) := by rfl) :
    PE X (.Call (.Attribute o m apos) (e :: es) [] pos) (tMeth C m sp dvs E ta t) := by
  intro pins s σ H Q I h
  refine PySem.W.methodCall_KW (pl := pl) (thn (he pins s σ H _ I h) fun u s1 ⟨x, H1, I1, rx, a, dx, fs, ex, ea, l, q⟩ => ?_) ht
  subst ex
  obtain rfl : u = Value.ref a := rx
  refine getmeth_ok I1 ea c hm l ?_
  refine PySem.W.callWith_K (first := [.ref a]) (h₀ := X.base) I.ok.mod.kin hm.kp (thn (ha pos pins s1 σ H1 _ I1 q) fun us s2 ⟨vs, H2, I2, r, q2⟩ => ⟨I2.kIn, ?_⟩) hst hpl
  exact run_fn (us := .ref a :: us) (vs := .ref a :: vs) F hr hb hd hx I2 (.cons rfl r) q2
theorem pe_meth0 {pl : Sem Bool} (he : PE X o ta) (c : Cls X.K C) (hm : Meth X.K C m f) (F : FnOk X.prog X.w X.K X.mg X.base CX k f fd ps sp) (hr : Room k X.A) (hb : Binds X.K fd ps ds) (hd : Vals dvs ds) (hx : Passes CX X E)
    (ht : eval (.Call (.Attribute o m apos) [] [] pos) X.env = (do
      let ov ← eval o X.env
      standAt apos.atName
      let (f, first) ← holding [ov] (getMethod ov m pl)
      callWith pos f first (backTo pos (starEach [] X.env)) (backToKw pos (keywordEach [] X.env))) := by rfl) :
    PE X (.Call (.Attribute o m apos) [] [] pos) (tMeth C m sp dvs E ta tNil) := by
  intro pins s σ H Q I h
  refine PySem.W.methodCall_KW (pl := pl) (thn (he pins s σ H _ I h) fun u s1 ⟨x, H1, I1, rx, a, dx, fs, ex, ea, l, q⟩ => ?_) ht
  subst ex
  obtain rfl : u = Value.ref a := rx
  refine getmeth_ok I1 ea c hm l ?_
  exact PySem.W.callWith_K0 (first := [.ref a]) I1.kIn hm.kp (run_fn (us := [.ref a]) (vs := [.ref a]) F hr hb hd hx I1 (.cons rfl .nil) q)
structure Mk (K : PySem.W.Frag) (C f : Addr) : Prop where
  makes : PySem.W.makesIn K C = true
  init : PySem.W.findIn K (.ref C) "__init__" = some (some (.ref f))
  fn : PySem.W.isFn K (.ref f) = true
  kp : PySem.W.keepIn K (.ref C) = true
end
section
variable {X : Cx} {CX : CXT} {k : Nat} {f C : Addr} {fd : FuncData} {ps ks : List Str} {sp : Sp} {E : XK} {x m : Str} {p pos apos kpos : Pos} {e o : Expr} {es : List Expr} {kws : List Keyword} {te ta : TE} {t tk : TA} {nm : Option Str}
variable {g : List Value → List Value → List Value} {gV : List V → List V → List V}
end
structure FnScope (N P : List Str) (sc : Scope) : Prop where
  kind : sc.kind = .function
  co : sc.isCoroutine = false
  gen : sc.isGenerator = false
  nd : N.Nodup
  pre : N.take P.length = P
  par : ∀ x ∈ P, sc.names.lookup x = some .local ∨ sc.names.lookup x = some .cell
  nofree : ∀ y ∈ sc.names, y.2 ≠ .free
theorem bindL_out {kindOf : Str → Option NameKind} {x : Str} : ∀ {binds : List (Str × Value)} {m : Str → Option Value}, (∀ v, (x, v) ∉ binds) → bindL kindOf binds m x = m x
  | [], _, _ => rfl
  | (n, v) :: r, m, h => by
    unfold bindL
    rw [bindL_out fun w hw => h w (List.mem_cons_of_mem _ hw)]
    split
    · have : x ≠ n := by rintro rfl; exact h v List.mem_cons_self
      simp [this]
    · rfl
theorem bindC_out {kindOf : Str → Option NameKind} {x : Str} : ∀ {binds : List (Str × Value)} {m : Str → Option Value}, (∀ v, (x, v) ∉ binds) → bindC kindOf binds m x = m x
  | [], _, _ => rfl
  | (n, v) :: r, m, h => by
    unfold bindC
    rw [bindC_out fun w hw => h w (List.mem_cons_of_mem _ hw)]
    split
    · rfl
    · have : x ≠ n := by rintro rfl; exact h v List.mem_cons_self
      simp [this]
theorem bindL_get {kindOf : Str → Option NameKind} {x : Str} {v : Value} : ∀ {P : List Str} {vs : List Value} {i : Nat} {m : Str → Option Value}, P.Nodup → P[i]? = some x → vs[i]? = some v → kindOf x = some .local →
    bindL kindOf (P.zip vs) m x = some v
  | [], _, _, _, _, h, _, _ => by simp at h
  | _ :: _, [], _, _, _, _, h, _ => by simp at h
  | p :: P, w :: vs, 0, m, nd, h1, h2, hk => by
    simp at h1 h2; subst h1; subst h2
    show bindL kindOf ((p, w) :: P.zip vs) m p = _
    unfold bindL
    rw [bindL_out fun v hv => (List.nodup_cons.mp nd).1 (List.of_mem_zip hv).1, if_pos hk]
    simp
  | p :: P, w :: vs, i + 1, m, nd, h1, h2, hk => by
    show bindL kindOf ((p, w) :: P.zip vs) m x = _
    unfold bindL
    exact bindL_get (i := i) (List.nodup_cons.mp nd).2 (by simpa using h1) (by simpa using h2) hk
theorem bindC_get {kindOf : Str → Option NameKind} {x : Str} {v : Value} : ∀ {P : List Str} {vs : List Value} {i : Nat} {m : Str → Option Value}, P.Nodup → P[i]? = some x → vs[i]? = some v → kindOf x ≠ some .local →
    bindC kindOf (P.zip vs) m x = some v
  | [], _, _, _, _, h, _, _ => by simp at h
  | _ :: _, [], _, _, _, _, h, _ => by simp at h
  | p :: P, w :: vs, 0, m, nd, h1, h2, hk => by
    simp at h1 h2; subst h1; subst h2
    show bindC kindOf ((p, w) :: P.zip vs) m p = _
    unfold bindC
    rw [bindC_out fun v hv => (List.nodup_cons.mp nd).1 (List.of_mem_zip hv).1, if_neg hk]
    simp
  | p :: P, w :: vs, i + 1, m, nd, h1, h2, hk => by
    show bindC kindOf ((p, w) :: P.zip vs) m x = _
    unfold bindC
    exact bindC_get (i := i) (List.nodup_cons.mp nd).2 (by simpa using h1) (by simpa using h2) hk
def start (N : List Str) (vs : List V) : St := vs.map some ++ List.replicate (N.length - vs.length) none
def cxOf (CX : CXT) (P : Program) (w : World) (K : PySem.W.Frag) (mg : Str → Option Value) (base : Heap) (N : List Str) (qual : Str) (scope : Scope) (f : Addr) (cd : Value) (A : Around) (outer : List Env) (s : Shared) (H : Hp) (E : XK) : Cx where
  prog := P
  w := w
  K := K
  mg := mg
  base := base
  A := A.deeper (envOfC qual scope s.heap.objs.size f cd)
  N := N
  s₀ := s
  H₀ := H
  env := envOfC qual scope s.heap.objs.size f cd
  outer := outer
  stack := envOfC qual scope s.heap.objs.size f cd :: outer
  ex := []
  calm := true
  fn := fun _ => true
  pn := []
  xe := fun e s' => wpAny (model P w) (A.deeper (envOfC qual scope s.heap.objs.size f cd)) (leaving (envOfC qual scope s.heap.objs.size f cd) e) (fun _ s'' => CX outer H s E e s'') (fun e' s'' => CX outer H s E e' s'') s'
theorem cell_has {sc : Scope} {n : Nat} {x : Str} (h : sc.names.lookup x = some .cell) : ∃ c, (cellsFrom n sc.names []).lookup x = some c := by
  have q := PySem.W.cellsFrom_some sc.names n [] (.inl h)
  exact Option.isSome_iff_exists.mp q
theorem inv_start {CX : CXT} {P : Program} {w : World} {K : PySem.W.Frag} {mg : Str → Option Value} {base : Heap} {N ps : List Str} {qual : Str} {scope : Scope} {f : Addr} {cd : Value} {A : Around} {outer : List Env} {s s1 : Shared} {H : Hp} {E : XK} {us : List Value} {vs : List V}
    (S : FnScope N ps scope) (hd : A.handled = none) (e0 : Env0 P w K mg base A outer s H) (hl : vs.length = ps.length) (r : Vals vs us)
    (x : InCallC s s.heap.objs.size (bindL (envOfC qual scope s.heap.objs.size f cd).kindOf (ps.zip us) fun _ => none) (cellsFrom (s.heap.objs.size + 1) scope.names []) (bindC (envOfC qual scope s.heap.objs.size f cd).kindOf (ps.zip us) fun _ => none) s1) :
    Inv (cxOf CX P w K mg base N qual scope f cd A outer s H E) [] (start N vs) H s1 := by
  have hpl : ps.length ≤ N.length := by have := congrArg List.length S.pre; rw [List.length_take] at this; omega
  obtain ⟨h1, tk, rfl, hk⟩ := x.done
  have noA : ∀ b : Addr, b ∉ (cxOf CX P w K mg base N qual scope f cd A outer s H E).ex := fun b z => absurd (show b ∈ ([] : List Addr) from z) (by simp)
  refine ⟨⟨e0.mod, S.kind, rfl, rfl, Nat.le_refl _, fun y z c h1 h2 => ?_, fun y hy => ?_, fun y c _ h => ?_, fun _ => hd, Around.frames_deeper e0.frames, .inr ⟨rfl, rfl⟩, fun b z => absurd z (noA b), e0.bs, e0.bsz, fun b _ _ => noA b, fun b z => absurd z (noA b), e0.funs, e0.frf⟩,
    rfl, e0.bare, Un.kept hk, ⟨_, x.toInCall.ns, fun i y v h1 h2 h3 => ?_⟩, fun y c h => ⟨_, x.cell y c h⟩, e0.hok.fresh (Nat.le_refl _), fun y c h => ?_, fun p hp => absurd (show p ∈ ([] : List (Addr × Obj)) from hp) (by simp), e0.hok.kept hk, ?_⟩
  · exact name_of_addr x.apart (PySem.mem_of_lookup h1) (PySem.mem_of_lookup h2)
  · have hy : scope.names.lookup y = some .cell ∨ scope.names.lookup y = some .free := hy
    rcases hy with hy | hy
    · exact cell_has hy
    · exact absurd rfl (S.nofree _ (PySem.mem_of_lookup hy))
  · exact Nat.le_of_lt (x.above y c (PySem.mem_of_lookup h))
  · have hi : i < vs.length := by
      unfold start at h2
      by_cases hi : i < vs.length
      · exact hi
      · rw [List.getElem?_append_right (by simpa using hi)] at h2
        rw [List.getElem?_replicate] at h2
        split at h2 <;> cases h2
    have ha : vs[i]? = some v := by
      unfold start at h2
      rw [List.getElem?_append_left (by simpa using hi), List.getElem?_map] at h2
      cases e : vs[i]? with
      | none => rw [e] at h2; cases h2
      | some a => rw [e] at h2; cases h2; rfl
    obtain ⟨u, hu, rv⟩ := r.get ha
    have hp : ps[i]? = some y := by
      rw [← S.pre, List.getElem?_take_of_lt (by omega)]; exact h1
    have ndP : ps.Nodup := by rw [← S.pre]; exact S.nd.sublist (List.take_sublist _ _)
    refine ⟨u, rv, ?_⟩
    rcases S.par y (List.mem_of_getElem? hp) with k | k
    · exact .inl ⟨k, bindL_get ndP hp hu k⟩
    · obtain ⟨c, e⟩ := cell_has (n := s.heap.objs.size + 1) k
      refine .inr ⟨.inl k, c, e, ?_⟩
      have q := x.cell y c e
      rw [bindC_get ndP hp hu (by show scope.names.lookup y ≠ _; rw [k]; decide)] at q
      exact q
  · exact e0.hok.fresh (Nat.le_of_lt (x.above y c (PySem.mem_of_lookup h)))
  · unfold start
    show _ = N.length
    rw [List.length_append, List.length_map, List.length_replicate]
    omega
theorem fn_of {CX : CXT} {P : Program} {w : World} {K : PySem.W.Frag} {mg : Str → Option Value} {base : Heap} {k : Nat} {f : Addr} {name qual : Str} {params : Arguments} {body : List Stmt} {scope : Scope} {dV kV doc pm cdv ct oc : Value} {an od : Option Addr}
    {osl : Array (Option Value)} {N ps : List Str} {sp : Sp} (lk : K.lookup f = some ⟨oc, od, .func (PySem.W.fnOf name qual params body scope dV kV doc pm an cdv ct), osl⟩) (hcd : PySem.W.codeIn K cdv qual = true) (S : FnScope N ps scope)
    (len : ∀ vs H Q E, sp vs H Q E → vs.length = ps.length)
    (hbody : ∀ (A : Around) (outer : List Env) (s : Shared) (H : Hp) (vs : List V) (Q : VK) (E : XK), Room k (A.deeper (envOfC qual scope s.heap.objs.size f cdv)) → sp vs H Q E →
      ∃ t, PSs (cxOf CX P w K mg base N qual scope f cdv A outer s H E) body t ∧ t { nx := fun _ H' => Q .non H', rt := Q } (start N vs) H) :
    FnOk P w K mg base CX (k + 1) f (PySem.W.fnOf name qual params body scope dV kV doc pm an cdv ct) ps sp := by
  refine ⟨len, fun A outer s H args us vs Q E hr e0 hb r hsp => ?_⟩
  have hl := len _ _ _ _ hsp
  have KX : K.In s.heap := e0.mod.kin.keeps fun b o e => (e0.bs b o e).1
  have lim : s.heap.NoLimit := e0.mod.nolimit.keeps fun b o e => (e0.bs b o e).1
  have hkind : ∀ y ∈ ps.zip us, scope.names.lookup y.1 = some .local ∨ (scope.names.lookup y.1 = some .cell ∧ ((cellsFrom (s.heap.objs.size + 1) scope.names []).lookup y.1).isSome = true) := fun ⟨n, v⟩ hy => by
    rcases S.par n (List.of_mem_zip hy).1 with q | q
    · exact .inl q
    · exact .inr ⟨q, PySem.W.cellsFrom_some _ _ _ (.inl q)⟩
  refine codeAny_call_function hr.depth (KX _ _ lk) rfl S.co S.gen rfl (PySem.W.codeRec_of KX hcd) (hb _ _ _ _ ?_)
  refine wpAny_newFunctionEnv_cells S.kind hkind fun env he s1 x => ?_
  subst he
  refine ⟨lim.keeps x.toInCall.keep, codeAny_func ?_⟩
  obtain ⟨t, ht, hq⟩ := hbody A outer s H vs Q E (hr.deeper _) hsp
  have I : Inv (cxOf CX P w K mg base N qual scope f cdv A outer s H E) [] (start N vs) H s1 := inv_start S hr.hd e0 hl r x
  refine wpAny_mono (ht [] s1 (start N vs) H _ I hq) (fun fl s' hs => ?_) fun e s' hs => hs
  have fin : ∀ {σ' : St} {H' : Hp} {v : V} {u : Value}, Inv (cxOf CX P w K mg base N qual scope f cdv A outer s H E) [] σ' H' s' → RelV v u → Q v H' → CE outer P w H s Q u s' :=
    fun {σ' H' v u} J rv q => ⟨v, H', J.os, J.bare, J.base, J.hok, rv, q⟩
  cases fl with
  | ret u =>
    obtain ⟨v, σ', H', J, rv, q⟩ := hs
    exact fin J rv q
  | next =>
    obtain ⟨σ', H', J, q⟩ := hs
    exact fin (v := V.non) (u := Value.none) J rfl q
  | brk =>
    obtain ⟨_, _, _, q⟩ := hs
    exact False.elim q
  | cont =>
    obtain ⟨_, _, _, q⟩ := hs
    exact False.elim q
end L2
namespace L2
open PySem PySem.Spec PyProof.Rows
section
variable {X : Cx} {x : Str} {p pos : Pos} {e : Expr} {es : List Expr} {t : TA} {id T : String} {r : List V → Hp → VK → Prop}
def tCB (r : List V → Hp → VK → Prop) (t : TA) : TE := fun σ H Q => t σ H fun vs H1 => r vs H1 Q
theorem pe_callB (hc : CallR X (.builtin id) r) (hg : Gl X x) (hm : X.mg x = none) (hv : bootBuiltins x = some (.builtin id)) (ha : PA X (e :: es) t) (hn : x ≠ "__name__" := by decide) (hdb : (x == ("__debug__" : Str)) = false := by decide)
    (he : starEach (e :: es) X.env = (false, eval e X.env) :: starEach es X.env := by rfl) (hpl : (backTo pos (starEach es X.env)).any (·.1) = false := by rfl) : PE X (.Call (.Name x p) (e :: es) [] pos) (tCB r t) := by
  intro pins s σ H Q I h
  refine wpAny_Call_Name_kw (ld_blt I hg hm hv ?_ hn hdb)
  exact PyProof.Rows.callWith_builtin1 (thn (ha pos pins s σ H _ I h) fun us s1 ⟨vs, H1, I1, r1, q1⟩ => hc pins s1 σ H1 vs us Q I1 r1 q1) he hpl
end
end L2
namespace HT
open PySem PyProof.Rows
section
open PySem.SeqAt
open PySem.AutoSeq1 (wpAny_loadPart')
open PySem.MeetsSeq PySem.MeetsSeq2 PySem.MeetsSeq3
end
section
variable {prog : Program} {w : World} {A : Around} {E : Value → Shared → Prop} {s : Shared}
theorem cat_tup {t b : Addr} {vs ws : List Value} {Q : Value → Shared → Prop} (ht : IsTup s.heap t vs.toArray) (hb : IsTup s.heap b ws.toArray) (hv : vs ≠ [])
    (h1 : ws = [] → Q (.ref t) s) (h2 : ws ≠ [] → Q (.ref s.heap.objs.size) { s with heap := s.heap.push { cls := .type "tuple", data := .seq (vs ++ ws).toArray } })
    (hsz : vs.length + ws.length ≤ sizeLine) : wpAny (model prog w) A (binaryOp .Add (.ref t) (.ref b)) Q E s := by
  obtain ⟨⟨cls, dd, data, sl⟩, ho, hc, n, hd⟩ := id ht
  obtain ⟨⟨cls2, dd2, data2, sl2⟩, ho2, hc2, n2, hd2⟩ := id hb
  simp only at hc hd hc2 hd2
  subst hc hd hc2 hd2
  have e : vs.toArray ++ ws.toArray = (vs ++ ws).toArray := by simp
  by_cases hw : ws = []
  · exact concat_meets ⟨_, ho, rfl⟩ ⟨_, ho2, rfl⟩ noFill_tuple_add seq_tuple_add PySem.F.slot_tuple_add PySem.F.entry_tuple_add (PySem.F.args_tuple_add_2 _ _)
      (tuple_addW1 t b vs.toArray ws.toArray n n2 dd dd2 sl sl2 (by simpa using hv) (by simp [hw])) ⟨ho, ho2, h1 hw⟩
  · refine concat_meets ⟨_, ho, rfl⟩ ⟨_, ho2, rfl⟩ noFill_tuple_add seq_tuple_add PySem.F.slot_tuple_add PySem.F.entry_tuple_add (PySem.F.args_tuple_add_2 _ _)
      (tuple_addW2 t b vs.toArray ws.toArray n n2 dd dd2 sl sl2 (by simpa using hv) (by simpa using hw) (by rw [List.size_toArray, List.size_toArray]; exact hsz)) ⟨ho, ho2, ?_⟩
    rw [e]
    exact h2 hw
def sIx (n d : Nat) : Option Int → Nat
  | none => d
  | some v => if v < 0 then (v + (n : Int)).toNat else min v.toNat n
theorem sIx_nat (n d k : Nat) : sIx n d (some (k : Int)) = min k n := by
  show (if (k : Int) < 0 then ((k : Int) + (n : Int)).toNat else min (k : Int).toNat n) = min k n
  rw [if_neg (by omega), Int.toNat_natCast]
theorem sIx_le (n d : Nat) (hd : d ≤ n) (o : Option Int) : sIx n d o ≤ n := by
  cases o with
  | none => exact hd
  | some v =>
    show (if v < 0 then (v + (n : Int)).toNat else min v.toNat n) ≤ n
    by_cases hv : v < 0
    · rw [if_pos hv]; omega
    · rw [if_neg hv]; exact Nat.min_le_right _ _
theorem clip_eq (v : Int) (n d : Nat) : (if v < 0 then max (v + (n : Int)) 0 else min v (n : Int)) = ((sIx n d (some v) : Nat) : Int) := by
  show (if v < 0 then max (v + (n : Int)) 0 else min v (n : Int)) = (((if v < 0 then (v + (n : Int)).toNat else min v.toNat n) : Nat) : Int)
  by_cases hv : v < 0
  · simp only [if_pos hv]; omega
  · simp only [if_neg hv]; omega
theorem adjust_gen (lo hi : Option Int) (n : Nat) : Builtin.Slice.sliceAdjust lo hi 1 (n : Int) = (((sIx n 0 lo : Nat) : Int), ((sIx n n hi : Nat) : Int)) := by
  have h1 : ¬ ((1 : Int) < 0) := by omega
  unfold Builtin.Slice.sliceAdjust
  simp only [h1, if_false]
  refine Prod.ext ?_ ?_
  · cases lo with
    | none => rfl
    | some v => exact clip_eq v n 0
  · cases hi with
    | none => rfl
    | some v => exact clip_eq v n n
theorem places_gen (i j : Nat) : Builtin.Slice.slicePlaces (i : Int) (j : Int) 1 = j - i := by
  unfold Builtin.Slice.slicePlaces
  have h1 : (1 : Int) > 0 := by omega
  simp only [h1, if_true, Int.ediv_one]
  split <;> omega
theorem slicePart_ {v : Value} {o : Option Int} {Q : Option Int → Shared → Prop} (p : IsPart v o) (h : Q o s) : wpAny (model prog w) A (Builtin.Slice.slicePartIndex v) Q E s := by
  cases p with
  | none => exact slicePart_none h
  | int i t => exact slicePart_int h
theorem sliceApplied_gen {sl : Addr} {vl vu : Value} {lo hi : Option Int} {n : Nat} {Q : Int × Int × Nat → Shared → Prop} (hs : s.heap.IsSliceOf sl vl vu .none) (pl : IsPart vl lo) (pu : IsPart vu hi)
    (h : Q (((sIx n 0 lo : Nat) : Int), 1, sIx n n hi - sIx n 0 lo) s) : wpAny (model prog w) A (Builtin.Slice.sliceApplied (.ref sl) (pure (n : Int))) Q E s := by
  obtain ⟨os, hos, hcs, hds⟩ := id hs
  unfold Builtin.Slice.sliceApplied Builtin.Slice.sliceFields
  refine wpAny_bind (wpAny_bind (wpAny_field hos hds (x := vl) rfl (wpAny_bind (wpAny_field hos hds (x := vu) rfl (wpAny_bind (wpAny_field hos hds (x := .none) rfl (wpAny_pure ?_)))))))
  refine wpAny_bind (slicePart_none ?_)
  show wpAny _ _ (if ((1 : Int) == 0) = true then _ else _) _ _ s
  rw [if_neg (by decide)]
  refine wpAny_bind (slicePart_ pl (wpAny_bind (slicePart_ pu (wpAny_bind (wpAny_pure ?_)))))
  show wpAny _ _ (match Builtin.Slice.sliceAdjust lo hi 1 (n : Int) with | (lo, hi) => pure (lo, (1 : Int), Builtin.Slice.slicePlaces lo hi 1)) _ _ s
  rw [adjust_gen lo hi n]
  show wpAny _ _ (pure (((sIx n 0 lo : Nat) : Int), (1 : Int), Builtin.Slice.slicePlaces ((sIx n 0 lo : Nat) : Int) ((sIx n n hi : Nat) : Int) 1)) _ _ s
  rw [places_gen]
  exact wpAny_pure h
theorem pick_gen (xs : Array Value) (i k : Nat) : ((List.range k).filterMap fun (m : Nat) => xs[((i : Int) + (m : Int) * 1).toNat]?).toArray = ((xs.toList.drop i).take k).toArray := by
  have e : (fun (m : Nat) => xs[((i : Int) + (m : Int) * 1).toNat]?) = fun m => xs[i + m]? := by
    funext m
    have : ((i : Int) + (m : Int) * 1).toNat = i + m := by omega
    rw [this]
  rw [e]
  have := pick_run xs i k
  rw [List.filterMap_map] at this
  have e2 : ((fun x => xs[x]?) ∘ fun x => i + x) = fun m => xs[i + m]? := rfl
  rw [e2] at this
  rw [this]
theorem getItem_tuple_cut {t sl : Addr} {items : Array Value} {vl vu : Value} {lo hi : Option Int} {Q : Value → Shared → Prop} (ht : IsTup s.heap t items) (hs : s.heap.IsSliceOf sl vl vu .none) (pl : IsPart vl lo) (pu : IsPart vu hi)
    (hw : ¬ (sIx items.size 0 lo = 0 ∧ sIx items.size items.size hi = items.size))
    (h : Q (.ref s.heap.objs.size) { s with heap := s.heap.push { cls := .type "tuple", data := .seq ((items.toList.drop (sIx items.size 0 lo)).take (sIx items.size items.size hi - sIx items.size 0 lo)).toArray } })
    (hsz : items.size ≤ sizeLine) : wpAny (model prog w) A (getItem (.ref t) (.ref sl)) Q E s := by
  have htake : sizeOk (.seq ((items.toList.drop (sIx items.size 0 lo)).take (sIx items.size items.size hi - sIx items.size 0 lo)).toArray) := by
    show ((items.toList.drop (sIx items.size 0 lo)).take (sIx items.size items.size hi - sIx items.size 0 lo)).toArray.size ≤ sizeLine
    rw [List.size_toArray, List.length_take, List.length_drop, Array.length_toList]
    omega
  have hj : sIx items.size items.size hi ≤ items.size := sIx_le _ _ (Nat.le_refl _) hi
  obtain ⟨os, hos, hcs, hds⟩ := id hs
  have hTs : s.TypeIs (.ref sl) "slice" := ⟨os, hos, hcs⟩
  unfold getItem
  try with_reducible refine wpAny_holding ?_
  first | refine wpAny_bind (wpAny_pure ?_) | skip
  refine wpAny_bind (wpAny_sequenceKey ht.typeIs (by decide) ?_)
  refine wpAny_bind (wpAny_callSpecial?_slot (name := Str.ofString "__getitem__") ht.typeIs PyProof.Rows.slot_tuple_getitem
    (wpAny_call_entry PyProof.Rows.slot_tuple_getitem ht.typeIs entry_tuple_getitem ?_ (args_tuple_getitem _ _)))
  show wpAny _ _ (Builtin.Tuple.tupleItemsOf (.ref t) >>= _) _ _ s
  refine wpAny_bind (tupleItemsOf_ ht ?_)
  refine wpAny_bind (wpAny_typeOf hTs ?_)
  rw [if_pos (by decide)]
  refine wpAny_bind (sliceApplied_gen hs pl pu ?_)
  have hno : ¬ ((((sIx items.size 0 lo : Nat) : Int) == 0 && (1 : Int) == 1 && (sIx items.size items.size hi - sIx items.size 0 lo) == items.size) = true) := by
    intro q
    rw [Bool.and_eq_true, Bool.and_eq_true] at q
    have q1 : ((sIx items.size 0 lo : Nat) : Int) = 0 := eq_of_beq q.1.1
    have q2 : sIx items.size items.size hi - sIx items.size 0 lo = items.size := eq_of_beq q.2
    exact hw ⟨by omega, by omega⟩
  show wpAny _ _ (if (((sIx items.size 0 lo : Nat) : Int) == 0 && (1 : Int) == 1 && (sIx items.size items.size hi - sIx items.size 0 lo) == items.size) = true then _ else _) _ _ s
  rw [if_neg hno, pick_gen]
  first
    | exact wpAny_bind (m := Builtin.Tuple.tupleExact _) (wpAny_newObj_type (wpAny_pure ⟨_, rfl, wpAny_pure h⟩) htake)
    | exact wpAny_bind (m := Builtin.Tuple.tupleExact _) (wpAny_newObj_type (wpAny_bind (wpAny_pure (wpAny_pure ⟨_, rfl, wpAny_pure h⟩))) htake)
    | exact wpAny_bind (wpAny_bind (m := Builtin.Tuple.tupleExact _) (wpAny_newObj_type (wpAny_pure (wpAny_pure ⟨_, rfl, wpAny_pure h⟩)) htake))
    | exact wpAny_bind (wpAny_bind (m := Builtin.Tuple.tupleExact _) (wpAny_newObj_type (wpAny_pure ⟨_, rfl, wpAny_pure h⟩) htake))
end
end HT
namespace L2
open PySem PySem.Spec PyProof.Rows
abbrev TO := St → Hp → (Option Int → Hp → Prop) → Prop
def PO (X : Cx) (e : Option Expr) (t : TO) : Prop :=
  ∀ (pins : List (Addr × Obj)) (s : Shared) (σ : St) (H : Hp) (Q : Option Int → Hp → Prop), Inv X pins σ H s → t σ H Q →
    wpAny (model X.prog X.w) X.A (evalPart e X.env) (fun u s' => ∃ o H', Inv X pins σ H' s' ∧ IsPart u o ∧ Q o H') X.xe s
def tNoPart : TO := fun _ H Q => Q none H
def tPart (t : TE) : TO := fun σ H Q => t σ H fun x H1 => ∃ i, x = .int i ∧ Q (some i) H1
section
variable {X : Cx} {e : Expr} {te : TE} {lo hi : Option Expr} {tl th : TO} {pos p2 : Pos}
theorem po_none : PO X none tNoPart := by
  intro pins s σ H Q I h
  rw [evalPart_none]
  exact wpAny_pure ⟨none, H, I, .none, h⟩
theorem po_some (h : PE X e te) : PO X (some e) (tPart te) := by
  intro pins s σ H Q I hw
  rw [evalPart_some]
  refine thn (h pins s σ H _ I hw) fun u s1 ⟨x, H1, I1, r1, q1⟩ => ?_
  obtain ⟨i, rfl, q⟩ := q1
  obtain ⟨t, rfl⟩ := r1
  exact ⟨some i, H1, I1, .int i t, q⟩
def SlR (X : Cx) (r : V → Option Int → Option Int → Hp → VK → Prop) : Prop :=
  ∀ (pins : List (Addr × Obj)) (s : Shared) (σ : St) (H : Hp) (x : V) (v vl vu : Value) (lo hi : Option Int) (sl : Addr) (Q : VK), Inv X pins σ H s → RelV x v → s.heap.IsSliceOf sl vl vu .none → IsPart vl lo → IsPart vu hi → r x lo hi H Q →
    ∃ T id, typeLookup (.type T) "__getitem__" = pure (some (.builtin id)) ∧ s.TypeIs v T ∧ wpAny (model X.prog X.w) X.A (getItem v (.ref sl)) (EP X pins σ Q) X.xe s
def tSl (r : V → Option Int → Option Int → Hp → VK → Prop) (te : TE) (tl th : TO) : TE := fun σ H Q => te σ H fun x H1 => tl σ H1 fun l H2 => th σ H2 fun u H3 => r x l u H3 Q
theorem pe_slice {r : V → Option Int → Option Int → Hp → VK → Prop} (hr : SlR X r) (he : PE X e te) (hl : PO X lo tl) (hu : PO X hi th) : PE X (.Subscript e (.Slice lo hi none p2) pos) (tSl r te tl th) := by
  intro pins s σ H Q I h
  refine Subscript_ (thn (he pins s σ H _ I h) fun v s1 ⟨x, H1, I1, r1, q1⟩ => ?_)
  refine wpAny_Slice (thn (hl pins s1 σ H1 _ I1 q1) fun vl s2 ⟨l, H2, I2, pl, q2⟩ => thn (hu pins s2 σ H2 _ I2 q2) fun vu s3 ⟨u, H3, I3, pu, q3⟩ => ?_)
  rw [evalPart_none]
  refine wpAny_pure ?_
  have I4 : Inv X pins σ H3 { s3 with heap := s3.heap.push { cls := .type "slice", data := .fields #[vl, vu, .none] } } := I3.kept (t' := s3.toks) fun b ob q => Heap.get?_push_of_some _ q
  obtain ⟨T, id, hT, ht, hg⟩ := hr pins { s3 with heap := s3.heap.push { cls := .type "slice", data := .fields #[vl, vu, .none] } } σ H3 x v vl vu l u s3.heap.objs.size Q I4 r1 (Heap.IsSliceOf.new ..) pl pu q3
  show wpAny (model X.prog X.w) X.A (subscriptTail e (.Slice lo hi none p2) v (.ref s3.heap.objs.size)) (EP X pins σ Q) X.xe { s3 with heap := s3.heap.push { cls := .type "slice", data := .fields #[vl, vu, .none] } }
  exact tail_any (ops := [.ref s3.heap.objs.size, v]) ht hT hg (by with_unfolding_all rfl)
def cutV (xs : List V) (lo hi : Option Int) : List V := (xs.drop (HT.sIx xs.length 0 lo)).take (HT.sIx xs.length xs.length hi - HT.sIx xs.length 0 lo)
theorem cutV_length (xs : List V) (lo hi : Option Int) : (cutV xs lo hi).length ≤ xs.length := by
  unfold cutV
  rw [List.length_take, List.length_drop]
  omega
def rSlT (K : PySem.W.Frag) : V → Option Int → Option Int → Hp → VK → Prop := fun x lo hi H Q => ∃ a xs, x = .ref a ∧ SqT K H a xs ∧
  ¬ (HT.sIx xs.length 0 lo = 0 ∧ HT.sIx xs.length xs.length hi = xs.length) ∧ ∀ p, H p = none → Q (.ref p) (upd H p (.tup (cutV xs lo hi)))
theorem sl_tup : SlR X (rSlT X.K) := by
  intro pins s σ H x v vl vu lo hi sl Q I rx hs pl pu h
  obtain ⟨a, xs, rfl, hx, hw, q⟩ := h
  cases rx
  obtain ⟨its, r, ht, hz⟩ := I.tuple hx
  have hlen : its.toArray.size = xs.length := by rw [List.size_toArray]; exact r.length.symm
  refine ⟨"tuple", _, PyProof.Rows.slot_tuple_getitem.lookup, ht.typeIs, ?_⟩
  refine HT.getItem_tuple_cut ht hs pl pu (by rw [hlen]; exact hw) ?_ (by rw [hlen]; exact hz)
  rw [hlen]
  refine ⟨.ref s.heap.objs.size, _, I.laid (t' := s.toks) (o := .tup (cutV xs lo hi)) (fun b ob q => Heap.get?_push_of_some _ q) (Nat.le_refl _) ?_, rfl, q _ (I.hok.fresh (Nat.le_refl _))⟩
  exact ⟨Nat.le_trans (cutV_length xs lo hi) hz, _, (r.drop (HT.sIx xs.length 0 lo)).take (HT.sIx xs.length xs.length hi - HT.sIx xs.length 0 lo), IsTup.new _ _⟩
def rCatT (K : PySem.W.Frag) : R2 := fun x y H Q => ∃ a b xs ys, x = .ref a ∧ y = .ref b ∧ SqT K H a xs ∧ SqT K H b ys ∧ xs ≠ [] ∧ xs.length + ys.length ≤ sizeLine ∧
  (ys = [] → Q (.ref a) H) ∧ (ys ≠ [] → ∀ p, H p = none → Q (.ref p) (upd H p (.tup (xs ++ ys))))
theorem Vals.nil_iff {xs : List V} {us : List Value} (r : Vals xs us) : us = [] ↔ xs = [] := by
  cases r with
  | nil => simp
  | cons _ _ => simp
theorem op_catT : OpR X (binaryOp .Add) (rCatT X.K) := by
  intro pins s σ H x y v u Q I rx ry h
  obtain ⟨a, b, xs, ys, rfl, rfl, ha, hb, hx, hz, q1, q2⟩ := h
  cases rx
  cases ry
  obtain ⟨its, r1, p1, _⟩ := I.tuple ha
  obtain ⟨its2, r2, p2, _⟩ := I.tuple hb
  refine HT.cat_tup p1 p2 (fun z => hx (r1.nil_iff.mp z)) (fun z => ⟨.ref a, H, I, rfl, q1 (r2.nil_iff.mp z)⟩) (fun z => ?_) (by rw [← r1.length, ← r2.length]; exact hz)
  refine ⟨.ref s.heap.objs.size, _, I.laid (t' := s.toks) (o := .tup (xs ++ ys)) (fun b ob q => Heap.get?_push_of_some _ q) (Nat.le_refl _) ?_, rfl, q2 (fun w => z (r2.nil_iff.mpr w)) _ (I.hok.fresh (Nat.le_refl _))⟩
  exact ⟨by rw [List.length_append]; exact hz, _, r1.append r2, IsTup.new _ _⟩
end
end L2
namespace L2
open PySem PySem.Spec PyProof.Rows
def ixN (n : Nat) (i : Int) : Option Nat := if 0 ≤ i then (if i < n then some i.toNat else none) else if -(n : Int) ≤ i then some (i + n).toNat else none
def atI {α : Type} (xs : List α) (i : Int) : Option α := (ixN xs.length i).bind fun j => xs[j]?
theorem ixN_seq {n : Nat} {i : Int} {j : Nat} (h : ixN n i = some j) : seqIndex? i n = some j ∧ j < n ∧ -(n : Int) ≤ i ∧ i < n := by
  unfold ixN at h
  by_cases h0 : 0 ≤ i
  · rw [if_pos h0] at h
    by_cases h1 : i < n
    · rw [if_pos h1] at h
      have e : i.toNat = j := Option.some.inj h
      exact ⟨by rw [seqIndex_of h0 h1, e], by omega, by omega, h1⟩
    · rw [if_neg h1] at h; cases h
  · rw [if_neg h0] at h
    by_cases h1 : -(n : Int) ≤ i
    · rw [if_pos h1] at h
      have e : (i + n).toNat = j := Option.some.inj h
      exact ⟨by rw [seqIndex_neg (by omega) h1, e], by omega, h1, by omega⟩
    · rw [if_neg h1] at h; cases h
theorem atI_get {α : Type} {xs : List α} {i : Int} {v : α} (h : atI xs i = some v) : ∃ j, seqIndex? i xs.length = some j ∧ xs[j]? = some v ∧ j < xs.length ∧ -(xs.length : Int) ≤ i ∧ i < xs.length := by
  unfold atI at h
  cases e : ixN xs.length i with
  | none => rw [e] at h; cases h
  | some j =>
    rw [e] at h
    obtain ⟨h1, h2, h3, h4⟩ := ixN_seq e
    exact ⟨j, h1, h, h2, h3, h4⟩
theorem atI_nat {α : Type} {xs : List α} {j : Nat} {v : α} (h : xs[j]? = some v) : atI xs (j : Int) = some v := by
  have hj : j < xs.length := (List.getElem?_eq_some_iff.mp h).1
  have e : ixN xs.length (j : Int) = some j := by
    unfold ixN
    rw [if_pos (by omega), if_pos (by omega)]; simp
  unfold atI; rw [e]; exact h
def PlainIx (b : Expr) : Prop := ∀ o i, subscripted b false o i = operate [o, i] (getItem o i)
def IxR (X : Cx) (r : R2) : Prop :=
  ∀ (value slice : Expr) (pins : List (Addr × Obj)) (s : Shared) (σ : St) (H : Hp) (x y : V) (v u : Value) (Q : VK), Inv X pins σ H s → RelV x v → RelV y u → r x y H Q →
    subscripted slice false v u = operate [v, u] (getItem v u) → wpAny (model X.prog X.w) X.A (subscriptTail value slice v u) (EP X pins σ Q) X.xe s
def MtR (X : Cx) (id : String) (r : V → List V → Hp → VK → Prop) : Prop :=
  ∀ (pins : List (Addr × Obj)) (s : Shared) (σ : St) (H : Hp) (x : V) (xs : List V) (v : Value) (us : List Value) (Q : VK), Inv X pins σ H s → RelV x v → Vals xs us → r x xs H Q →
    wpAny (model X.prog X.w) X.A (call (.builtin id) (v :: us)) (EP X pins σ Q) X.xe s
section
variable {X : Cx} {a b : Expr} {ta tb : TE} {pos : Pos}
theorem pe_ix {r : R2} (hr : IxR X r) (ha : PE X a ta) (hb : PE X b tb) (hs : PlainIx b) : PE X (.Subscript a b pos) (tOp r ta tb) := by
  intro pins s σ H Q I h
  exact Subscript_ (binT ha hb I h fun v u s2 x y H2 I2 rx ry q => hr a b pins s2 σ H2 x y v u Q I2 rx ry q (hs _ _))
def rIxL (K : PySem.W.Frag) : R2 := fun x y H Q => ∃ p xs i v, x = .ref p ∧ y = .int i ∧ SqL K H p xs ∧ atI xs i = some v ∧ Q v H
def rIxT (K : PySem.W.Frag) : R2 := fun x y H Q => ∃ p xs i v, x = .ref p ∧ y = .int i ∧ SqT K H p xs ∧ atI xs i = some v ∧ Q v H
theorem ix_list : IxR X (rIxL X.K) := by
  intro value slice pins s σ H x y v u Q I rx ry h hs
  obtain ⟨p, xs, i, z, rfl, rfl, hq, he, q⟩ := h
  cases rx
  obtain ⟨t, rfl⟩ := ry
  obtain ⟨its, r, pl, hz⟩ := I.list hq
  obtain ⟨j, h1, h2, h3, h4, h5⟩ := atI_get he
  obtain ⟨w, ew, rw'⟩ := r.get h2
  have hl := r.length
  have hn := line63
  have fin : EP X pins σ Q w s := ⟨z, H, I, rw', q⟩
  by_cases h0 : 0 ≤ i
  · have hj : i.toNat = j := by
      rw [seqIndex_of h0 h5] at h1
      exact Option.some.inj h1
    exact item_listR pl.isList h0 (by omega) (by rw [hj]; simpa using ew) fin hs
  · have hj : (i + (its.toArray.size : Int)).toNat = j := by
      rw [seqIndex_neg (by omega) h4] at h1
      rw [List.size_toArray, ← hl]
      exact Option.some.inj h1
    exact subscriptTail_builtinR (x := w) pl.isList.typeIs slot_list_getitem.lookup
      (wpAny_getItem_list_neg (Q := fun r s' => r = w ∧ EP X pins σ Q r s') pl.isList (by omega) (by rw [List.size_toArray] <;> omega) (by omega) (by rw [hj]; simpa using ew) ⟨rfl, fin⟩) hs
theorem ix_tup : IxR X (rIxT X.K) := by
  intro value slice pins s σ H x y v u Q I rx ry h hs
  obtain ⟨p, xs, i, z, rfl, rfl, hq, he, q⟩ := h
  cases rx
  obtain ⟨t, rfl⟩ := ry
  obtain ⟨its, r, pl, hz⟩ := I.tuple hq
  obtain ⟨j, h1, h2, h3, h4, h5⟩ := atI_get he
  obtain ⟨w, ew, rw'⟩ := r.get h2
  have hl := r.length
  have hn := line63
  have fin : EP X pins σ Q w s := ⟨z, H, I, rw', q⟩
  exact subscriptTail_builtinR (x := w) pl.typeIs slot_tuple_getitem.lookup
    (getItem_tuple (j := j) (Q := fun r s' => r = w ∧ EP X pins σ Q r s') pl (by omega) (by omega) (by rw [List.size_toArray, ← hl]; exact h1) (by simpa using ew) ⟨rfl, fin⟩) hs
theorem mapSeq_set (its : List Value) (n j : Nat) (u : Value) : Obj.mapSeq (·.setIfInBounds j u) { cls := .type "list", data := .seq its.toArray n } = { cls := .type "list", data := .seq (its.set j u).toArray n } := by
  simp [Obj.mapSeq]
theorem Inv.lst {pins : List (Addr × Obj)} {σ : St} {H : Hp} {s : Shared} {p : Addr} {xs : List V} (I : Inv X pins σ H s) (h : H p = some (.lst xs)) :
    ∃ (its : List Value) (n : Nat), Vals xs its ∧ s.heap.get? p = some { cls := .type "list", data := .seq its.toArray n } ∧ xs.length ≤ sizeLine := by
  obtain ⟨z, its, n, r, e⟩ := I.hok p _ h
  exact ⟨its, n, r, e, z⟩
theorem Inv.lstUpd {pins : List (Addr × Obj)} {σ : St} {H : Hp} {s : Shared} {p : Addr} {xs ys : List V} {its its' : List Value} {n n' : Nat} {f : Obj → Obj} (I : Inv X pins σ H s) (h : H p = some (.lst xs))
    (ho : s.heap.get? p = some { cls := .type "list", data := .seq its.toArray n }) (hf : f { cls := .type "list", data := .seq its.toArray n } = { cls := .type "list", data := .seq its'.toArray n' }) (r : Vals ys its') (hz : ys.length ≤ sizeLine) (t : Nat) :
    Inv X pins σ (upd H p (.lst ys)) { s with heap := s.heap.update p f, toks := t } := by
  have e : (s.heap.update p f).get? p = some { cls := .type "list", data := .seq its'.toArray n' } := by
    rw [Heap.get?_update_self f ho (by rw [hf] <;> rfl), hf]
  refine I.write (x := p) (e := p) (by rw [h]; trivial) (.inl rfl) (fun b u hb q => (Heap.get?_update_other _ _ (Ne.symm hb)).trans q) ⟨_, e⟩ ?_
  exact ⟨hz, its', n', r, e⟩
def rSetL : V → V → V → Hp → (Hp → Prop) → Prop := fun o i v H Q => ∃ p xs k j, o = .ref p ∧ i = .int k ∧ H p = some (.lst xs) ∧ ixN xs.length k = some j ∧ Q (upd H p (.lst (xs.set j v)))
theorem set_list : PSet X rSetL := by
  intro pins s σ H o i v ov iv u Q I ro ri rv h
  obtain ⟨p, xs, k, j, rfl, rfl, hp, hj, q⟩ := h
  cases ro
  obtain ⟨t, rfl⟩ := ri
  obtain ⟨its, n, r, ho, hz⟩ := I.lst hp
  obtain ⟨h1, h2, h3, h4⟩ := ixN_seq hj
  have hl := r.length
  have hn := line63
  have I' : Inv X pins σ (upd H p (.lst (xs.set j v))) { s with heap := s.heap.update p (Obj.mapSeq (·.setIfInBounds j u)) } :=
    I.lstUpd hp ho (mapSeq_set its n j u) (r.set rv j) (by rw [List.length_set]; exact hz) s.toks
  by_cases h0 : 0 ≤ k
  · have hk : k.toNat = j := by
      rw [seqIndex_of h0 h4] at h1
      exact Option.some.inj h1
    exact PySem.W.ki_setAt ho h0 (by omega) (by rw [List.size_toArray, ← hl]; exact h4) (by rw [hk]; exact ⟨_, I', q⟩)
  · have hk : (k + (its.toArray.size : Int)).toNat = j := by
      rw [seqIndex_neg (by omega) h3] at h1
      rw [List.size_toArray, ← hl]
      exact Option.some.inj h1
    exact PySem.W.ki_setBack ho (by omega) (by rw [List.size_toArray, ← hl]; exact h3) (by omega) (by rw [hk]; exact ⟨_, I', q⟩)
theorem slice_bounds (lo hi : Option Int) (n : Nat) : (sliceBounds lo hi none n).1 = ((HT.sIx n 0 lo : Nat) : Int) ∧ (sliceBounds lo hi none n).2.1 = ((HT.sIx n n hi : Nat) : Int) ∧ (sliceBounds lo hi none n).2.2 = 1 := by
  refine ⟨?_, ?_, rfl⟩
  · cases lo with
    | none => simp [sliceBounds, HT.sIx]
    | some i =>
      simp only [sliceBounds, HT.sIx, Option.getD_none, show (1 : Int) > 0 by decide, if_true]
      by_cases h : i < 0
      · simp only [h, if_true] <;> omega
      · simp only [h, if_false] <;> omega
  · cases hi with
    | none => simp [sliceBounds, HT.sIx]
    | some i =>
      simp only [sliceBounds, HT.sIx, Option.getD_none, show (1 : Int) > 0 by decide, if_true]
      by_cases h : i < 0
      · simp only [h, if_true] <;> omega
      · simp only [h, if_false] <;> omega
theorem slicePick_cut (its : List Value) (lo hi : Option Int) : slicePick its.toArray lo hi none = ((its.drop (HT.sIx its.length 0 lo)).take (HT.sIx its.length its.length hi - HT.sIx its.length 0 lo)).toArray := by
  obtain ⟨h1, h2, h3⟩ := slice_bounds lo hi its.toArray.size
  unfold slicePick
  rw [h1, h2, h3]
  simp only [sliceRange_one, pick_run, List.size_toArray] <;> rfl
def rSlL (K : PySem.W.Frag) : V → Option Int → Option Int → Hp → VK → Prop := fun x lo hi H Q => ∃ a xs, x = .ref a ∧ SqL K H a xs ∧ ∀ p, H p = none → Q (.ref p) (upd H p (.lst (cutV xs lo hi)))
theorem sl_list : SlR X (rSlL X.K) := by
  intro pins s σ H x v vl vu lo hi sl Q I rx hs pl pu h
  obtain ⟨a, xs, rfl, hx, q⟩ := h
  cases rx
  obtain ⟨its, r, ht, hz⟩ := I.list hx
  have hlen := r.length
  refine ⟨"list", _, slot_list_getitem.lookup, ht.isList.typeIs, ?_⟩
  refine wpAny_getItem_list_slice ht.isList hs pl pu .none (by simp) ?_ (by rw [List.size_toArray] <;> omega)
  rw [slicePick_cut, ← hlen]
  refine ⟨.ref s.heap.objs.size, _, I.laid (t' := s.toks) (o := .lst (cutV xs lo hi)) (fun b ob q => Heap.get?_push_of_some _ q) (Nat.le_refl _) ?_, rfl, q _ (I.hok.fresh (Nat.le_refl _))⟩
  exact ⟨Nat.le_trans (cutV_length xs lo hi) hz, _, 0, (r.drop (HT.sIx xs.length 0 lo)).take (HT.sIx xs.length xs.length hi - HT.sIx xs.length 0 lo), Heap.get?_push_size _ rfl⟩
theorem call_len_seq : CallR X (.builtin "len") (fun xs H Q => ∃ p ys, xs = [.ref p] ∧ (SqL X.K H p ys ∨ SqT X.K H p ys) ∧ Q (.int ys.length) H) := by
  intro pins s σ H xs us Q I r h
  obtain ⟨p, ys, rfl, hq, q⟩ := h
  obtain ⟨u, rfl, rx⟩ := vals1 r
  cases rx
  have hn := line63
  rcases hq with hq | hq
  · obtain ⟨its, r', pl, hz⟩ := I.list hq
    have hlen := r'.length
    exact Calls.call_len_list pl.isList (by simp only [List.size_toArray] <;> omega) ⟨.int ys.length, H, I.tok _, ⟨s.toks + 1, by rw [List.size_toArray, hlen]⟩, q⟩
  · obtain ⟨its, r', pl, hz⟩ := I.tuple hq
    have hlen := r'.length
    exact len_tuple pl (by simp only [List.size_toArray] <;> omega) ⟨.int ys.length, H, I.tok _, ⟨s.toks + 1, by rw [List.size_toArray, hlen]⟩, q⟩
def tyV (K : PySem.W.Frag) (T : String) (x : V) (H : Hp) : Prop := match x with
  | .str _ => T = "str"
  | .int _ => T = "int"
  | .ref p => (T = "list" ∧ ∃ xs, SqL K H p xs) ∨ (T = "tuple" ∧ ∃ o, K.lookup p = some o ∧ o.cls = .type "tuple" ∧ o.dict = none) ∨
      (T = "dict" ∧ ((∃ kvs, H p = some (.dK kvs)) ∨ ∃ kvs, H p = some (.dT kvs))) ∨ (T = "set" ∧ ∃ S n, H p = some (.set S n))
  | _ => False
theorem tyV_is {pins : List (Addr × Obj)} {σ : St} {H : Hp} {s : Shared} {T : String} {x : V} {v : Value} (I : Inv X pins σ H s) (r : RelV x v) (ty : tyV X.K T x H) :
    s.TypeIs v T ∧ ∀ a, v = .ref a → ∃ ob, s.heap.get? a = some ob ∧ ob.dict = none := by
  cases x with
  | str z =>
    obtain ⟨t, rfl⟩ := r
    cases (show T = "str" from ty)
    exact ⟨typeIs_str s z t, fun _ e => nomatch e⟩
  | int i =>
    obtain ⟨t, rfl⟩ := r
    cases (show T = "int" from ty)
    exact ⟨typeIs_int s i t, fun _ e => nomatch e⟩
  | ref p =>
    cases r
    rcases ty with ⟨rfl, xs, hq⟩ | ⟨rfl, o, hk, hc, hd⟩ | ⟨rfl, hk⟩ | ⟨rfl, S, n, hk⟩
    · obtain ⟨its, _, pl, _⟩ := I.list hq
      refine ⟨pl.isList.typeIs, fun a e => ?_⟩
      cases e
      obtain ⟨o, n, e, c, hd, _⟩ := pl
      exact ⟨o, e, hd⟩
    · refine ⟨⟨o, I.kIn p o hk, hc⟩, fun a e => ?_⟩
      cases e
      exact ⟨o, I.kIn _ o hk, hd⟩
    · have z : ∃ o, s.heap.get? p = some o ∧ o.ExactDict := by
        rcases hk with ⟨kvs, hk⟩ | ⟨kvs, hk⟩
        · obtain ⟨_, _, _, _, o, _, _, e, ex, _⟩ := I.hok p _ hk
          exact ⟨o, e, ex⟩
        · obtain ⟨_, _, _, _, o, _, _, e, ex, _⟩ := I.hok p _ hk
          exact ⟨o, e, ex⟩
      obtain ⟨o, e, ex⟩ := z
      refine ⟨⟨o, e, ex.1⟩, fun a e2 => ?_⟩
      cases e2
      exact ⟨o, e, ex.2.1⟩
    · obtain ⟨o, _, _, _, e, ex, _⟩ := I.hok p _ hk
      refine ⟨⟨o, e, ex.1⟩, fun a e2 => ?_⟩
      cases e2
      exact ⟨o, e, ex.2.1⟩
  | _ => exact False.elim ty
def tBM (K : PySem.W.Frag) (T : String) (r : V → List V → Hp → VK → Prop) (to : TE) (t : TA) : TE := fun σ H Q => to σ H fun x H1 => tyV K T x H1 ∧ t σ H1 fun xs H2 => r x xs H2 Q
variable {o e : Expr} {es : List Expr} {to : TE} {t : TA} {name : Str} {apos cpos : Pos} {T id : String} {r : V → List V → Hp → VK → Prop}
theorem pe_bm (pa : PlainAttrs T) (slot : Slot T name id) (hty : typeOf (.builtin id) = pure (.type "method_descriptor")) (hm : MtR X id r) (ho : PE X o to) (ha : PA X (e :: es) t)
    (hbase : attributeBase o name X.env (eval o X.env) = eval o X.env := by rfl)
    (hfew : ((backTo cpos (starEach (e :: es) X.env)).all (fun x => !x.1) && (backToKw cpos (keywordEach [] X.env)).all (fun x => x.1.isSome)
      && decide ((e :: es).length + ([] : List Keyword).length + (if ([] : List Keyword).isEmpty then 0 else 1) < 30)) = true := by rfl)
    (hline : (apos.endLine == cpos.line) = true := by rfl) (hs : starEach (e :: es) X.env = (false, eval e X.env) :: starEach es X.env := by rfl) (hplain : (backTo cpos (starEach es X.env)).any (·.1) = false := by rfl) :
    PE X (.Call (.Attribute o name apos) (e :: es) [] cpos) (tBM X.K T r to t) := by
  intro pins s σ H Q I h
  refine wpAny_Call_method_late hbase hfew hline rfl (thn (ho pins s σ H _ I h) fun v s1 ⟨x, H1, I1, r1, ty, q1⟩ => ?_)
  obtain ⟨h1, h2⟩ := tyV_is I1 r1 ty
  refine ⟨T, id, pa, slot, hty, h1, h2, ?_⟩
  have hA := ha cpos pins s1 σ H1 _ I1 q1
  rw [hs] at hA ⊢
  refine Calls.callWith_builtin (by show (false || (backTo cpos (starEach es X.env)).any (·.1)) = false; rw [hplain] <;> rfl) (Calls.evalArgs_plain ?_)
  exact thn hA fun us s2 ⟨vs, H2, I2, r2, q2⟩ => hm pins s2 σ H2 x vs v us Q I2 r1 r2 q2
/- xs.append(e), list.index on a module's tuple .. are MtR facts of 06m -/
end
end L2
namespace L2
open PySem PySem.Spec PyProof.Rows
def MtM (X : Cx) (id : String) (r : V → List V → Hp → VK → Prop) : Prop :=
  ∀ (pins : List (Addr × Obj)) (s : Shared) (σ : St) (H : Hp) (x : V) (xs : List V) (v : Value) (us : List Value) (Q : VK), Inv X pins σ H s → RelV x v → Vals xs us → r x xs H Q →
    wpAny (model X.prog X.w) X.A (call (.builtin id) (v :: us)) (EP X pins σ Q) X.xe s
theorem Vals.one : ∀ {x : V} {us : List Value}, Vals [x] us → ∃ u, us = [u] ∧ RelV x u
  | _, _, .cons r .nil => ⟨_, rfl, r⟩
section
variable {X : Cx} {pins : List (Addr × Obj)} {σ : St} {H : Hp} {s : Shared} {l b : Addr} {xs ys zs : List V}
theorem Inv.lset {its its' : List Value} {n : Nat} {f : Array Value → Array Value} {t' : Nat} (I : Inv X pins σ H s) (hH : H l = some (.lst xs))
    (e : s.heap.get? l = some { cls := .type "list", data := .seq its.toArray n }) (hf : f its.toArray = its'.toArray) (hv : Vals ys its') (hz : ys.length ≤ sizeLine) :
    Inv X pins σ (upd H l (.lst ys)) { s with heap := s.heap.update l (Obj.mapSeq f), toks := t' } := by
  have q := PySem.IsL.update e f
  rw [hf] at q
  refine I.write (x := l) (e := l) (by rw [hH]; exact trivial) (.inl rfl) (fun b' u hb hu => (Heap.get?_update_other s.heap (Obj.mapSeq f) (Ne.symm hb)).trans hu) ⟨_, q⟩ ?_
  exact ⟨hz, its', _, hv, q⟩
theorem Inv.lnew {its : List Value} {t' : Nat} (I : Inv X pins σ H s) (hv : Vals ys its) (hz : ys.length ≤ sizeLine) :
    Inv X pins σ (upd H s.heap.objs.size (.lst ys)) { s with heap := s.heap.push { cls := .type "list", data := .seq its.toArray }, toks := t' } :=
  I.laid (fun _ _ q => Heap.get?_push_of_some _ q) (Nat.le_refl _) ⟨hz, its, 0, hv, Heap.get?_push_size _ rfl⟩
theorem Inv.fresh (I : Inv X pins σ H s) : H s.heap.objs.size = none := I.hok.fresh (Nat.le_refl _)
theorem Inv.lstM (I : Inv X pins σ H s) (hH : H l = some (.lst xs)) : xs.length ≤ sizeLine ∧ ∃ (its : List Value) (n : Nat), Vals xs its ∧ xs.length = its.length ∧ s.heap.get? l = some { cls := .type "list", data := .seq its.toArray n } := by
  obtain ⟨z, its, n, r, e⟩ := I.hok l _ hH
  exact ⟨z, its, n, r, r.length, e⟩
end
section
variable {X : Cx}
def rAppend : V → List V → Hp → VK → Prop := fun x vs H Q => ∃ l xs y, x = .ref l ∧ vs = [y] ∧ H l = some (.lst xs) ∧ xs.length < sizeLine ∧ Q .non (upd H l (.lst (xs ++ [y])))
theorem mt_append : MtM X "list.append" rAppend := by
  intro pins s σ H x vs v us Q I rx rv h
  obtain ⟨l, xs, y, rfl, rfl, hH, hz, q⟩ := h
  cases rx
  obtain ⟨u, rfl, ru⟩ := rv.one
  obtain ⟨z, its, n, r, hl, e⟩ := I.lstM hH
  refine call_meets F.slot_list_append ⟨_, e, rfl⟩ F.entry_list_append (F.args_list_append_2 _ _) (PySem.list_append l its.toArray n u (by rw [List.size_toArray]; omega)) ⟨e, ?_⟩
  refine ⟨.non, _, I.lset (its' := its ++ [u]) hH e (by simp) (r.append (.cons ru .nil)) ?_, rfl, q⟩
  rw [List.length_append, List.length_singleton]
  omega
end
section
variable {prog : Program} {w : World} {A : Around} {E : Value → Shared → Prop} {s : Shared}
end
section
variable {X : Cx}
end
end L2
namespace Att
open PySem PySem.W PySem.Calls PyProof.Rows
theorem ints_of_wellAll {P : Params} {h : Heap} : ∀ (ns : List Int) (vs : List Value), WellAll P h vs (ns.map WData.int) → IntsAre vs ns := by
  intro ns
  induction ns with
  | nil =>
    intro vs w
    rw [List.map_nil] at w
    cases w
    exact .nil
  | cons n ns ih =>
    intro vs w
    rw [List.map_cons] at w
    cases w with
    | cons a b =>
      cases a
      exact .cons _ _ (ih _ b)
theorem script_of {l : OpenLaw} {n : Nat} (hn : l.most = some n) {P : Params} {h : Heap} {args : List WData} {vals : List Value}
    (hpre : l.row.toRowW.claim.pre args = true) (hwl : WellAll P h vals args) :
    ∃ a vs ns, vals = [Value.ref a] ∧ args = [WData.list (ns.map WData.int)] ∧ h.get? a = some { cls := .type "list", data := .seq vs.toArray } ∧ IntsAre vs ns ∧ ns.length ≤ n := by
  have hsh : WShape.hasAll [] args [.list .int] = true := (pre_splitW hpre).1
  have hc : l.pre.holds [] { args := args } = true := (pre_splitW hpre).2
  obtain ⟨d, r, rfl, h1, h2⟩ := hasAllW_cons hsh
  obtain rfl := hasAllW_nil h2
  obtain ⟨xs, rfl, h3⟩ := hasW_list h1
  obtain ⟨ns, rfl⟩ := items_int h3
  have hlen : ns.length ≤ n := by
    unfold OpenLaw.pre at hc
    have h4 : (WTm.not (.lt (.lit (.int (n : Int))) (.len (.arg 0)))).holds [] { args := [.list (ns.map .int)] } = true := by
      have h4 := (holds_andW hc).1
      rw [hn] at h4
      exact h4
    have h5 := condW_of h4 (w_not (w_lt w_lit (w_len_list (w_arg rfl))))
    rw [List.length_map] at h5
    refine Nat.le_of_not_lt fun q => ?_
    have q' : (n : Int) < ((ns.length : Nat) : Int) := by omega
    first
      | (rw [decide_eq_true q'] at h5; exact absurd h5 (by decide))
      | (simp at h5; omega)
  cases hwl with
  | cons w1 w2 =>
    cases w2
    cases w1 with
    | list ho hall => exact ⟨_, _, ns, rfl, rfl, ho, ints_of_wellAll ns _ hall, hlen⟩
theorem post_true (l : OpenLaw) (args : List WData) : l.row.toRowW.claim.post args (.bool true) args = true :=
  postW_of (r := l.row.toRowW) (X := (true == true))
    (show WShape.has [] (.bool true) .bool = true by first | rfl | decide | simp [WShape.has, WShape.arms, WShape.armsAll])
    (show (WTm.eq .res (.lit (.bool true))).value [] { args := args, res := some (.bool true), after := args } = some (.bool (true == true)) from w_eq_bool (w_res rfl) w_lit) rfl
section
variable {prog : Program} {w : World} {A : Around} {E : Value → Shared → Prop} {s : Shared} {K : Frag}
def ledger (h : Heap) (L d : Addr) : List (Addr × Obj) := (List.range h.objs.size).filterMap fun a => if a = L ∨ a = d then none else (h.get? a).map fun o => (a, o)
end
end Att
namespace L2
open PySem PySem.Spec PyProof.Rows
theorem vals_ints : ∀ {vs : List Value} {ns : List Int}, IntsAre vs ns → Vals (ns.map V.int) vs
  | _, _, .nil => .nil
  | _, _, .cons n t h => .cons ⟨t, rfl⟩ (vals_ints h)
def Only (H : Hp) : Prop := ∀ b, H b = none ∨ ∃ o xs, H b = some (.frz o (.lst xs))
theorem law_call {P : Program} {w : World} {K : PySem.W.Frag} {mg mb : Str → Option Value} {CX : CXT} {k : Nat} {fa a : Addr} {fd : FuncData} {x : Str} {sp : Sp} {s₁ : Shared} {vs : List Value} {ns : List Int}
    (KX : K.In s₁.heap) (hns : s₁.heap.Ns mainGlobals mg) (hb : s₁.heap.Ns builtinsNs mb) (hbb : ∀ x : Str, x ≠ "__name__" → mb x = bootBuiltins x) (hlim : s₁.heap.NoLimit) (hg : s₁.gens = #[])
    (ha : s₁.heap.get? a = some { cls := .type "list", data := .seq vs.toArray }) (hi : IntsAre vs ns) (hl : ns.length ≤ sizeLine) (hr : Room k callerA)
    (F : ∀ base : Heap, K.In base → base.Ns mainGlobals mg → FnOk P w K mg base CX k fa fd [x] sp) (hbind : ∀ (s : Shared) (u : Value), BindsTo s fd ⟨[u], []⟩ [(x, u)])
    (hsp : ∀ H : Hp, Only H → SqL K H a (ns.map V.int) → sp [.ref a] H (fun v _ => v = .bl true) fun _ _ _ => False)
    (hCX : ∀ H e s', CX [] H s₁ (fun _ _ _ => False) e s' → False) :
    codeAny (model P w) callerA (.call (.ref fa) ⟨[.ref a], []⟩) (fun r s' => r = .ok (.ret (.bool true)) ∧ OldK s₁.heap s'.heap ∧ s'.os = s₁.os ∧ AllBare s'.gens) s₁ := by
  have rv := vals_ints hi
  have lenV := hi.length
  have core : ∀ H : Hp, Only H → SqL K H a (ns.map V.int) → HOk P w H s₁.heap → (∀ b, H b ≠ none → b = a) → (H a ≠ none → K.lookup a = none) →
      codeAny (model P w) callerA (.call (.ref fa) ⟨[.ref a], []⟩) (fun r s' => r = .ok (.ret (.bool true)) ∧ OldK s₁.heap s'.heap ∧ s'.os = s₁.os ∧ AllBare s'.gens) s₁ := by
    intro H hO hS hok hA hK
    have base_of : ∀ {b : Addr} {o : Obj}, s₁.heap.get? b = some o → H b = none → (hidT s₁.heap H).get? b = some o := fun e n => hidT_get e n
    have noA : ∀ {b : Addr} {o : Obj} {es : Array DictEntry} {ep : Nat}, s₁.heap.get? b = some o → o.data = .dict es ep → H b = none := fun {b o es ep} e d => by
      cases q : H b with
      | none => rfl
      | some u =>
        have e' : b = a := hA b (by rw [q]; simp)
        subst e'
        rw [ha] at e; cases e
        have d' : Data.seq vs.toArray _ = Data.dict es ep := d
        cases d'
    have nsK : ∀ {b : Addr} {m : Str → Option Value}, s₁.heap.Ns b m → (hidT s₁.heap H).Ns b m := fun {b m} ⟨o, es, ep, e, d, r⟩ => ⟨o, es, ep, base_of e (noA e d), d, r⟩
    have hKb : K.In (hidT s₁.heap H) := fun b o e => base_of (KX b o e) (by
      cases q : H b with
      | none => rfl
      | some u =>
        have e' : b = a := hA b (by rw [q]; simp)
        subst e'
        rw [hK (by rw [q]; simp)] at e; cases e)
    have hM : Mod K mg (hidT s₁.heap H) := ⟨hKb, nsK hns, ⟨mb, nsK hb, hbb⟩, let ⟨mc, h1, h2⟩ := hlim; ⟨mc, nsK h1, h2⟩⟩
    have e0 : Env0 P w K mg (hidT s₁.heap H) callerA [] s₁ H := ⟨rfl, hM, fun b o e => of_hidT e, Nat.le_of_eq (hidT_size _ _), trivial, fun b hb => absurd (show b ∈ ([] : List Addr) from hb) (by simp), hok, .of_eq hg⟩
    refine codeAny_mono ((F _ hKb (nsK hns)).run callerA [] s₁ H ⟨[.ref a], []⟩ [.ref a] [.ref a] _ _ hr e0 (hbind s₁ (.ref a)) (.cons rfl .nil) (hsp H hO hS)) fun r s' h => ?_
    cases r with
    | error e => exact (hCX H e s' h).elim
    | ok fl =>
      cases fl with
      | next => exact False.elim h
      | brk => exact False.elim h
      | cont => exact False.elim h
      | ret u =>
        obtain ⟨v, H', os, bare, un, hok', r', q⟩ := h
        have q' : v = .bl true := q
        subst q'
        obtain rfl : u = Value.bool true := r'
        refine ⟨rfl, OldK.of_keep fun b o e => ?_, os, bare⟩
        cases q : H b with
        | none => exact un.keep b o e q (by intro z; exact absurd (show b ∈ ([] : List Addr) from z) (by simp)) (by simp)
        | some u =>
          rcases hO b with z | ⟨ob, xs, z⟩
          · rw [q] at z; cases z
          · have z2 := un.frzs b ob _ z
            obtain ⟨e1, _⟩ := hok b _ z
            obtain ⟨e2, _⟩ := hok' b _ z2
            rw [e] at e1; cases e1
            exact e2
  cases hk : K.lookup a with
  | some o =>
    have e := KX a o hk
    rw [ha] at e
    cases e
    refine core (fun _ => none) (fun _ => .inl rfl) (.inr ⟨_, vs.toArray, _, hk, rfl, rfl, rfl, by rw [List.size_toArray, lenV]; exact hl, by simpa using rv⟩) (fun b u z => by have z' : (none : Option HO) = some u := z; cases z') (fun b z => absurd rfl z) fun z => absurd rfl z
  | none =>
    refine core (fun b => if b = a then some (.frz { cls := .type "list", data := .seq vs.toArray } (.lst (ns.map V.int))) else none) (fun b => ?_) (.inl (.inr ⟨{ cls := .type "list", data := .seq vs.toArray }, if_pos rfl⟩)) (fun b u z => ?_) (fun b z => ?_) fun _ => hk
    · by_cases hb : b = a
      · exact .inr ⟨_, _, if_pos hb⟩
      · exact .inl (if_neg hb)
    · by_cases hb : b = a
      · have z' := (if_pos hb).symm.trans z
        cases z'
        subst hb
        exact ⟨ha, by rw [List.length_map]; exact hl, vs, _, rv, ha⟩
      · have z' := (if_neg hb).symm.trans z
        cases z'
    · by_cases hb : b = a
      · exact hb
      · exact absurd (if_neg hb) z
end L2
namespace L2
open PySem PySem.Spec PyProof.Rows
end L2
/- THE LAST THEOREM (shape; LID, My.* are yours):
   My.Adr: a structure of the addresses that your layer names (classes, functions); My.Txt K t: a structure (Prop) of the equations over K;
   My.txt_mk : {K} {implicit addresses ..} (e1 : nsIn K mainGlobals "law" = some (some (.ref f))) (e2 : K.lookup f = some ⟨oc, od, .func (fnOf "law" "law" params body scope dV kV doc pm an cdv ct), sl⟩) (e3 : codeIn K cdv "law" = true) .. : ∃ t, My.Txt K t
set_option maxRecDepth 100000 in
set_option maxHeartbeats 0 in
theorem PySem.Challenge.cw_LID_holds : PySem.Challenge.rw_LID.Holds := by
  w_on; o_law; k_head; (case hw => w_witness2)
  k_fill
  refine L2.walk_of (l := PySem.Challenge.rw_LID) (n := 63) (k := 40) (x := "script") (CX := fun w => ..) (sp := fun _ => My.sp_law) rfl (by decide) rfl ⟨rfl, by decide, by decide⟩ (fun w h Y => PySem.W.kIn_of Y) ?F ?S ?C
  case F =>
    intro w mg fa h KX G hmg
    have T : ∃ t, My.Txt (L2.KOf KX) t := by
      dsimp only [L2.KOf]                          -- K must stand as «<heap const> w.params» for k_is
      refine' My.txt_mk ?e1 ?e2 ?e3 ..
      (case e1 => PySem.W.k_is)                    -- in the order: a name -> its address -> its object -> its parts
      (case e2 => PySem.W.k_is)
      ..
    obtain ⟨t, T⟩ := T
    have e0 := hmg.symm.trans (PySem.W.mg_of KX G T.law)
    cases e0                                       -- fa is the law's own address
    exact ⟨_, fun s u => .of_eq rfl, fun base kb nb => My.law_fn T kb nb⟩     -- if «.of_eq rfl» comes too early: refine' ⟨_, ?b, fun base kb nb => My.law_fn T kb nb⟩; exact fun s u => .of_eq rfl
  case S => exact fun w H a ns hl hO hS => ..
  case C => exact ..
(the tactic k_is has no namespace: write k_is) -/
namespace L2
open PySem PySem.Spec PyProof.Rows
def inClass (s : Stmt) (j : Nat) : Stmt := match s with
  | .ClassDef _ _ _ body _ _ _ _ _ _ _ => body.getD j (.Pass ⟨0, 0, 0, 0⟩)
  | _ => .Pass ⟨0, 0, 0, 0⟩
def defArgs (s : Stmt) : Arguments := match s with
  | .FunctionDef _ a _ _ _ _ _ _ _ _ => a
  | _ => { posonlyargs := [], args := [], vararg := none, kwonlyargs := [], kw_defaults := [], kwarg := none, defaults := [] }
def defBody (s : Stmt) : List Stmt := match s with
  | .FunctionDef _ _ b _ _ _ _ _ _ _ => b
  | _ => []
def defScope (s : Stmt) : Scope := match s with
  | .FunctionDef _ _ _ _ _ _ sc _ _ _ => sc
  | _ => { kind := .function, names := [], isGenerator := false, isCoroutine := false }
abbrev CX0 : CXT := fun _ _ _ _ _ _ => False
abbrev E0 : XK := fun _ _ _ => False
theorem pass0 {X : Cx} : Passes CX0 X E0 := fun _ _ _ _ _ _ _ h => h.elim
structure Fun (K : PySem.W.Frag) (x qual : Str) (st : Stmt) (f : Addr) (fd : FuncData) : Prop where
  ex : ∃ (oc : Value) (od : Option Addr) (kV doc pm : Value) (an : Option Addr) (cdv ct : Value) (osl : Array (Option Value)),
    fd = PySem.W.fnOf x qual (defArgs st) (defBody st) (defScope st) .none kV doc pm an cdv ct ∧ K.lookup f = some ⟨oc, od, .func fd, osl⟩ ∧ PySem.W.codeIn K cdv qual = true
  kp : PySem.W.keepIn K (.ref f) = true
section
variable {P : Program} {w : World} {K : PySem.W.Frag} {mg : Str → Option Value} {base : Heap}
theorem Fun.ok {x qual : Str} {st : Stmt} {f : Addr} {fd : FuncData} {N ps : List Str} {k : Nat} {sp : Sp} (F : Fun K x qual st f fd) (S : FnScope N ps (defScope st)) (len : ∀ vs H Q E, sp vs H Q E → vs.length = ps.length)
    (hbody : ∀ (cdv : Value) (A : Around) (outer : List Env) (s : Shared) (H : Hp) (vs : List V) (Q : VK) (E : XK), Room k (A.deeper (envOfC qual (defScope st) s.heap.objs.size f cdv)) → sp vs H Q E →
      ∃ t, PSs (cxOf CX0 P w K mg base N qual (defScope st) f cdv A outer s H E).nox (defBody st) t ∧ t { nx := fun _ H' => Q .non H', rt := Q } (start N vs) H) : FnOk P w K mg base CX0 (k + 1) f fd ps sp := by
  obtain ⟨oc, od, kV, doc, pm, an, cdv, ct, osl, rfl, lk, hcd⟩ := F.ex
  refine fn_of lk hcd S len fun A outer s H vs Q E hr hsp => ?_
  obtain ⟨t, h, q⟩ := hbody cdv A outer s H vs Q E hr hsp
  exact ⟨t, h.nox, q⟩
theorem Fun.binds {x qual : Str} {st : Stmt} {f : Addr} {fd : FuncData} {ps : List Str} (F : Fun K x qual st f fd)
    (h : ∀ (kV doc pm : Value) (an : Option Addr) (cdv ct : Value) (us : List Value), us.length = ps.length → bindArgs (PySem.W.fnOf x qual (defArgs st) (defBody st) (defScope st) .none kV doc pm an cdv ct) ⟨us, []⟩ = pure (ps.zip us)) : Binds K fd ps [] := by
  obtain ⟨oc, od, kV, doc, pm, an, cdv, ct, osl, rfl, lk, hcd⟩ := F.ex
  exact .all (h kV doc pm an cdv ct)
theorem fun_mk {x qual : Str} {st : Stmt} {f : Addr} {oc : Value} {od an : Option Addr} {osl : Array (Option Value)} {kV doc pm cdv ct : Value} (l : K.lookup f = some ⟨oc, od, .func (PySem.W.fnOf x qual (defArgs st) (defBody st) (defScope st) .none kV doc pm an cdv ct), osl⟩)
    (c : PySem.W.codeIn K cdv qual = true) (k : PySem.W.keepIn K (.ref f) = true) : Fun K x qual st f (PySem.W.fnOf x qual (defArgs st) (defBody st) (defScope st) .none kV doc pm an cdv ct) := ⟨⟨oc, od, kV, doc, pm, an, cdv, ct, osl, rfl, l, c⟩, k⟩
end
theorem hu_of {A : Around} {k : Nat} (hr : Room k A) : A.units + 1 < cLine := Nat.lt_of_le_of_lt (Nat.add_le_add_left (by decide : 1 ≤ 64) _) hr.units
section
variable {X : Cx}
end
theorem iteF {A B : Prop} (h : B) : if false = true then A else B := by
  rw [if_neg Bool.false_ne_true]
  exact h
theorem iteT {A B : Prop} (h : A) : if true = true then A else B := by
  rw [if_pos rfl]
  exact h
end L2
set_option maxHeartbeats 4000000
namespace L2
open PySem PySem.Spec PyProof.Rows
section
variable {κ : Type} [DecidableEq κ]
def valV (kvs : List (κ × V)) (k : κ) : Option V := (kvs.find? fun kv => decide (kv.1 = k)).map (·.2)
def putK (kvs : List (κ × V)) (k : κ) (v : V) : List (κ × V) :=
  if (kvs.any fun kv => decide (kv.1 = k)) = true then kvs.map (fun kv => if kv.1 = k then (kv.1, v) else kv) else kvs ++ [(k, v)]
theorem valV_pos {p : κ × V} {r : List (κ × V)} {k : κ} (e : p.1 = k) : valV (p :: r) k = some p.2 := by simp [valV, List.find?_cons, e]
theorem valV_neg {p : κ × V} {r : List (κ × V)} {k : κ} (e : ¬ p.1 = k) : valV (p :: r) k = valV r k := by simp [valV, List.find?_cons, e]
theorem valV_any (k : κ) : ∀ kvs : List (κ × V), (kvs.any fun kv => decide (kv.1 = k)) = (valV kvs k).isSome
  | [] => rfl
  | p :: r => by
    rw [List.any_cons]
    by_cases e : p.1 = k
    · simp only [valV_pos e, decide_eq_true e, Bool.true_or, Option.isSome_some]
    · rw [valV_neg e, decide_eq_false e, Bool.false_or]; exact valV_any k r
theorem length_putK (kvs : List (κ × V)) (k : κ) (v : V) : (putK kvs k v).length ≤ kvs.length + 1 := by
  unfold putK
  split
  · rw [List.length_map]; omega
  · rw [List.length_append, List.length_cons, List.length_nil]; omega
theorem RelO.isSome_eq {o : Option V} {u : Option Value} (r : RelO o u) : o.isSome = u.isSome := by
  cases o with
  | none => cases u with
    | none => rfl
    | some _ => exact (show False from r).elim
  | some _ => cases u with
    | none => exact (show False from r).elim
    | some _ => rfl
theorem KV.val {kvs : List (κ × V)} {vs : List (κ × Value)} (r : KV kvs vs) (k : κ) : RelO (valV kvs k) (valueAt vs k) := by
  unfold KV at r
  induction r with
  | nil => exact True.intro
  | @cons p q ps qs h t ih =>
    obtain ⟨h1, h2⟩ := h
    by_cases e : p.1 = k
    · have e' : q.1 = k := h1.symm.trans e
      have b : valueAt (q :: qs) k = some q.2 := by simp [valueAt, List.find?_cons, e']
      rw [valV_pos e, b]; exact h2
    · have e' : ¬ q.1 = k := fun z => e (h1.trans z)
      have b : valueAt (q :: qs) k = valueAt qs k := by simp [valueAt, List.find?_cons, e']
      rw [valV_neg e, b]; exact ih
theorem KV.any {kvs : List (κ × V)} {vs : List (κ × Value)} (r : KV kvs vs) (k : κ) : (kvs.any fun kv => decide (kv.1 = k)) = vs.any fun kv => decide (kv.1 = k) := by
  unfold KV at r
  induction r with
  | nil => rfl
  | cons h t ih => rw [List.any_cons, List.any_cons, ih, h.1]
theorem KV.repl {kvs : List (κ × V)} {vs : List (κ × Value)} (r : KV kvs vs) (k : κ) {y : V} {u : Value} (ry : RelV y u) :
    KV (kvs.map fun kv => if kv.1 = k then (kv.1, y) else kv) (vs.map fun kv => if kv.1 = k then (kv.1, u) else kv) := by
  unfold KV at r ⊢
  induction r with
  | nil => exact .nil
  | @cons p q ps qs h t ih =>
    rw [List.map_cons, List.map_cons]
    refine .cons ?_ ih
    obtain ⟨h1, h2⟩ := h
    by_cases e : p.1 = k
    · rw [if_pos e, if_pos (h1.symm.trans e)]; exact ⟨h1, ry⟩
    · rw [if_neg e, if_neg (fun z => e (h1.trans z))]; exact ⟨h1, h2⟩
theorem KV.put {kvs : List (κ × V)} {vs : List (κ × Value)} (r : KV kvs vs) (k : κ) {y : V} {u : Value} (ry : RelV y u) : KV (putK kvs k y) (stored vs k u) := by
  unfold putK stored
  rw [r.any k]
  by_cases e : (vs.any fun kv => decide (kv.1 = k)) = true
  · rw [if_pos e, if_pos e]; exact r.repl k ry
  · rw [if_neg e, if_neg e]; exact Paired.snoc r ⟨rfl, ry⟩
theorem KV.length {kvs : List (κ × V)} {vs : List (κ × Value)} (r : KV kvs vs) : kvs.length = vs.length := Paired.length r
end
theorem kV_is {P : Program} {w : World} {k : Key} {u : Value} (r : RelV (kV k) u) : (mixKind P w).is k u = true := by
  cases k with
  | inl i => obtain ⟨t, e⟩ := (show ∃ t, u = Value.int i t from r); subst e; exact mixKind_int P w i t
  | inr x => obtain ⟨t, e⟩ := (show ∃ t, u = Value.str x t from r); subst e; exact mixKind_str P w x t
theorem items_are {P : Program} {w : World} : ∀ {ks : List Key} {us : List Value}, Vals (ks.map kV) us → ItemsAre (mixKind P w) ks us
  | [], _, r => by rw [List.map_nil] at r; cases r; exact .nil
  | k :: ks, _, r => by
    rw [List.map_cons] at r
    cases r with
    | cons h t => exact .cons (kV_is h) (items_are t)
abbrev KT (H : Hp) : List (List Key × V) → List (List Key × Addr × Value) → Prop := Paired fun p q => p.1 = q.1 ∧ H q.2.1 = some (.tup (p.1.map kV)) ∧ RelV p.2 q.2.2
theorem KT.val {H : Hp} {kvs : List (List Key × V)} {xs : List (List Key × Addr × Value)} (r : KT H kvs xs) (k : List Key) : RelO (valV kvs k) ((atKey xs k).map (·.2)) := by
  induction r with
  | nil => exact True.intro
  | @cons p q ps qs h t ih =>
    obtain ⟨h1, _, h2⟩ := h
    by_cases e : p.1 = k
    · have e' : q.1 = k := h1.symm.trans e
      have b : atKey (q :: qs) k = some q.2 := by simp [atKey, List.find?_cons, e']
      rw [valV_pos e, b]; exact h2
    · have e' : ¬ q.1 = k := fun z => e (h1.trans z)
      have b : atKey (q :: qs) k = atKey qs k := by simp [atKey, List.find?_cons, e']
      rw [valV_neg e, b]; exact ih
theorem KT.repl {H : Hp} {kvs : List (List Key × V)} {xs : List (List Key × Addr × Value)} (r : KT H kvs xs) (k : List Key) {y : V} {u : Value} (ry : RelV y u) :
    KT H (kvs.map fun kv => if kv.1 = k then (kv.1, y) else kv) (xs.map (putAt k u)) := by
  induction r with
  | nil => exact .nil
  | @cons p q ps qs h t ih =>
    rw [List.map_cons, List.map_cons]
    refine .cons ?_ ih
    obtain ⟨h1, h2, h3⟩ := h
    unfold putAt
    by_cases e : p.1 = k
    · rw [if_pos e, if_pos (h1.symm.trans e)]; exact ⟨h1, h2, ry⟩
    · rw [if_neg e, if_neg (fun z => e (h1.trans z))]; exact ⟨h1, h2, h3⟩
theorem KT.put {H : Hp} {kvs : List (List Key × V)} {xs : List (List Key × Addr × Value)} (r : KT H kvs xs) (k : List Key) {b : Addr} {y : V} {u : Value} (hb : H b = some (.tup (k.map kV))) (ry : RelV y u) :
    KT H (putK kvs k y) (storedH xs k b u) := by
  have e : (kvs.any fun kv => decide (kv.1 = k)) = (atKey xs k).isSome := by
    rw [valV_any, (r.val k).isSome_eq, Option.isSome_map]
  unfold putK storedH
  rw [e]
  by_cases q : (atKey xs k).isSome = true
  · rw [if_pos q, if_pos q]; exact r.repl k ry
  · rw [if_neg q, if_neg q]; exact Paired.snoc r ⟨rfl, hb, ry⟩
theorem KT.keeps {H H' : Hp} {kvs : List (List Key × V)} {xs : List (List Key × Addr × Value)} (r : KT H kvs xs) (ht : ∀ b ys, H b = some (.tup ys) → H' b = some (.tup ys)) : KT H' kvs xs :=
  Paired.mapP r fun _ _ z => ⟨z.1, ht _ _ z.2.1, z.2.2⟩
section
variable {P : Program} {w : World} {H : Hp} {h : Heap} {a : Addr}
theorem rd_of {u : HO} (ok : HOk P w H h) (e : Rd H a u) : ObjOk P w H h a u := e.ok ok
theorem dk_rd {kvs : List (Key × V)} (ok : HOk P w H h) (e : Rd H a (.dK kvs)) : kvs.length ≤ sizeLine ∧ (a == sysModules) = false ∧ ∃ vs, KV kvs vs ∧ h.DictOf (mixKind P w) a vs :=
  show ObjOk P w H h a (.dK kvs) from rd_of ok e
theorem dk_of {kvs : List (Key × V)} (ok : HOk P w H h) (e : H a = some (.dK kvs)) : kvs.length ≤ sizeLine ∧ (a == sysModules) = false ∧ ∃ vs, KV kvs vs ∧ h.DictOf (mixKind P w) a vs := dk_rd ok (.inl e)
theorem key_of {ks : List Key} (ok : HOk P w H h) (e : H a = some (.tup (ks.map kV))) : (tupleKind (mixKind P w)).is h ks a := by
  obtain ⟨_, its, r, o, h1, h2, n, h3⟩ := (show ObjOk P w H h a (.tup (ks.map kV)) from ok a _ e)
  exact ⟨o, its.toArray, n, h1, h2, h3, by simpa using items_are r⟩
theorem dt_rd {kvs : List (List Key × V)} (ok : HOk P w H h) (e : Rd H a (.dT kvs)) : kvs.length ≤ sizeLine ∧ (a == sysModules) = false ∧
    ∃ xs, KT H kvs xs ∧ h.DictOfH (tupleKind (mixKind P w)) a xs := by
  obtain ⟨z, y, xs, r, o, es, ep, h1, h2, h3, h4, h5⟩ := (show ObjOk P w H h a (.dT kvs) from rd_of ok e)
  refine ⟨z, y, xs, r, o, es, ep, h1, h2, h3, h4, fun x hx => ?_, h5⟩
  have all : ∀ {l : List (List Key × V)} {m : List (List Key × Addr × Value)}, KT H l m → ∀ x ∈ m, (tupleKind (mixKind P w)).is h x.1 x.2.1 := by
    intro l m q
    induction q with
    | nil => intro x hx; exact nomatch hx
    | @cons p q ps qs hq t ih =>
      intro x hx
      rcases List.mem_cons.mp hx with e | hx
      · subst e
        exact key_of ok (by rw [← hq.1]; exact hq.2.1)
      · exact ih x hx
  exact all r x hx
theorem dt_of {kvs : List (List Key × V)} (ok : HOk P w H h) (e : H a = some (.dT kvs)) : kvs.length ≤ sizeLine ∧ (a == sysModules) = false ∧
    ∃ xs, KT H kvs xs ∧ h.DictOfH (tupleKind (mixKind P w)) a xs := dt_rd ok (.inl e)
end
def DGet (H : Hp) (a : Addr) (y : V) (r : Option V) : Prop :=
  (∃ kvs k, Rd H a (.dK kvs) ∧ y = kV k ∧ r = valV kvs k) ∨ ∃ kvs k b, Rd H a (.dT kvs) ∧ y = .ref b ∧ H b = some (.tup (k.map kV)) ∧ r = valV kvs k
def DPut (H : Hp) (a : Addr) (y v : V) (H' : Hp) : Prop :=
  (∃ kvs k, H a = some (.dK kvs) ∧ y = kV k ∧ kvs.length < sizeLine ∧ H' = upd H a (.dK (putK kvs k v))) ∨
  ∃ kvs k b, H a = some (.dT kvs) ∧ y = .ref b ∧ H b = some (.tup (k.map kV)) ∧ kvs.length < sizeLine ∧ H' = upd H a (.dT (putK kvs k v))
theorem DGet.k {H : Hp} {a : Addr} {kvs : List (Key × V)} {k : Key} (e : H a = some (.dK kvs)) : DGet H a (kV k) (valV kvs k) := .inl ⟨kvs, k, .inl e, rfl, rfl⟩
theorem DPut.k {H : Hp} {a : Addr} {kvs : List (Key × V)} {k : Key} {v : V} (e : H a = some (.dK kvs)) (hl : kvs.length < sizeLine) : DPut H a (kV k) v (upd H a (.dK (putK kvs k v))) := .inl ⟨kvs, k, e, rfl, hl, rfl⟩
section
variable {X : Cx} {pins : List (Addr × Obj)} {σ : St} {H : Hp} {s : Shared} {a : Addr} {y v : V} {u r : Value} {o : Option V} {A : Around} {E : Value → Shared → Prop}
theorem Inv.big (I : Inv X pins σ H s) : sysModules < s.heap.objs.size := by
  have h : mainGlobals < s.heap.objs.size := (I.mod.glob.keeps I.bk).lt
  exact Nat.lt_trans (by decide) h
theorem d_getItem {Q : Value → Shared → Prop} (hu : A.units + 1 < cLine) (I : Inv X pins σ H s) (g : DGet H a y (some v)) (ry : RelV y u) (h : ∀ w' s', Inv X pins σ H s' → RelV v w' → Q w' s') :
    wpAny (model X.prog X.w) A (getItem (.ref a) u) Q E s := by
  rcases g with ⟨kvs, k, e, ey, l⟩ | ⟨kvs, k, b, e, ey, eb, l⟩
  · subst ey
    obtain ⟨z, hd, vs, rel, dd⟩ := dk_rd I.hok e
    obtain ⟨w', hw, rw'⟩ := RelO.some_of (v := v) (o := valueAt vs k) (by rw [l]; exact rel.val k)
    exact wpAny_getItem_of (kV_is ry) dd.mapOf hw (h w' _ (I.tok _) rw')
  · subst ey
    cases (show u = Value.ref b from ry)
    obtain ⟨z, hd, xs, rel, dd⟩ := dt_rd I.hok e
    obtain ⟨w', hw, rw'⟩ := RelO.some_of (v := v) (o := (atKey xs k).map (·.2)) (by rw [l]; exact rel.val k)
    obtain ⟨p, hp, hp2⟩ := Option.map_eq_some_iff.mp hw
    refine wpAny_getItem_heap (tupleKind_room_in1 hu) (key_of I.hok eb) dd hp ?_
    rw [hp2]
    exact h w' _ (I.tok _) rw'
theorem d_write {h' : Heap} {t' : Nat} {ob : HO} (I : Inv X pins σ H s) (mu : Mut (H a)) (hs : Heap.SameBut a s.heap h') (he : ∃ q, h'.get? a = some q) (new : ObjOk X.prog X.w (upd H a ob) h' a ob) :
    Inv X pins σ (upd H a ob) { s with heap := h', toks := t' } :=
  I.write (x := a) (e := a) mu (.inl rfl) (fun b q hb z => (hs.2 b hb).trans z) he new
theorem dk_new {P : Program} {w : World} {H' : Hp} {h' : Heap} {kvs : List (Key × V)} {vs : List (Key × Value)} (z : kvs.length ≤ sizeLine) (hd : (a == sysModules) = false) (rel : KV kvs vs) (dd : h'.DictOf (mixKind P w) a vs) :
    ObjOk P w H' h' a (.dK kvs) := ⟨z, hd, vs, rel, dd⟩
theorem d_setItem {H' : Hp} {Q : Unit → Shared → Prop} (hu : A.units + 1 < cLine) (I : Inv X pins σ H s) (g : DPut H a y v H') (ry : RelV y u) (rv : RelV v r) (h : ∀ s', Inv X pins σ H' s' → Q () s') :
    wpAny (model X.prog X.w) A (setItem (.ref a) u r) Q E s := by
  rcases g with ⟨kvs, k, e, ey, l, eH⟩ | ⟨kvs, k, b, e, ey, eb, l, eH⟩
  · subst ey eH
    obtain ⟨z, hd, vs, rel, dd⟩ := dk_of I.hok e
    have hz : vs.length ≤ sizeLine := by rw [← rel.length]; exact z
    have hl : (putK kvs k v).length ≤ sizeLine := by have := length_putK kvs k v; omega
    refine wpAny_setItem_pairs (hsz := hz) (kV_is ry) dd fun h' dd' hs => h _ ?_
    have he : ∃ q, h'.get? a = some q := let ⟨q, _, _, hq, _⟩ := dd'; ⟨q, hq⟩
    exact d_write I (by rw [e]; exact True.intro) hs he (dk_new hl hd (rel.put k rv) dd')
  · subst ey eH
    cases (show u = Value.ref b from ry)
    obtain ⟨z, hd, xs, rel, dd⟩ := dt_of I.hok e
    have hz : xs.length ≤ sizeLine := by rw [← Paired.length rel]; exact z
    have hl : (putK kvs k v).length ≤ sizeLine := by have := length_putK kvs k v; omega
    refine wpAny_setItem_heap (hsz := hz) (tupleKind_room_in1 hu) (key_of I.hok eb) dd fun h' dd' hs => h _ ?_
    obtain ⟨q, es, ep, hq, h2, h3, h4, _, h5⟩ := dd'
    refine d_write I (by rw [e]; exact True.intro) hs ⟨q, hq⟩ ⟨hl, hd, _, (rel.put k eb rv).keeps fun c ys ec => ?_, q, es, ep, hq, h2, h3, h4, h5⟩
    rw [upd_ne (ne_of ec e (fun z => nomatch z))]
    exact ec
end
section
variable {X : Cx} {pins : List (Addr × Obj)} {σ : St} {H : Hp} {s : Shared} {a : Addr} {kvs : List (Key × V)} {k : Key} {u : Value} {A : Around} {E : Value → Shared → Prop}
theorem d_len {Q : Value → Shared → Prop} (I : Inv X pins σ H s) (e : Rd H a (.dK kvs)) (h : ∀ t s', Inv X pins σ H s' → Q (.int kvs.length t) s') : wpAny (model X.prog X.w) A (call (.builtin "len") [.ref a]) Q E s := by
  obtain ⟨z, hd, vs, rel, dd⟩ := dk_rd I.hok e
  refine call_len_dict hd dd (by rw [← rel.length]; rw [sizeLine_eq] at z; omega) ?_
  rw [← rel.length]
  exact h _ _ (I.tok _)
end
theorem dict_typeIs {X : Cx} {pins : List (Addr × Obj)} {σ : St} {H : Hp} {s : Shared} {a : Addr} {y : V} {o : Option V} (I : Inv X pins σ H s) (g : DGet H a y o) : s.TypeIs (.ref a) "dict" := by
  rcases g with ⟨kvs, k, e, _, _⟩ | ⟨kvs, k, b, e, _, _, _⟩
  · obtain ⟨_, _, vs, _, dd⟩ := dk_rd I.hok e
    exact dd.typeIs
  · obtain ⟨_, _, xs, _, dd⟩ := dt_rd I.hok e
    exact dd.typeIs
section
variable {X : Cx} {o i e value : Expr} {pos pos' tpos : Pos} {td ty tv : TE}
end
theorem dk_empty {P : Program} {w : World} {H : Hp} (h : Heap) (hb : sysModules < h.objs.size) : ObjOk P w H (h.push { cls := .type "dict", data := .dict #[] }) h.objs.size (.dK []) :=
  ⟨Nat.zero_le _, beq_eq_false_iff_ne.mpr (Ne.symm (Nat.ne_of_lt hb)), [], .nil, Heap.DictOf.new h⟩
section
variable {X : Cx} {pos : Pos}
end
section
variable {X : Cx} {pins : List (Addr × Obj)} {σ : St} {H : Hp} {s : Shared} {a : Addr} {y d : V} {u r : Value} {o : Option V} {A : Around} {E : Value → Shared → Prop}
end
section
variable {X : Cx} {o e f : Expr} {apos cpos : Pos} {td ty tx : TE}
end
section
variable {X : Cx} {pins : List (Addr × Obj)} {σ : St} {H : Hp} {s : Shared} {a : Addr} {kvs : List (Key × V)} {A : Around} {E : Value → Shared → Prop}
end
section
variable {X : Cx} {pins : List (Addr × Obj)} {σ : St} {H : Hp} {s : Shared} {a : Addr} {y : V} {u : Value} {A : Around} {E : Value → Shared → Prop}
end
section
variable {X : Cx}
theorem call_lenD : CallR X (.builtin "len") (fun xs H Q => ∃ a kvs, xs = [V.ref a] ∧ H a = some (.dK kvs) ∧ Q (.int kvs.length) H) := by
  intro pins s σ H xs us Q I r h
  obtain ⟨a, kvs, rfl, ha, q⟩ := h
  obtain ⟨u, rfl, ru⟩ := vals1 r
  cases ru
  exact d_len I (.inl ha) fun t s' I' => ⟨.int kvs.length, H, I', ⟨t, rfl⟩, q⟩
end
section
variable {κ : Type} [DecidableEq κ]
end
end L2
namespace D
open PySem PySem.Spec PyProof.Rows L2
abbrev St := L2.St
inductive DV where
  | non | bl (b : Bool) | int (i : Int) | str (x : Str) | tup (xs : List DV) | lst (xs : List DV) | ref (i : Nat)
inductive OV where
  | lst (xs : List DV)
  | dic (kvs : List (Key × DV))
  | ins (c : Str) (fs : List (Str × DV))
abbrev Hs := List OV
abbrev M := StateT Hs Option
mutual
def RepV (K : PySem.W.Frag) (ρ : List Addr) (B : Addr → Prop) (H : Hp) : DV → V → Prop
  | .non, v => v = .non
  | .bl b, v => v = .bl b
  | .int i, v => v = .int i
  | .str x, v => v = .str x
  | .tup ds, v => ∃ a xs, v = .ref a ∧ ¬ B a ∧ SqT K H a xs ∧ RepL K ρ B H ds xs
  | .lst ds, v => ∃ a xs, v = .ref a ∧ ¬ B a ∧ SqL K H a xs ∧ RepL K ρ B H ds xs
  | .ref i, v => ∃ a, v = .ref a ∧ ρ[i]? = some a
def RepL (K : PySem.W.Frag) (ρ : List Addr) (B : Addr → Prop) (H : Hp) : List DV → List V → Prop
  | [], xs => xs = []
  | d :: ds, xs => ∃ x r, xs = x :: r ∧ RepV K ρ B H d x ∧ RepL K ρ B H ds r
end
def ORep (K : PySem.W.Frag) (ρ : List Addr) (B : Addr → Prop) (H : Hp) (a : Addr) : OV → Prop
  | .lst ds => ∃ xs, H a = some (.lst xs) ∧ RepL K ρ B H ds xs
  | .dic kvs => ∃ xs : List (Key × V), H a = some (.dK xs) ∧ xs.map (·.1) = kvs.map (·.1) ∧ RepL K ρ B H (kvs.map (·.2)) (xs.map (·.2))
  | .ins c fs => ∃ (C dx : Addr) (xs : List (Str × V)), PySem.W.nsIn K mainGlobals c = some (some (.ref C)) ∧ H a = some (.ins C dx xs) ∧ xs.map (·.1) = fs.map (·.1) ∧ RepL K ρ B H (fs.map (·.2)) (xs.map (·.2))
structure Gr (K : PySem.W.Frag) (ρ : List Addr) (B : Addr → Prop) (H : Hp) (ρ' : List Addr) (B' : Addr → Prop) (H' : Hp) : Prop where
  pre : ρ <+: ρ'
  ban : ∀ a, B a → B' a
  new : ∀ a, B' a → B a ∨ (H a = none ∧ K.lookup a = none)
  rnew : ∀ a ∈ ρ', a ∈ ρ ∨ H a = none
  keep : ∀ a o, a ∉ ρ → H a = some o → H' a = some o
  trk : ∀ a, H' a = none → H a = none
structure WOk (K : PySem.W.Frag) (ρ : List Addr) (B : Addr → Prop) (hp : Hs) (H : Hp) : Prop where
  len : ρ.length = hp.length
  nd : ρ.Nodup
  obj : ∀ (i : Nat) (a : Addr) (o : OV), ρ[i]? = some a → hp[i]? = some o → ORep K ρ B H a o
  rb : ∀ a ∈ ρ, B a
  bt : ∀ a, B a → H a ≠ none
  bk : ∀ a, B a → K.lookup a = none
section
variable {K : PySem.W.Frag} {ρ ρ' ρ'' : List Addr} {B B' B'' : Addr → Prop} {H H' H'' : Hp}
theorem Gr.refl : Gr K ρ B H ρ B H := ⟨List.prefix_rfl, fun _ h => h, fun _ h => .inl h, fun _ h => .inl h, fun _ _ _ h => h, fun _ h => h⟩
theorem Gr.trans (a : Gr K ρ B H ρ' B' H') (b : Gr K ρ' B' H' ρ'' B'' H'') : Gr K ρ B H ρ'' B'' H'' where
  pre := a.pre.trans b.pre
  ban := fun x h => b.ban x (a.ban x h)
  new := fun x h => (b.new x h).elim (a.new x) fun z => .inr ⟨a.trk x z.1, z.2⟩
  rnew := fun x h => (b.rnew x h).elim (a.rnew x) fun z => .inr (a.trk x z)
  keep := fun x o hn h => b.keep x o (fun z => (a.rnew x z).elim hn (fun z => by rw [h] at z; cases z)) (a.keep x o hn h)
  trk := fun x h => a.trk x (b.trk x h)
structure Gs (K : PySem.W.Frag) (ρ : List Addr) (B : Addr → Prop) (H : Hp) (ρ' : List Addr) (B' : Addr → Prop) (H' : Hp) : Prop where
  pre : ρ <+: ρ'
  new : ∀ a, B' a → B a ∨ (H a = none ∧ K.lookup a = none)
  keep : ∀ a o, ¬ B a → H a = some o → H' a = some o
  trk : ∀ a, H' a = none → H a = none
theorem Gr.gs (rb : ∀ a ∈ ρ, B a) (g : Gr K ρ B H ρ' B' H') : Gs K ρ B H ρ' B' H' := ⟨g.pre, g.new, fun a o nb h => g.keep a o (fun z => nb (rb a z)) h, g.trk⟩
theorem Gs.refl : Gs K ρ B H ρ B H := ⟨List.prefix_rfl, fun _ h => .inl h, fun _ _ _ h => h, fun _ h => h⟩
theorem Gs.trans (a : Gs K ρ B H ρ' B' H') (b : Gs K ρ' B' H' ρ'' B'' H'') : Gs K ρ B H ρ'' B'' H'' where
  pre := a.pre.trans b.pre
  new := fun x h => (b.new x h).elim (a.new x) fun z => .inr ⟨a.trk x z.1, z.2⟩
  keep := fun x o nb h => b.keep x o (fun z => (a.new x z).elim nb fun q => by rw [h] at q; cases q.1) (a.keep x o nb h)
  trk := fun x h => a.trk x (b.trk x h)
theorem SqT.trk {a : Addr} {xs : List V} (h : SqT K H a xs) : H a ≠ none ∨ ∃ o, K.lookup a = some o := by
  rcases h with (h | ⟨o, h⟩) | ⟨o, _, _, h, _⟩
  · exact .inl (by rw [h]; simp)
  · exact .inl (by rw [h]; simp)
  · exact .inr ⟨o, h⟩
theorem SqL.trk {a : Addr} {xs : List V} (h : SqL K H a xs) : H a ≠ none ∨ ∃ o, K.lookup a = some o := by
  rcases h with (h | ⟨o, h⟩) | ⟨o, _, _, h, _⟩
  · exact .inl (by rw [h]; simp)
  · exact .inl (by rw [h]; simp)
  · exact .inr ⟨o, h⟩
theorem Gs.ok {a : Addr} (g : Gs K ρ B H ρ' B' H') (hb : ¬ B a) (t : H a ≠ none ∨ ∃ o, K.lookup a = some o) : ¬ B' a := fun z =>
  (g.new a z).elim hb fun ⟨n, k⟩ => t.elim (fun q => q n) fun ⟨o, q⟩ => by rw [k] at q; cases q
theorem Gs.sqT {a : Addr} {xs : List V} (g : Gs K ρ B H ρ' B' H') (hr : ¬ B a) (h : SqT K H a xs) : SqT K H' a xs := by
  rcases h with (h | ⟨o, h⟩) | h
  · exact .inl (.inl (g.keep _ _ hr h))
  · exact .inl (.inr ⟨o, g.keep _ _ hr h⟩)
  · exact .inr h
theorem Gs.sqL {a : Addr} {xs : List V} (g : Gs K ρ B H ρ' B' H') (hr : ¬ B a) (h : SqL K H a xs) : SqL K H' a xs := by
  rcases h with (h | ⟨o, h⟩) | h
  · exact .inl (.inl (g.keep _ _ hr h))
  · exact .inl (.inr ⟨o, g.keep _ _ hr h⟩)
  · exact .inr h
theorem pre_get {i : Nat} {a : Addr} (p : ρ <+: ρ') (h : ρ[i]? = some a) : ρ'[i]? = some a := by
  obtain ⟨t, rfl⟩ := p
  rw [List.getElem?_append_left (List.getElem?_eq_some_iff.mp h).1]; exact h
mutual
theorem RepV.gs (g : Gs K ρ B H ρ' B' H') : ∀ (d : DV) (v : V), RepV K ρ B H d v → RepV K ρ' B' H' d v
  | .non, _, h => by unfold RepV at h ⊢; exact h
  | .bl _, _, h => by unfold RepV at h ⊢; exact h
  | .int _, _, h => by unfold RepV at h ⊢; exact h
  | .str _, _, h => by unfold RepV at h ⊢; exact h
  | .ref _, _, h => by
    unfold RepV at h ⊢
    obtain ⟨a, e, h⟩ := h
    exact ⟨a, e, pre_get g.pre h⟩
  | .tup ds, _, h => by
    unfold RepV at h ⊢
    obtain ⟨a, xs, e, nb, sq, rl⟩ := h
    exact ⟨a, xs, e, g.ok nb (SqT.trk sq), g.sqT nb sq, RepL.gs g ds xs rl⟩
  | .lst ds, _, h => by
    unfold RepV at h ⊢
    obtain ⟨a, xs, e, nb, sq, rl⟩ := h
    exact ⟨a, xs, e, g.ok nb (SqL.trk sq), g.sqL nb sq, RepL.gs g ds xs rl⟩
theorem RepL.gs (g : Gs K ρ B H ρ' B' H') : ∀ (ds : List DV) (xs : List V), RepL K ρ B H ds xs → RepL K ρ' B' H' ds xs
  | [], _, h => by unfold RepL at h ⊢; exact h
  | d :: ds, _, h => by
    unfold RepL at h ⊢
    obtain ⟨x, r, e, h1, h2⟩ := h
    exact ⟨x, r, e, RepV.gs g d x h1, RepL.gs g ds r h2⟩
end
theorem RepV.grow (rb : ∀ a ∈ ρ, B a) (g : Gr K ρ B H ρ' B' H') (d : DV) (v : V) (h : RepV K ρ B H d v) : RepV K ρ' B' H' d v := RepV.gs (g.gs rb) d v h
theorem RepL.grow (rb : ∀ a ∈ ρ, B a) (g : Gr K ρ B H ρ' B' H') (ds : List DV) (xs : List V) (h : RepL K ρ B H ds xs) : RepL K ρ' B' H' ds xs := RepL.gs (g.gs rb) ds xs h
theorem RepL.length : ∀ {ds : List DV} {xs : List V}, RepL K ρ B H ds xs → ds.length = xs.length
  | [], _, h => by unfold RepL at h; subst h; rfl
  | d :: ds, _, h => by
    unfold RepL at h
    obtain ⟨x, r, rfl, _, h2⟩ := h
    simp [RepL.length h2]
theorem RepL.get : ∀ {ds : List DV} {xs : List V} {i : Nat} {d : DV}, RepL K ρ B H ds xs → ds[i]? = some d → ∃ x, xs[i]? = some x ∧ RepV K ρ B H d x
  | [], _, _, _, _, e => by simp at e
  | d :: ds, _, 0, _, h, e => by
    unfold RepL at h
    obtain ⟨x, r, rfl, h1, _⟩ := h
    simp at e; subst e
    exact ⟨x, rfl, h1⟩
  | d :: ds, _, i + 1, _, h, e => by
    unfold RepL at h
    obtain ⟨x, r, rfl, _, h2⟩ := h
    obtain ⟨y, h3, h4⟩ := RepL.get h2 (by simpa using e)
    exact ⟨y, by simpa using h3, h4⟩
theorem RepL.nil : RepL K ρ B H [] [] := by unfold RepL; rfl
theorem RepL.cons {d : DV} {x : V} {ds : List DV} {xs : List V} (h : RepV K ρ B H d x) (t : RepL K ρ B H ds xs) : RepL K ρ B H (d :: ds) (x :: xs) := by
  unfold RepL; exact ⟨x, xs, rfl, h, t⟩
theorem RepL.append : ∀ {ds es : List DV} {xs ys : List V}, RepL K ρ B H ds xs → RepL K ρ B H es ys → RepL K ρ B H (ds ++ es) (xs ++ ys)
  | [], _, _, _, h, t => by unfold RepL at h; subst h; exact t
  | d :: ds, _, _, _, h, t => by
    unfold RepL at h
    obtain ⟨x, r, rfl, h1, h2⟩ := h
    exact RepL.cons h1 (RepL.append h2 t)
theorem RepL.one {d : DV} {x : V} (h : RepV K ρ B H d x) : RepL K ρ B H [d] [x] := RepL.cons h RepL.nil
theorem RepL.take : ∀ (n : Nat) {ds : List DV} {xs : List V}, RepL K ρ B H ds xs → RepL K ρ B H (ds.take n) (xs.take n)
  | 0, _, _, _ => by simp; exact RepL.nil
  | _ + 1, [], _, h => by unfold RepL at h; subst h; simp; exact RepL.nil
  | n + 1, d :: ds, _, h => by
    unfold RepL at h
    obtain ⟨x, r, rfl, h1, h2⟩ := h
    exact RepL.cons h1 (RepL.take n h2)
theorem RepL.drop : ∀ (n : Nat) {ds : List DV} {xs : List V}, RepL K ρ B H ds xs → RepL K ρ B H (ds.drop n) (xs.drop n)
  | 0, _, _, h => h
  | _ + 1, [], _, h => by unfold RepL at h; subst h; simp; exact RepL.nil
  | n + 1, d :: ds, _, h => by
    unfold RepL at h
    obtain ⟨x, r, rfl, h1, h2⟩ := h
    exact RepL.drop n h2
theorem Gr.laid {p : Addr} {o : HO} (h : H p = none) : Gr K ρ B H ρ B (upd H p o) where
  pre := List.prefix_rfl
  ban := fun _ h => h
  new := fun _ h => .inl h
  rnew := fun _ h => .inl h
  keep := fun a u _ q => by rw [upd_ne (ne_of_none q h)]; exact q
  trk := fun a q => by
    by_cases e : a = p
    · subst e; rw [upd_same] at q; cases q
    · rw [upd_ne e] at q; exact q
theorem ORep.gs {a : Addr} {o : OV} (g : Gs K ρ B H ρ' B' H') (hk : H' a = H a) (h : ORep K ρ B H a o) : ORep K ρ' B' H' a o := by
  cases o with
  | lst ds =>
    obtain ⟨xs, e, rl⟩ := h
    exact ⟨xs, hk.trans e, RepL.gs g _ _ rl⟩
  | dic kvs =>
    obtain ⟨xs, e, ek, rl⟩ := h
    exact ⟨xs, hk.trans e, ek, RepL.gs g _ _ rl⟩
  | ins c fs =>
    obtain ⟨C, dx, xs, nc, e, ek, rl⟩ := h
    exact ⟨C, dx, xs, nc, hk.trans e, ek, RepL.gs g _ _ rl⟩
theorem WOk.laid {hp : Hs} {p : Addr} {o : HO} (W : WOk K ρ B hp H) (h : H p = none) : WOk K ρ B hp (upd H p o) where
  len := W.len
  nd := W.nd
  obj := fun i a u e q => ORep.gs ((Gr.laid h).gs W.rb) (by
    have hb := W.bt a (W.rb a (List.mem_of_getElem? e))
    exact upd_ne (fun z => hb (z ▸ h))) (W.obj i a u e q)
  rb := W.rb
  bt := fun a z q => W.bt a z ((Gr.laid (K := K) (ρ := ρ) (B := B) h).trk a q)
  bk := W.bk
end
inductive Sl where
  | un | val (d : DV) | acc (ds : List DV)
abbrev En := List Sl
structure Ent where
  ρ : List Addr
  B : Addr → Prop
  H : Hp
structure SOk (K : PySem.W.Frag) (Z : Ent) (env : En) (σ : St) (ρ : List Addr) (B : Addr → Prop) (hp : Hs) (H : Hp) : Prop where
  gr : Gr K Z.ρ Z.B Z.H ρ B H
  zb : ∀ a, Z.B a → Z.H a ≠ none
  wo : WOk K ρ B hp H
  slot : ∀ (i : Nat) (d : DV), env[i]? = some (.val d) → ∃ v, σ[i]? = some (some v) ∧ RepV K ρ B H d v
  accs : ∀ (i : Nat) (ds : List DV), env[i]? = some (.acc ds) → ∃ a xs, σ[i]? = some (some (.ref a)) ∧ H a = some (.lst xs) ∧ Z.H a = none ∧ B a ∧ a ∉ ρ ∧ RepL K ρ B H ds xs
  adis : ∀ (i j : Nat) (ds es : List DV) (a : Addr), env[i]? = some (.acc ds) → env[j]? = some (.acc es) → σ[i]? = some (some (.ref a)) → σ[j]? = some (some (.ref a)) → i = j
  len : σ.length = env.length
theorem SOk.grow {K : PySem.W.Frag} {Z : Ent} {env : En} {σ : St} {ρ ρ' : List Addr} {B B' : Addr → Prop} {hp hp' : Hs} {H H' : Hp} (S : SOk K Z env σ ρ B hp H) (g : Gr K ρ B H ρ' B' H') (W : WOk K ρ' B' hp' H') : SOk K Z env σ ρ' B' hp' H' where
  gr := S.gr.trans g
  zb := S.zb
  wo := W
  slot := fun i d e => let ⟨v, h1, h2⟩ := S.slot i d e; ⟨v, h1, RepV.grow S.wo.rb g d v h2⟩
  accs := fun i ds e => by
    obtain ⟨a, xs, h1, h2, h3, h4, h5, h6⟩ := S.accs i ds e
    refine ⟨a, xs, h1, g.keep a _ h5 h2, h3, g.ban a h4, fun z => ?_, RepL.grow S.wo.rb g ds xs h6⟩
    rcases g.rnew a z with q | q
    · exact h5 q
    · rw [h2] at q; cases q
  adis := S.adis
  len := S.len
abbrev DEx := En → M DV
abbrev DTx := En → M Bool
abbrev DAx := En → M (List DV)
inductive Fl where
  | nx | rt (d : DV) | bk | ct
abbrev DSx := En → M (Fl × En)
def Fol (K : PySem.W.Frag) (ρ : List Addr) (B : Addr → Prop) (H : Hp) (d : DV) (hp' : Hs) (Q : VK) : Prop :=
  ∀ v ρ' B' H', Gr K ρ B H ρ' B' H' → WOk K ρ' B' hp' H' → RepV K ρ' B' H' d v → Q v H'
def FolB (K : PySem.W.Frag) (ρ : List Addr) (B : Addr → Prop) (H : Hp) (hp' : Hs) (Q : Hp → Prop) : Prop :=
  ∀ ρ' B' H', Gr K ρ B H ρ' B' H' → WOk K ρ' B' hp' H' → Q H'
def FolL (K : PySem.W.Frag) (ρ : List Addr) (B : Addr → Prop) (H : Hp) (ds : List DV) (hp' : Hs) (Q : List V → Hp → Prop) : Prop :=
  ∀ vs ρ' B' H', Gr K ρ B H ρ' B' H' → WOk K ρ' B' hp' H' → RepL K ρ' B' H' ds vs → Q vs H'
def tD (K : PySem.W.Frag) (f : DEx) : TE := fun σ H Q => ∃ Z env ρ B hp d hp', SOk K Z env σ ρ B hp H ∧ f env hp = some (d, hp') ∧ Fol K ρ B H d hp' Q
def tDT (K : PySem.W.Frag) (f : DTx) : TT := fun σ H Q => ∃ Z env ρ B hp d hp', SOk K Z env σ ρ B hp H ∧ f env hp = some (d, hp') ∧ FolB K ρ B H hp' (Q d)
def tDA (K : PySem.W.Frag) (f : DAx) : TA := fun σ H Q => ∃ Z env ρ B hp ds hp', SOk K Z env σ ρ B hp H ∧ f env hp = some (ds, hp') ∧ FolL K ρ B H ds hp' Q
def DE (X : Cx) (e : Expr) (f : DEx) : Prop := PE X e (tD X.K f)
def DT (X : Cx) (e : Expr) (f : DTx) : Prop := PT X e (tDT X.K f)
def DW (X : Cx) (e : Expr) (f : DTx) : Prop := PW X e (tDT X.K f)
def DA (X : Cx) (es : List Expr) (f : DAx) : Prop := PA X es (tDA X.K f)
def FolS (K : PySem.W.Frag) (Z : Ent) (ρ : List Addr) (B : Addr → Prop) (H : Hp) (fl : Fl) (env' : En) (hp' : Hs) (D : Ends) : Prop :=
  ∀ σ' ρ' B' H', Gs K ρ B H ρ' B' H' → SOk K Z env' σ' ρ' B' hp' H' → match fl with
    | .nx => D.nx σ' H'
    | .bk => D.bk σ' H'
    | .ct => D.ct σ' H'
    | .rt d => ∀ v, RepV K ρ' B' H' d v → D.rt v H'
def tDS (K : PySem.W.Frag) (f : DSx) : TS := fun D σ H => ∃ Z env ρ B hp fl env' hp', SOk K Z env σ ρ B hp H ∧ f env hp = some ((fl, env'), hp') ∧ FolS K Z ρ B H fl env' hp' D
def DS (X : Cx) (st : Stmt) (f : DSx) : Prop := PS X st (tDS X.K f)
def DSs (X : Cx) (st : List Stmt) (f : DSx) : Prop := PSs X st (tDS X.K f)
section
variable {X : Cx}
theorem _root_.L2.PE.imp {e : Expr} {t t' : TE} (h : PE X e t) (i : ∀ σ H Q, t' σ H Q → t σ H Q) : PE X e t' := fun pins s σ H Q I q => h pins s σ H Q I (i σ H Q q)
theorem _root_.L2.PT.imp {e : Expr} {t t' : TT} (h : PT X e t) (i : ∀ σ H Q, t' σ H Q → t σ H Q) : PT X e t' := fun pins s σ H Q I q => h pins s σ H Q I (i σ H Q q)
theorem _root_.L2.PW.imp {e : Expr} {t t' : TT} (h : PW X e t) (i : ∀ σ H Q, t' σ H Q → t σ H Q) : PW X e t' := fun wh pins s σ H Q I q => h wh pins s σ H Q I (i σ H Q q)
theorem _root_.L2.PA.imp {es : List Expr} {t t' : TA} (h : PA X es t) (i : ∀ σ H Q, t' σ H Q → t σ H Q) : PA X es t' := fun pos pins s σ H Q I q => h pos pins s σ H Q I (i σ H Q q)
theorem _root_.L2.PS.imp {st : Stmt} {t t' : TS} (h : PS X st t) (i : ∀ Dn σ H, t' Dn σ H → t Dn σ H) : PS X st t' := fun pins s σ H Dn I q => h pins s σ H Dn I (i Dn σ H q)
theorem _root_.L2.PSs.imp {st : List Stmt} {t t' : TS} (h : PSs X st t) (i : ∀ Dn σ H, t' Dn σ H → t Dn σ H) : PSs X st t' := fun pins s σ H Dn I q => h pins s σ H Dn I (i Dn σ H q)
def KFree (K : PySem.W.Frag) (H : Hp) : Prop := ∀ a o, H a = some o → K.lookup a = none
theorem Inv.kfree {pins : List (Addr × Obj)} {σ : St} {H : Hp} {s : Shared} (I : Inv X pins σ H s) : KFree X.K H := fun a o e => by
  cases q : X.K.lookup a with
  | none => rfl
  | some ob =>
    have := (I.bs a ob (I.ok.mod.kin a ob q)).2
    rw [e] at this; cases this
theorem _root_.L2.PE.kf {e : Expr} {t : TE} (h : PE X e t) : PE X e (fun σ H Q => t σ H fun v H' => KFree X.K H' → Q v H') := fun pins s σ H Q I q =>
  thn (h pins s σ H _ I q) fun u s' ⟨v, H', I', r, z⟩ => ⟨v, H', I', r, z (Inv.kfree I')⟩
theorem bind_some {α β : Type} {f : M α} {g : α → M β} {hp hp' : Hs} {y : β} (h : (f >>= g) hp = some (y, hp')) : ∃ x hp1, f hp = some (x, hp1) ∧ g x hp1 = some (y, hp') := by
  change (f hp).bind (fun p => g p.1 p.2) = some (y, hp') at h
  cases q : f hp with
  | none => rw [q] at h; cases h
  | some p => rw [q] at h; exact ⟨p.1, p.2, rfl, h⟩
theorem pure_some {α : Type} {x y : α} {hp hp' : Hs} (h : (pure x : M α) hp = some (y, hp')) : x = y ∧ hp = hp' := by
  change some (x, hp) = some (y, hp') at h
  cases h; exact ⟨rfl, rfl⟩
theorem tD.run {K : PySem.W.Frag} {f : DEx} {Z : Ent} {env : En} {σ : St} {ρ : List Addr} {B : Addr → Prop} {hp hp1 : Hs} {H : Hp} {d : DV} {Q : VK} (S : SOk K Z env σ ρ B hp H) (e : f env hp = some (d, hp1))
    (k : ∀ v ρ' B' H', Gr K ρ B H ρ' B' H' → SOk K Z env σ ρ' B' hp1 H' → RepV K ρ' B' H' d v → Q v H') : tD K f σ H Q :=
  ⟨Z, env, ρ, B, hp, d, hp1, S, e, fun v ρ' B' H' g W r => k v ρ' B' H' g (S.grow g W) r⟩
def eVar (i : Nat) : DEx := fun env => match env[i]? with
  | some (.val d) => pure d
  | _ => failure
def eC (d : DV) : DEx := fun _ => pure d
theorem eVar_some {i : Nat} {env : En} {hp hp' : Hs} {d : DV} (h : eVar i env hp = some (d, hp')) : env[i]? = some (.val d) ∧ hp = hp' := by
  unfold eVar at h
  cases q : env[i]? with
  | none => rw [q] at h; cases h
  | some z =>
    rw [q] at h
    cases z with
    | val x => obtain ⟨rfl, rfl⟩ := pure_some h; exact ⟨rfl, rfl⟩
    | un => cases h
    | acc _ => cases h
theorem de_var (i : Nat) {x : Str} {pos : Pos} (hN : X.N[i]? = some x := by rfl) (hv : Vis X.env.scope x := by first | exact Or.inl rfl | exact Or.inr (Or.inl rfl) | exact Or.inr (Or.inr rfl)) (hd : (x == ("__debug__" : Str)) = false := by decide)
    (hcd : (x == ("__classdict__" : Str)) = false := by decide) : DE X (.Name x pos) (eVar i) :=
  (pe_var hN hv hd hcd).imp fun σ H Q ⟨Z, env, ρ, B, hp, d, hp', S, e, k⟩ => by
    obtain ⟨e1, rfl⟩ := eVar_some e
    obtain ⟨v, h1, h2⟩ := S.slot i d e1
    exact ⟨v, h1, k v ρ B H Gr.refl S.wo h2⟩
theorem de_const {e : Expr} {d : DV} {v : V} (h : PE X e (tC v)) (r : ∀ K ρ B H, RepV K ρ B H d v) : DE X e (eC d) :=
  h.imp fun σ H Q ⟨Z, env, ρ, B, hp, d', hp', S, e, k⟩ => by
    obtain ⟨rfl, rfl⟩ := pure_some e
    exact k v ρ B H Gr.refl S.wo (r _ _ _ _)
theorem de_int {i : Int} {j pos} : DE X (.Constant (.int i) j pos) (eC (.int i)) := de_const pe_int fun _ _ _ _ => by unfold RepV; rfl
theorem de_bl {b : Bool} {j pos} : DE X (.Constant (.bool b) j pos) (eC (.bl b)) := de_const pe_bl fun _ _ _ _ => by unfold RepV; rfl
theorem de_non {j pos} : DE X (.Constant .none j pos) (eC .non) := de_const pe_non fun _ _ _ _ => by unfold RepV; rfl
theorem de_str {x : Str} {j pos} : DE X (.Constant (.str x) j pos) (eC (.str x)) := de_const pe_str fun _ _ _ _ => by unfold RepV; rfl
theorem de_gint {x : Str} {i : Int} {t : Tok} {pos : Pos} (hg : Gl X x) (hm : X.mg x = some (.int i t)) (hd : (x == ("__debug__" : Str)) = false := by decide) : DE X (.Name x pos) (eC (.int i)) :=
  de_const (pe_glob (v := .int i) hg hm ⟨t, rfl⟩ hd) fun _ _ _ _ => by unfold RepV; rfl
def tP2 (K : PySem.W.Frag) (g : DV → DV → M DV) : R2 := fun x y H Q => ∃ ρ B hp dx dy d hp', WOk K ρ B hp H ∧ RepV K ρ B H dx x ∧ RepV K ρ B H dy y ∧ g dx dy hp = some (d, hp') ∧ Fol K ρ B H d hp' Q
def P2 (X : Cx) (f : Value → Value → Sem Value) (g : DV → DV → M DV) : Prop := OpR X f (tP2 X.K g)
def eBin (g : DV → DV → M DV) (a b : DEx) : DEx := fun env => do let x ← a env; let y ← b env; g x y
variable {a b c : Expr} {fa fb fc : DEx} {pos : Pos}
theorem eBin_imp {K : PySem.W.Frag} {g : DV → DV → M DV} {σ : St} {H : Hp} {Q : VK} (h : tD K (eBin g fa fb) σ H Q) : tOp (tP2 K g) (tD K fa) (tD K fb) σ H Q := by
  obtain ⟨Z, env, ρ, B, hp, d, hp', S, e, k⟩ := h
  obtain ⟨x, hp1, e1, e2⟩ := bind_some e
  obtain ⟨y, hp2, e3, e4⟩ := bind_some e2
  refine tD.run S e1 fun v ρ1 B1 H1 g1 S1 r1 => tD.run S1 e3 fun u ρ2 B2 H2 g2 S2 r2 => ?_
  exact ⟨ρ2, B2, hp2, x, y, d, hp', S2.wo, RepV.grow S1.wo.rb g2 _ _ r1, r2, e4, fun w ρ' B' H' g W r => k w ρ' B' H' (g1.trans (g2.trans g)) W r⟩
theorem de_bin {op : Operator} {g : DV → DV → M DV} (ho : P2 X (binaryOp op) g) (ha : DE X a fa) (hb : DE X b fb) : DE X (.BinOp a op b pos) (eBin g fa fb) :=
  (pe_op ho ha hb).imp fun _ _ _ h => eBin_imp h
theorem de_cmp {op : CmpOp} {g : DV → DV → M DV} (ho : P2 X (compareOp op) g) (ha : DE X a fa) (hb : DE X b fb) (hm : behindInMarks op b = false) : DE X (.Compare a [op] [b] pos) (eBin g fa fb) :=
  (pe_cmpR ho ha hb hm).imp fun _ _ _ h => eBin_imp h
def asB : DV → M Bool
  | .bl b => pure b
  | _ => failure
def eB (f : DEx) : DTx := fun env => do asB (← f env)
theorem asB_some {d : DV} {c : Bool} {hp hp' : Hs} (h : asB d hp = some (c, hp')) : d = .bl c ∧ hp = hp' := by
  cases d with
  | bl b => obtain ⟨rfl, rfl⟩ := pure_some h; exact ⟨rfl, rfl⟩
  | _ => cases h
theorem RepV.blI {K : PySem.W.Frag} {ρ : List Addr} {B : Addr → Prop} {H : Hp} {b : Bool} {v : V} (h : RepV K ρ B H (.bl b) v) : v = .bl b := by unfold RepV at h; exact h
theorem RepV.intI {K : PySem.W.Frag} {ρ : List Addr} {B : Addr → Prop} {H : Hp} {b : Int} {v : V} (h : RepV K ρ B H (.int b) v) : v = .int b := by unfold RepV at h; exact h
theorem RepV.strI {K : PySem.W.Frag} {ρ : List Addr} {B : Addr → Prop} {H : Hp} {b : Str} {v : V} (h : RepV K ρ B H (.str b) v) : v = .str b := by unfold RepV at h; exact h
theorem RepV.nonI {K : PySem.W.Frag} {ρ : List Addr} {B : Addr → Prop} {H : Hp} {v : V} (h : RepV K ρ B H .non v) : v = .non := by unfold RepV at h; exact h
theorem RepV.tupI {K : PySem.W.Frag} {ρ : List Addr} {B : Addr → Prop} {H : Hp} {ds : List DV} {v : V} (h : RepV K ρ B H (.tup ds) v) : ∃ a xs, v = .ref a ∧ ¬ B a ∧ SqT K H a xs ∧ RepL K ρ B H ds xs := by unfold RepV at h; exact h
theorem RepV.lstI {K : PySem.W.Frag} {ρ : List Addr} {B : Addr → Prop} {H : Hp} {ds : List DV} {v : V} (h : RepV K ρ B H (.lst ds) v) : ∃ a xs, v = .ref a ∧ ¬ B a ∧ SqL K H a xs ∧ RepL K ρ B H ds xs := by unfold RepV at h; exact h
theorem RepV.refI {K : PySem.W.Frag} {ρ : List Addr} {B : Addr → Prop} {H : Hp} {i : Nat} {v : V} (h : RepV K ρ B H (.ref i) v) : ∃ a, v = .ref a ∧ ρ[i]? = some a := by unfold RepV at h; exact h
section
variable {K : PySem.W.Frag} {ρ : List Addr} {B : Addr → Prop} {H : Hp}
theorem rep_bl {b : Bool} : RepV K ρ B H (.bl b) (.bl b) := by unfold RepV; rfl
theorem rep_int {b : Int} : RepV K ρ B H (.int b) (.int b) := by unfold RepV; rfl
theorem rep_non : RepV K ρ B H .non .non := by unfold RepV; rfl
theorem rep_tup {a : Addr} {ds : List DV} {xs : List V} (h1 : ¬ B a) (h2 : SqT K H a xs) (h3 : RepL K ρ B H ds xs) : RepV K ρ B H (.tup ds) (.ref a) := by unfold RepV; exact ⟨a, xs, rfl, h1, h2, h3⟩
theorem rep_lst {a : Addr} {ds : List DV} {xs : List V} (h1 : ¬ B a) (h2 : SqL K H a xs) (h3 : RepL K ρ B H ds xs) : RepV K ρ B H (.lst ds) (.ref a) := by unfold RepV; exact ⟨a, xs, rfl, h1, h2, h3⟩
end
theorem dt_of {e : Expr} {f : DEx} (h : DE X e f) (he : ∀ whole, isTrue e X.env whole = (do let v ← whole; standAt e.pos; holding [v] (truthy v)) := by intro _; rfl) : DT X e (eB f) :=
  (pt_val h he).imp fun σ H Q ⟨Z, env, ρ, B, hp, d, hp', S, e, k⟩ => by
    obtain ⟨x, hp1, e1, e2⟩ := bind_some e
    obtain ⟨rfl, rfl⟩ := asB_some e2
    exact tD.run S e1 fun v ρ1 B1 H1 g1 S1 r1 => ⟨d, r1.blI, k ρ1 B1 H1 g1 S1.wo⟩
theorem dt_cmp {op : CmpOp} {g : DV → DV → M DV} (ho : P2 X (compareOp op) g) (ha : DE X a fa) (hb : DE X b fb) (hm : behindInMarks op b = false) : DT X (.Compare a [op] [b] pos) (eB (eBin g fa fb)) :=
  (pt_cmpR ho ha hb hm).imp fun σ H Q ⟨Z, env, ρ, B, hp, d, hp', S, e, k⟩ => by
    obtain ⟨x, hp1, e1, e2⟩ := bind_some e
    obtain ⟨rfl, rfl⟩ := asB_some e2
    exact eBin_imp (tD.run S e1 fun v ρ1 B1 H1 g1 S1 r1 => ⟨d, r1.blI, k ρ1 B1 H1 g1 S1.wo⟩)
def eAnd (f g : DTx) : DTx := fun env => do if ← f env then g env else pure false
def eOr (f g : DTx) : DTx := fun env => do if ← f env then pure true else g env
def eNot (f : DTx) : DTx := fun env => do let b ← f env; pure (!b)
def eAndV (f g : DEx) : DEx := fun env => do if ← asB (← f env) then g env else pure (.bl false)
def eOrV (f g : DEx) : DEx := fun env => do if ← asB (← f env) then pure (.bl true) else g env
def eNotV (f : DEx) : DEx := fun env => do let b ← asB (← f env); pure (.bl (!b))
def eIf (c : DTx) (f g : DEx) : DEx := fun env => do if ← c env then f env else g env
theorem tDT.run {K : PySem.W.Frag} {f : DTx} {Z : Ent} {env : En} {σ : St} {ρ : List Addr} {B : Addr → Prop} {hp hp1 : Hs} {H : Hp} {d : Bool} {Q : Bool → Hp → Prop} (S : SOk K Z env σ ρ B hp H) (e : f env hp = some (d, hp1))
    (k : ∀ ρ' B' H', Gr K ρ B H ρ' B' H' → SOk K Z env σ ρ' B' hp1 H' → Q d H') : tDT K f σ H Q :=
  ⟨Z, env, ρ, B, hp, d, hp1, S, e, fun ρ' B' H' g W => k ρ' B' H' g (S.grow g W)⟩
variable {ca cb : DTx} {rest : List Expr}
theorem dw_and1 (h : DT X a ca) : DW X (.BoolOp .And [a] pos) ca := pw_and1 h
theorem dw_or1 (h : DT X a ca) : DW X (.BoolOp .Or [a] pos) ca := pw_or1 h
theorem dw_and (ha : DT X a ca) (hb : DW X (.BoolOp .And (b :: rest) pos) cb) : DW X (.BoolOp .And (a :: b :: rest) pos) (eAnd ca cb) :=
  (pw_and ha hb).imp fun σ H Q ⟨Z, env, ρ, B, hp, d, hp', S, e, k⟩ => by
    obtain ⟨x, hp1, e1, e2⟩ := bind_some e
    refine tDT.run S e1 fun ρ1 B1 H1 g1 S1 => ?_
    cases x with
    | true => exact iteT (tDT.run S1 e2 fun ρ2 B2 H2 g2 S2 => k ρ2 B2 H2 (g1.trans g2) S2.wo)
    | false =>
      obtain ⟨rfl, rfl⟩ := pure_some e2
      exact iteF (k ρ1 B1 H1 g1 S1.wo)
theorem dw_or (ha : DT X a ca) (hb : DW X (.BoolOp .Or (b :: rest) pos) cb) : DW X (.BoolOp .Or (a :: b :: rest) pos) (eOr ca cb) :=
  (pw_or ha hb).imp fun σ H Q ⟨Z, env, ρ, B, hp, d, hp', S, e, k⟩ => by
    obtain ⟨x, hp1, e1, e2⟩ := bind_some e
    refine tDT.run S e1 fun ρ1 B1 H1 g1 S1 => ?_
    cases x with
    | false => exact iteF (tDT.run S1 e2 fun ρ2 B2 H2 g2 S2 => k ρ2 B2 H2 (g1.trans g2) S2.wo)
    | true =>
      obtain ⟨rfl, rfl⟩ := pure_some e2
      exact iteT (k ρ1 B1 H1 g1 S1.wo)
theorem DW.pt {e : Expr} {f : DTx} (h : DW X e f) : DT X e f := h _
theorem dt_not (h : DT X a ca) : DT X (.UnaryOp .Not a pos) (eNot ca) :=
  (pt_not h).imp fun σ H Q ⟨Z, env, ρ, B, hp, d, hp', S, e, k⟩ => by
    obtain ⟨x, hp1, e1, e2⟩ := bind_some e
    obtain ⟨rfl, rfl⟩ := pure_some e2
    exact tDT.run S e1 fun ρ1 B1 H1 g1 S1 => k ρ1 B1 H1 g1 S1.wo
theorem de_one {op : BoolOp} (h : DE X a fa) : DE X (.BoolOp op [a] pos) fa := pe_one h
theorem de_and (ha : DE X a fa) (hb : DE X (.BoolOp .And (b :: rest) pos) fb) : DE X (.BoolOp .And (a :: b :: rest) pos) (eAndV fa fb) :=
  (pe_and ha hb).imp fun σ H Q ⟨Z, env, ρ, B, hp, d, hp', S, e, k⟩ => by
    obtain ⟨x, hp1, e1, e2⟩ := bind_some e
    obtain ⟨c, hp2, e3, e4⟩ := bind_some e2
    obtain ⟨rfl, rfl⟩ := asB_some e3
    refine tD.run S e1 fun v ρ1 B1 H1 g1 S1 r1 => ⟨c, r1.blI, ?_⟩
    cases c with
    | true => exact iteT (tD.run S1 e4 fun v ρ2 B2 H2 g2 S2 r2 => k v ρ2 B2 H2 (g1.trans g2) S2.wo r2)
    | false =>
      obtain ⟨rfl, rfl⟩ := pure_some e4
      exact iteF (k _ ρ1 B1 H1 g1 S1.wo rep_bl)
theorem de_not (ha : DE X a fa) : DE X (.UnaryOp .Not a pos) (eNotV fa) :=
  (pe_not ha).imp fun σ H Q ⟨Z, env, ρ, B, hp, d, hp', S, e, k⟩ => by
    obtain ⟨x, hp1, e1, e2⟩ := bind_some e
    obtain ⟨c, hp2, e3, e4⟩ := bind_some e2
    obtain ⟨rfl, rfl⟩ := asB_some e3
    obtain ⟨rfl, rfl⟩ := pure_some e4
    exact tD.run S e1 fun v ρ1 B1 H1 g1 S1 r1 => ⟨c, r1.blI, k _ ρ1 B1 H1 g1 S1.wo rep_bl⟩
theorem de_if (hc : DT X c ca) (ha : DE X a fa) (hb : DE X b fb) : DE X (.IfExp c a b pos) (eIf ca fa fb) :=
  (pe_ifExp hc ha hb).imp fun σ H Q ⟨Z, env, ρ, B, hp, d, hp', S, e, k⟩ => by
    obtain ⟨x, hp1, e1, e2⟩ := bind_some e
    refine tDT.run S e1 fun ρ1 B1 H1 g1 S1 => ?_
    cases x with
    | true => exact iteT (tD.run S1 e2 fun v ρ2 B2 H2 g2 S2 r2 => k v ρ2 B2 H2 (g1.trans g2) S2.wo r2)
    | false => exact iteF (tD.run S1 e2 fun v ρ2 B2 H2 g2 S2 r2 => k v ρ2 B2 H2 (g1.trans g2) S2.wo r2)
def aNil : DAx := fun _ => pure []
def aCons (f : DEx) (g : DAx) : DAx := fun env => do let x ← f env; let xs ← g env; pure (x :: xs)
theorem tDA.run {K : PySem.W.Frag} {f : DAx} {Z : Ent} {env : En} {σ : St} {ρ : List Addr} {B : Addr → Prop} {hp hp1 : Hs} {H : Hp} {ds : List DV} {Q : List V → Hp → Prop} (S : SOk K Z env σ ρ B hp H) (e : f env hp = some (ds, hp1))
    (k : ∀ vs ρ' B' H', Gr K ρ B H ρ' B' H' → SOk K Z env σ ρ' B' hp1 H' → RepL K ρ' B' H' ds vs → Q vs H') : tDA K f σ H Q :=
  ⟨Z, env, ρ, B, hp, ds, hp1, S, e, fun vs ρ' B' H' g W r => k vs ρ' B' H' g (S.grow g W) r⟩
theorem da_nil : DA X [] aNil := pa_nil.imp fun σ H Q ⟨Z, env, ρ, B, hp, ds, hp', S, e, k⟩ => by
  obtain ⟨rfl, rfl⟩ := pure_some e
  exact k [] ρ B H Gr.refl S.wo RepL.nil
theorem da_cons {e : Expr} {es : List Expr} {f : DEx} {g : DAx} (ha : DE X e f) (hr : DA X es g) (hs : starEach (e :: es) X.env = (false, eval e X.env) :: starEach es X.env := by rfl) : DA X (e :: es) (aCons f g) :=
  (pa_cons ha hr hs).imp fun σ H Q ⟨Z, env, ρ, B, hp, ds, hp', S, e, k⟩ => by
    obtain ⟨x, hp1, e1, e2⟩ := bind_some e
    obtain ⟨xs, hp2, e3, e4⟩ := bind_some e2
    obtain ⟨rfl, rfl⟩ := pure_some e4
    exact tD.run S e1 fun v ρ1 B1 H1 g1 S1 r1 => tDA.run S1 e3 fun vs ρ2 B2 H2 g2 S2 r2 => k _ ρ2 B2 H2 (g1.trans g2) S2.wo (RepL.cons (RepV.grow S1.wo.rb g2 _ _ r1) r2)
def lim : Nat := 100000
theorem lim_le : lim ≤ sizeLine := by decide
def guardM (c : Bool) : M Unit := if c then pure () else failure
theorem guardM_some {c : Bool} {hp hp' : Hs} {u : Unit} (h : guardM c hp = some (u, hp')) : c = true ∧ hp = hp' := by
  cases c with
  | true => obtain ⟨_, rfl⟩ := pure_some (show (pure () : M Unit) hp = some (u, hp') from h); exact ⟨rfl, rfl⟩
  | false => cases h
def short (ds : List DV) : Bool := decide (ds.length ≤ lim)
theorem short_ok {ds : List DV} (h : short ds = true) : ds.length ≤ sizeLine := Nat.le_trans (of_decide_eq_true h) lim_le
def eTup (f : DAx) : DEx := fun env => do let xs ← f env; guardM (short xs); pure (.tup xs)
def eLst (f : DAx) : DEx := fun env => do let xs ← f env; guardM (short xs); pure (.lst xs)
theorem fol_tup {K : PySem.W.Frag} {ρ : List Addr} {B : Addr → Prop} {H : Hp} {hp : Hs} {ds : List DV} {xs : List V} {Q : VK} (W : WOk K ρ B hp H) (r : RepL K ρ B H ds xs) (k : Fol K ρ B H (.tup ds) hp Q) : ∀ p, H p = none → Q (.ref p) (upd H p (.tup xs)) := fun p hp' =>
  k _ ρ B _ (Gr.laid hp') (W.laid hp') (rep_tup (fun z => W.bt p z hp') (SqT.of upd_same) (RepL.grow W.rb (Gr.laid hp') _ _ r))
theorem fol_lst {K : PySem.W.Frag} {ρ : List Addr} {B : Addr → Prop} {H : Hp} {hp : Hs} {ds : List DV} {xs : List V} {Q : VK} (W : WOk K ρ B hp H) (r : RepL K ρ B H ds xs) (k : Fol K ρ B H (.lst ds) hp Q) : ∀ p, H p = none → Q (.ref p) (upd H p (.lst xs)) := fun p hp' =>
  k _ ρ B _ (Gr.laid hp') (W.laid hp') (rep_lst (fun z => W.bt p z hp') (SqL.of upd_same) (RepL.grow W.rb (Gr.laid hp') _ _ r))
theorem Fol.after {K : PySem.W.Frag} {ρ ρ1 : List Addr} {B B1 : Addr → Prop} {H H1 : Hp} {hp' : Hs} {d : DV} {Q : VK} (g : Gr K ρ B H ρ1 B1 H1) (k : Fol K ρ B H d hp' Q) : Fol K ρ1 B1 H1 d hp' Q := fun v ρ' B' H' g' W r => k v ρ' B' H' (g.trans g') W r
theorem de_tup {es : List Expr} {f : DAx} {x1} (h : DA X es f) : DE X (.Tuple es x1 pos) (eTup f) :=
  (pe_tup h).imp fun σ H Q ⟨Z, env, ρ, B, hp, d, hp', S, e, k⟩ => by
    obtain ⟨xs, hp1, e1, e2⟩ := bind_some e
    obtain ⟨_, hp2, e3, e4⟩ := bind_some e2
    obtain ⟨hs, rfl⟩ := guardM_some e3
    obtain ⟨rfl, rfl⟩ := pure_some e4
    exact tDA.run S e1 fun vs ρ1 B1 H1 g1 S1 r1 => ⟨by rw [← r1.length]; exact short_ok hs, fol_tup S1.wo r1 (k.after g1)⟩
theorem de_lst {es : List Expr} {f : DAx} (h : DA X es f) : DE X (.List es pos) (eLst f) :=
  (pe_lst h).imp fun σ H Q ⟨Z, env, ρ, B, hp, d, hp', S, e, k⟩ => by
    obtain ⟨xs, hp1, e1, e2⟩ := bind_some e
    obtain ⟨_, hp2, e3, e4⟩ := bind_some e2
    obtain ⟨hs, rfl⟩ := guardM_some e3
    obtain ⟨rfl, rfl⟩ := pure_some e4
    exact tDA.run S e1 fun vs ρ1 B1 H1 g1 S1 r1 => ⟨by rw [← r1.length]; exact short_ok hs, fol_lst S1.wo r1 (k.after g1)⟩
end
end D
namespace L2
open PySem PySem.Spec PyProof.Rows
def cxComp (X : Cx) (scope : Scope) (cl : List (Str × Addr)) (C : Addr) (N : List Str) (s₀ : Shared) (H₀ : Hp) (ex : List Addr) : Cx where
  prog := X.prog
  w := X.w
  K := X.K
  mg := X.mg
  base := X.base
  A := X.A
  N := N
  s₀ := s₀
  H₀ := H₀
  env := compEnvC scope cl C X.env
  outer := X.stack
  stack := X.stack
  ex := ex
  fn := fun _ => false
  calm := X.calm
  pn := []
  xe := fun _ _ => False
def AllP {α : Type} (P : α → Prop) : List α → Prop
  | [] => True
  | x :: r => P x ∧ AllP P r
theorem AllP.mem {α : Type} {P : α → Prop} : ∀ {l : List α} {x : α}, AllP P l → x ∈ l → P x
  | [], _, _, h => nomatch h
  | y :: r, x, ⟨h1, h2⟩, h => (List.mem_cons.mp h).elim (fun e => e ▸ h1) fun e => AllP.mem h2 e
def Caps (X : Cx) (scope : Scope) (cl : List (Str × Addr)) : List Str → List Nat → Prop
  | [], [] => True
  | y :: ys, i :: is => X.N[i]? = some y ∧ (X.env.kindOf y = some .cell ∨ X.env.kindOf y = some .free) ∧ (∃ c, cl.lookup y = some c) ∧
      (relabel scope X.env).names.lookup y ≠ some .local ∧ Caps X scope cl ys is
  | _, _ => False
theorem Caps.get {X : Cx} {scope : Scope} {cl : List (Str × Addr)} : ∀ {ys : List Str} {is : List Nat} {j : Nat} {y : Str}, Caps X scope cl ys is → ys[j]? = some y →
    ∃ i, is[j]? = some i ∧ X.N[i]? = some y ∧ (X.env.kindOf y = some .cell ∨ X.env.kindOf y = some .free) ∧ (∃ c, cl.lookup y = some c) ∧ (relabel scope X.env).names.lookup y ≠ some .local
  | [], _, _, _, _, h => by simp at h
  | y :: ys, [], _, _, h, _ => by simp [Caps] at h
  | y :: ys, i :: is, 0, z, ⟨h1, h2, h3, h4, _⟩, h => by simp at h; subst h; exact ⟨i, rfl, h1, h2, h3, h4⟩
  | y :: ys, i :: is, j + 1, z, ⟨_, _, _, _, h5⟩, h => by
    obtain ⟨k, a, b⟩ := Caps.get h5 (by simpa using h)
    exact ⟨k, by simpa using a, b⟩
theorem Caps.length {X : Cx} {scope : Scope} {cl : List (Str × Addr)} : ∀ {ys : List Str} {is : List Nat}, Caps X scope cl ys is → ys.length = is.length
  | [], [], _ => rfl
  | [], _ :: _, h => by simp [Caps] at h
  | _ :: _, [], h => by simp [Caps] at h
  | _ :: ys, _ :: is, ⟨_, _, _, _, h⟩ => by simp [Caps.length h]
structure CompS (X : Cx) (x : Str) (scope : Scope) (cl : List (Str × Addr)) (caps : List Str) (idx : List Nat) : Prop where
  clos : closureFor scope X.env = pure cl
  cell : ∀ y ∈ scope.names, y.2 ≠ .cell
  kind : scope.kind = .function
  names : ∀ y ∈ scope.names, y.2 = .local → scope.names.lookup y.1 = some .local
  hx : scope.names.lookup x = some .local
  cls : AllP (fun p : Str × Addr => X.env.cells.lookup p.1 = some p.2) cl
  has : ((relabel scope X.env).names.all fun p => !(p.2 == .cell || p.2 == .free) || (cl.lookup p.1).isSome) = true
  cps : Caps X scope cl caps idx
  nd : (x :: caps).Nodup
def cσ (idx : List Nat) (σ : St) (o : Option V) : St := o :: idx.map fun i => (σ[i]?).join
def PTs (X : Cx) (ifs : List Expr) (t : TT) : Prop :=
  ∀ (pins : List (Addr × Obj)) (s : Shared) (σ : St) (H : Hp) (Q : Bool → Hp → Prop), Inv X pins σ H s → t σ H Q →
    wpAny (model X.prog X.w) X.A (forIn ifs true fun c r => if r = true then do let ok ← isTrue c X.env (eval c X.env); pure (ForInStep.yield ok) else pure (ForInStep.yield r)) (TP X pins σ Q) X.xe s
theorem pts_nil {X : Cx} : PTs X [] (fun _ H Q => Q true H) := fun pins s σ H Q I h => wpAny_tests_nil ⟨H, I, h⟩
theorem pts_one {X : Cx} {c : Expr} {t : TT} (h : PT X c t) : PTs X [c] t := fun pins s σ H Q I q => wpAny_tests_one (h pins s σ H Q I q)
section
variable {prog : Program} {w : World} {A : Around} {R : Result → Shared → Prop} {s : Shared}
theorem compLoop_any {elt target iter : Expr} {ifs : List Expr} {scope : Scope} {pos : Pos} {it acc : Value} {env : Env} (I : Nat → Shared → Prop)
    (turn : ∀ n s, I n s → wpAny (model prog w) A (pyNext it) (fun r s₁ => match r with
      | none => R (.ok .next) s₁
      | some v => wpAny (model prog w) A (letOwnedTupleGo target it v) (fun _ s₁' => wpAny (model prog w) A (assign target env v) (fun _ s₂ =>
          wpAny (model prog w) A (forIn ifs true fun c r => if r = true then do let ok ← isTrue c env (eval c env); pure (ForInStep.yield ok) else pure (ForInStep.yield r)) (fun ok s₃ =>
            if ok = true then wpAny (model prog w) A (eval elt env) (fun x s₄ =>
              wpAny (model prog w) A (call (.builtin "list.append") [acc, x]) (fun _ s₅ => ∃ m, m < n ∧ I m s₅) (fun _ _ => False) s₄) (fun _ _ => False) s₃
            else ∃ m, m < n ∧ I m s₃) (fun _ _ => False) s₂) (fun _ _ => False) s₁') (fun _ _ => False) s₁) (fun _ _ => False) s)
    (n : Nat) (h : I n s) :
    codeAny (model prog w) A (.compLoop (.ListComp elt [⟨target, iter, ifs, 0⟩] scope pos) 0 it acc env) R s := by
  refine codeAny_loop rfl I (fun n s hI => ?_) n h
  show wpAny _ A ((compTurn (.ListComp elt [⟨target, iter, ifs, 0⟩] scope pos) 0 it acc env).onRaise (fun x => do noteFrame x env; theTreesLotGoes x)) _ _ s
  refine wpAny_noted ?_
  rw [compTurn_list]
  refine wpAny_bind (wpAny_standAt (wpAny_bind (wpAny_mono (turn n s hI) (fun r s₁ h₁ => ?_) fun _ _ h' => h'.elim)))
  cases r with
  | none => exact wpAny_pure h₁
  | some v =>
    refine wpAny_bind (wpAny_mono h₁ (fun _ s₁' h₁' => ?_) fun _ _ h' => h'.elim)
    refine wpAny_bind (wpAny_mono h₁' (fun _ s₂ h₂ => wpAny_bind (wpAny_mono h₂ (fun ok s₃ h₃ => ?_) fun _ _ h' => h'.elim)) fun _ _ h' => h'.elim)
    cases ok with
    | false => exact wpAny_pure ⟨rfl, h₃⟩
    | true =>
      exact wpAny_bind (wpAny_bind (wpAny_mono h₃ (fun x s₄ h₄ => wpAny_bind (wpAny_mono h₄ (fun _ s₅ h₅ => wpAny_pure (wpAny_pure ⟨rfl, h₅⟩)) fun _ _ h' => h'.elim)) fun _ _ h' => h'.elim))
end
def tComp (K : PySem.W.Frag) (wi : TI) (tt : TT) (te : TE) (idx : List Nat) : TE := fun σ H Q => wi σ H fun J H1 => ∀ D, H1 D = none → K.lookup D = none → ∃ W : Nat → Nat → List V → Hp → Prop, (∃ m, W 0 m [] (upd H1 D (.lst []))) ∧
  ∀ i m ys H, W i m ys H → H D = some (.lst ys) ∧ ((J.stop i H ∧ Q (.ref D) H) ∨ (J.go i H ∧ ∀ x H', J.yld i H x H' → tt (cσ idx σ (some x)) H' fun b H2 =>
    if b = true then te (cσ idx σ (some x)) H2 fun y H3 => H3 D = some (.lst ys) ∧ ys.length < sizeLine ∧ ∃ m', m' < m ∧ W (i + 1) m' (ys ++ [y]) (upd H3 D (.lst (ys ++ [y])))
    else ∃ m', m' < m ∧ W (i + 1) m' ys H2))
section
variable {X : Cx} {elt iter : Expr} {x : Str} {px : Pos} {ifs : List Expr} {scope : Scope} {cl : List (Str × Addr)} {pos : Pos} {caps : List Str} {idx : List Nat} {wi : TI} {tt : TT} {te : TE}
theorem comp_run {E : Value → Shared → Prop} {use : Option (Value → Sem Unit)} {QQ : Value → Shared → Prop} {newpos : Pos} (S : CompS X x scope cl caps idx) (hc : X.calm = true) (hi : PI X (.Name x px) iter wi)
    (ht : ∀ C s₀ H₀ ex, PTs (cxComp X scope cl C (x :: caps) s₀ H₀ ex) ifs tt) (he : ∀ C s₀ H₀ ex, PE (cxComp X scope cl C (x :: caps) s₀ H₀ ex) elt te)
    {pins : List (Addr × Obj)} {s : Shared} {σ : St} {H : Hp} {Q : VK} (I : Inv X pins σ H s) (h : tComp X.K wi tt te idx σ H Q)
    (hE : X.xe = E)
    (hend : ∀ (D C : Addr) (H' : Hp) (s' : Shared) (m : Str → Option Value), Inv X pins σ H' s' → Q (.ref D) H' → s'.heap.Ns C m → H' C = none → C ≠ X.env.locals → X.s₀.heap.objs.size ≤ C → (∀ x c, X.env.cells.lookup x = some c → c ≠ C) → (∀ p ∈ X.pn ++ pins, p.1 ≠ C) →
      compPost (model X.prog X.w) X.A E use QQ (.ref D) C (.ok .next) s')
    (hs : ∀ x, foldedSetIterable iter X.env x = pure x := by intro _; rfl) :
    wpAny (model X.prog X.w) X.A (comprehension (.ListComp elt [⟨.Name x px, iter, ifs, 0⟩] scope pos) scope X.env newpos (newList []) false (eval iter X.env) use) QQ E s := by
  subst hE
  refine wpAny_comprehension_free (use := use) rfl hs S.clos S.kind S.names (thn (hi pins s σ H _ I h) fun xv s1 h1 => thn h1 fun itv s2 h2 => ?_)
  obtain ⟨it, fp, tn, J, H2, rfl, I2, T, st2, f2, hQ⟩ := h2
  refine wpAny_newObj_type (wpAny_newFunctionEnv S.cell (by intro y hy; simp at hy) (fun h₁ hns₁ hsb₁ => ?_) S.kind)
  dsimp only at hns₁ hsb₁ ⊢
  generalize hH2 : s2.heap.push { cls := .type "list", dict := none, data := .seq ([] : List Value).toArray } = hp3 at hns₁ hsb₁ ⊢
  have hC : hp3.objs.size = s2.heap.objs.size + 1 := by rw [← hH2, Heap.size_push]
  have keep3 : ∀ b o, s2.heap.get? b = some o → hp3.get? b = some o := fun b o e => hH2 ▸ Heap.get?_push_of_some _ e
  have hDf : H2 s2.heap.objs.size = none := I2.hok.fresh (Nat.le_refl _)
  have I3 : Inv X pins σ (upd H2 s2.heap.objs.size (.lst [])) { s2 with heap := hp3 } :=
    I2.laid (t' := s2.toks) keep3 (Nat.le_refl _) ⟨Nat.zero_le _, [], _, .nil, hH2 ▸ Heap.get?_push_size _ rfl⟩
  have hDk : X.K.lookup s2.heap.objs.size = none := by
    cases q : X.K.lookup s2.heap.objs.size with
    | none => rfl
    | some o => exact absurd (Heap.lt_size (I2.kIn _ o q)) (Nat.lt_irrefl _)
  obtain ⟨W, ⟨m0, w0⟩, turn⟩ := hQ _ hDf hDk
  generalize hDd : s2.heap.objs.size = D at *
  generalize hCc : hp3.objs.size = C at *
  have ltC : ∀ b o, hp3.get? b = some o → b ≠ C := fun b o e => by rw [← hCc]; exact Nat.ne_of_lt (Heap.lt_size e)
  have keep4 : ∀ b o, hp3.get? b = some o → h₁.get? b = some o := fun b o e => hsb₁.extBut b o (ltC b o e) (Heap.get?_push_of_some _ e)
  have s3sz : ({ s2 with heap := hp3 } : Shared).heap.objs.size = C := hCc
  have clE : ∀ y c, cl.lookup y = some c → X.env.cells.lookup y = some c := fun y c e => S.cls.mem (PySem.mem_of_lookup e)
  have fpLt : ∀ b ∈ fp, ∃ o, s2.heap.get? b = some o := fun b hb => let ⟨o, e, _⟩ := T.obj _ _ st2 b hb; ⟨o, e⟩
  have fpC : ∀ b ∈ fp, b ≠ C := fun b hb => let ⟨o, e⟩ := fpLt b hb; ltC b o (keep3 b o e)
  have fpD : ∀ b ∈ fp, b ≠ D := fun b hb => let ⟨o, e⟩ := fpLt b hb; by rw [← hDd]; exact Nat.ne_of_lt (Heap.lt_size e)
  have fr3 : ∀ b ∈ fp, (upd H2 D (.lst [])) b = none := fun b hb => by rw [upd_ne (fpD b hb)]; exact (f2 b hb).1
  have cellLt : ∀ y c, X.env.cells.lookup y = some c → c ≠ C := fun y c e => let ⟨v, o, ho, _⟩ := I3.cell y c e; ltC c o ho
  have fpStk : ∀ b ∈ fp, b ∉ frs X.stack := fun b hb z => (List.mem_cons.mp (I2.stkSub b z)).elim (f2 b hb).2.1 (f2 b hb).2.2.1
  let X' := cxComp X scope cl C (x :: caps) { s2 with heap := hp3 } (upd H2 D (.lst [])) fp
  have ok' : X'.Ok := by
    refine ⟨I3.ok.mod, by show (relabel scope X.env).kind = _; exact S.kind, I3.ok.glob, I3.ok.blt, by show hp3.objs.size ≤ C; rw [hCc]; exact Nat.le_refl _, fun y z c h1 h2 => I3.ok.inj y z c (clE y c h1) (clE z c h2), fun y hy => ?_,
      fun y c z => (by cases z), I3.ok.hd, I3.ok.frames, .inl rfl, fun b hb => ⟨fpC b hb, fun y c e => (f2 b hb).2.2.2.2.1 y c (clE y c e)⟩, I3.bs, Nat.le_trans I3.ok.bsz I3.sz,
      fun b o e hb => ?_, fun b hb => fpStk b hb, I3.stack, I3.stkFree⟩
    · have hy' : (relabel scope X.env).names.lookup y = some .cell ∨ (relabel scope X.env).names.lookup y = some .free := hy
      have q := S.has
      rw [List.all_eq_true] at q
      have : (cl.lookup y).isSome = true := by
        rcases hy' with z | z
        · have q := q _ (PySem.mem_of_lookup z); simpa using q
        · have q := q _ (PySem.mem_of_lookup z); simpa using q
      exact Option.isSome_iff_exists.mp this
    · have := (f2 b hb).2.2.2.1
      have e3 := (I2.ok.bs b o e).1
      rcases this with z | z
      · exact I2.ok.noex b o e z
      · exact absurd (Nat.lt_of_lt_of_le (Heap.lt_size e3) z) (Nat.lt_irrefl _)
  have capsLen := S.cps.length
  have I4 : Inv X' [] (cσ idx σ none) (upd H2 D (.lst [])) { s2 with heap := h₁, toks := s2.toks + ([] : List (Str × Value)).length } := by
    refine ⟨ok', rfl, I3.bare, Un.kept keep4, ⟨_, hns₁, fun i y v e1 e2 e3 => ?_⟩, fun y c e => ?_, ?_, fun y c e => I3.freeC y c (clE y c e), fun p hp => absurd (show p ∈ ([] : List (Addr × Obj)) from hp) (by simp), I3.hok.kept keep4, ?_⟩
    · cases i with
      | zero => exact absurd e2 (by simp [cσ])
      | succ j =>
        obtain ⟨k, h1, h2, h3, ⟨c, h4⟩, h5⟩ := S.cps.get (show caps[j]? = some y by have e1' : (x :: caps)[j + 1]? = some y := e1; simpa using e1')
        have e2' : (σ[k]?).join = some v := by simpa [cσ, h1] using e2
        have e2'' : σ[k]? = some (some v) := by
          cases q : σ[k]? with
          | none => rw [q] at e2'; cases e2'
          | some z => rw [q] at e2'; exact congrArg some e2'
        obtain ⟨mL, hnL, hl⟩ := I3.loc
        have vis : Vis X.env.scope y := by rcases h3 with z | z; exact .inr (.inl z); exact .inr (.inr z)
        obtain ⟨u, r, l⟩ := hl k y v h2 e2'' vis
        refine ⟨u, r, .inr ⟨?_, c, h4, ?_⟩⟩
        · have e3' : (relabel scope X.env).names.lookup y = some .local ∨ (relabel scope X.env).names.lookup y = some .cell ∨ (relabel scope X.env).names.lookup y = some .free := e3
          rcases e3' with z | z | z
          · exact absurd z h5
          · exact .inl z
          · exact .inr z
        · rcases l with ⟨z, _⟩ | ⟨_, c', e, z⟩
          · rcases h3 with q | q <;> · rw [q] at z; cases z
          · rw [clE y c h4] at e; cases e
            obtain ⟨o, ho, hd⟩ := z
            exact ⟨o, keep4 _ _ ho, hd⟩
    · obtain ⟨v, o, ho, hd⟩ := I3.cell y c (clE y c e)
      exact ⟨v, o, keep4 _ _ ho, hd⟩
    · exact I3.hok.fresh (by show hp3.objs.size ≤ C; rw [hCc]; exact Nat.le_refl _)
    · simp [cσ, X', cxComp, capsLen]
  have st4 : tn 0 h₁ := T.keep _ _ _ st2 fun b _ o e => keep4 b o (keep3 b o e)
  have fpX : ∀ {H' : Hp} {pins' : List (Addr × Obj)}, (∀ b ∈ fp, H' b = none) → (pins' = []) → ∀ b ∈ fp, FpOk X' pins' H' b := fun hn e b hb => by
    subst e
    exact ⟨hn b hb, fpC b hb, fpStk b hb, .inl hb, fun y c e => (f2 b hb).2.2.2.2.1 y c (clE y c e), fun p hp => absurd (show p ∈ ([] : List (Addr × Obj)) from hp) (by simp)⟩
  have loop : ∀ s₃ : Shared, s₃ = { s2 with heap := h₁, toks := s2.toks + ([] : List (Str × Value)).length } →
      codeAny (model X.prog X.w) X.A (.compLoop (.ListComp elt [⟨.Name x px, iter, ifs, 0⟩] scope pos) 0 (.ref it) (.ref D) (compEnvC scope cl C X.env)) (compPost (model X.prog X.w) X.A X.xe use QQ (.ref D) C) s₃ := by
    rintro s₃ rfl
    refine compLoop_any (fun n s' => ∃ i o H' ys, Inv X' [] (cσ idx σ o) H' s' ∧ tn i s'.heap ∧ (∀ b ∈ fp, H' b = none) ∧ W i n ys H') ?_ m0 ⟨0, none, _, [], I4, st4, fr3, w0⟩
    rintro n s5 ⟨i, o, H5, ys, I5, st5, fr5, w5⟩
    obtain ⟨hD, tw⟩ := turn i n ys H5 w5
    rcases tw with ⟨stop, q⟩ | ⟨go, step⟩
    · refine thn (T.done X' rfl rfl rfl hc i [] s5 _ H5 _ I5 (fpX fr5 rfl) st5 stop) fun r s6 ⟨hr, I6⟩ => ?_
      subst hr
      obtain ⟨m6, hn6, _⟩ := I6.loc
      have I7 : Inv X pins σ H5 s6 := I3.call' (s' := s6) (ch := fp) I6.os I6.base I6.hok I6.bare fun b hb => ⟨(f2 b hb).2.2.2.1, (f2 b hb).2.1, (f2 b hb).2.2.2.2.1, (f2 b hb).2.2.2.2.2⟩
      refine hend D C H5 s6 m6 I7 q hn6 I6.free ?_ ?_ cellLt fun p hp => ?_
      · rw [← hCc]; exact Nat.ne_of_gt I3.lt
      · rw [← hCc]; exact I3.sz
      · exact ltC p.1 p.2 (I3.pin p hp).1
    · refine thn (T.item X' rfl rfl rfl hc i [] s5 _ H5 _ I5 (fpX fr5 rfl) st5 go) fun r s6 ⟨u, hr, h6⟩ => ?_
      subst hr
      refine thn h6 fun _ s7 ⟨y, H7, I7, r7, y7, st7, fr7⟩ => ?_
      have I7' := I7.pinned (fpX fr7 rfl) (T.obj _ _ st7)
      refine thn (pg_name (X := X') (i := 0) S.nd rfl (.inl (lookup_relabel_local S.hx)) (.inr (lookup_relabel_local S.hx)) _ s7 _ H7 y u (fun σ' H' => σ' = cσ idx σ (some y) ∧ H' = H7) I7' r7 ⟨rfl, rfl⟩) fun _ s8 ⟨σ8, H8, I8, e8, e8'⟩ => ?_
      subst e8
      subst e8'
      have again : ∀ {H9 : Hp} {s9 : Shared} {ys' : List V}, Inv X' ([] ++ pinsAt fp s7.heap) (cσ idx σ (some y)) H9 s9 → (∃ m', m' < n ∧ W (i + 1) m' ys' H9) →
          ∃ m, m < n ∧ ∃ i o H' ys, Inv X' [] (cσ idx σ o) H' s9 ∧ tn i s9.heap ∧ (∀ b ∈ fp, H' b = none) ∧ W i m ys H' := fun {H9 s9 ys'} I9 ⟨m', hm, w9⟩ => by
        refine ⟨m', hm, i + 1, some y, H9, ys', I9.unpinned, T.keep _ _ _ st7 fun b hb o e => (I9.pin (b, o) (List.mem_append_right _ (List.mem_append_right _ (mem_pinsAt hb e)))).1, fun b hb => ?_, w9⟩
        obtain ⟨o, e, d⟩ := T.obj _ _ st7 b hb
        exact (I9.pin (b, o) (List.mem_append_right _ (List.mem_append_right _ (mem_pinsAt hb e)))).2.1
      refine thn (ht _ _ _ _ _ s8 _ H8 _ I8 (step y H8 y7)) fun ok s9 ⟨H9, I9, q9⟩ => ?_
      cases ok with
      | false => exact again I9 (by rw [if_neg Bool.false_ne_true] at q9; exact q9)
      | true =>
        rw [if_pos rfl] at q9 ⊢
        refine thn (he _ _ _ _ _ s9 _ H9 _ I9 q9) fun v s10 ⟨z, H10, I10, r10, hD10, hlen, m', hm, w10⟩ => ?_
        refine thn (mt_append (X := X') _ s10 _ H10 (.ref D) [z] (.ref D) [v] (fun _ H' => H' = upd H10 D (.lst (ys ++ [z]))) I10 rfl (.cons r10 .nil) ⟨D, ys, z, rfl, rfl, hD10, hlen, rfl⟩) fun _ s11 ⟨_, H11, I11, _, e11⟩ => ?_
        subst e11
        exact again I11 ⟨m', hm, w10⟩
  exact codeAny_compStart_list (loop _ rfl) (T.self X.A 0 _ _ _ st4 (loop _ rfl))
end
end L2
namespace L2
open PySem PySem.Spec PyProof.Rows
section
variable {X : Cx} {elt iter : Expr} {x : Str} {px : Pos} {ifs : List Expr} {scope : Scope} {cl : List (Str × Addr)} {pos : Pos} {caps : List Str} {idx : List Nat} {wi : TI} {tt : TT} {te : TE}
theorem pe_comp (S : CompS X x scope cl caps idx) (hc : X.calm = true) (hi : PI X (.Name x px) iter wi)
    (ht : ∀ C s₀ H₀ ex, PTs (cxComp X scope cl C (x :: caps) s₀ H₀ ex) ifs tt) (he : ∀ C s₀ H₀ ex, PE (cxComp X scope cl C (x :: caps) s₀ H₀ ex) elt te)
    (hs : ∀ x, foldedSetIterable iter X.env x = pure x := by intro _; rfl) : PE X (.ListComp elt [⟨.Name x px, iter, ifs, 0⟩] scope pos) (tComp X.K wi tt te idx) := by
  intro pins s σ H Q I h
  rw [eval_ListComp]
  refine comp_run (use := none) S hc hi ht he I h rfl (fun D C H' s' m I' q hn hC h1 h2 h3 h4 => ?_) hs
  show ∃ m, s'.heap.Ns C m ∧ ∀ h', Heap.SameBut C s'.heap h' → EP X pins σ Q (.ref D) { s' with heap := h' }
  exact ⟨m, hn, fun h' hs => ⟨.ref D, H', I'.turned (t' := s'.toks) (fun b o hb e => hs.extBut b o hb e) hC (Ne.symm (Ne.symm h1)) (.inr h2) h3 h4, rfl, q⟩⟩
theorem ps_comp {i : Nat} {y : Str} {py spos : Pos} (S : CompS X x scope cl caps idx) (hc : X.calm = true) (hi : PI X (.Name x px) iter wi)
    (ht : ∀ C s₀ H₀ ex, PTs (cxComp X scope cl C (x :: caps) s₀ H₀ ex) ifs tt) (he : ∀ C s₀ H₀ ex, PE (cxComp X scope cl C (x :: caps) s₀ H₀ ex) elt te)
    (hN : X.N.Nodup) (hy : X.N[i]? = some y) (hx : Loc X.env.scope y) (hsw : swapsWith (.ListComp elt [⟨.Name x px, iter, ifs, 0⟩] scope pos) (some (.Name y py)) spos.line X.env = pure true)
    (hf : X.fn y = true ∨ X.env.scope.names.lookup y = some .local := by first | exact .inl rfl | exact .inr rfl | assumption)
    (hs : ∀ x, foldedSetIterable iter X.env x = pure x := by intro _; rfl) : PS X (.Assign [.Name y py] (.ListComp elt [⟨.Name x px, iter, ifs, 0⟩] scope pos) spos) (tAsg (tComp X.K wi tt te idx) (gName i)) := by
  intro pins s σ H D I h
  rw [exec_Assign_Name_used _ _ _ _ hsw]
  refine wpAny_bind (wpAny_standAt (wpAny_bind ?_))
  show wpAny _ X.A (do let _ ← comprehension (.ListComp elt [⟨.Name x px, iter, ifs, 0⟩] scope pos) scope X.env _ (newList []) false (eval iter X.env) (some (assign (.Name y py) X.env))) _ _ s
  refine wpAny_bind (wpAny_mono (comp_run (use := some (assign (.Name y py) X.env)) (QQ := fun _ s' => SP X pins D .next s') S hc hi ht he I h rfl (fun Da C H' s' m I' q hn hC h1 h2 h3 h4 => ?_) hs) (fun _ s' hq => wpAny_pure (wpAny_pure hq)) fun _ _ e => e)
  show wpAny _ X.A (assign (.Name y py) X.env (.ref Da)) (fun _ s'' => ∃ m, s''.heap.Ns C m ∧ ∀ h', Heap.SameBut C s''.heap h' → SP X pins D .next { s'' with heap := h' }) _ s'
  refine wpAny_assign_Name (store_ok2 I' hN hy hx (v := .ref Da) rfl (fun s'' I'' ⟨a, hs, ha⟩ => ?_) hf)
  refine ⟨m, hn.sameBut hs ?_, fun h' hs' => ⟨_, H', I''.turned (t' := s''.toks) (fun b o hb e => hs'.extBut b o hb e) hC h1 (.inr h2) h3 h4, q⟩⟩
  rcases ha with rfl | ha
  · exact h1
  · exact Ne.symm (h3 _ _ ha)
end
end L2
namespace D
open PySem PySem.Spec PyProof.Rows L2
section
variable {K : PySem.W.Frag} {Z : Ent} {env : En} {σ : St} {ρ ρ' : List Addr} {B B' : Addr → Prop} {hp hp' : Hs} {H H' : Hp}
theorem SOk.set {i : Nat} {d : DV} {v : V} (S : SOk K Z env σ ρ B hp H) (r : RepV K ρ B H d v) : SOk K Z (env.set i (.val d)) (σ.set i (some v)) ρ B hp H where
  gr := S.gr
  zb := S.zb
  wo := S.wo
  slot := fun j e h => by
    by_cases hj : j = i
    · subst hj
      have hl : j < env.length := by have := (List.getElem?_eq_some_iff.mp h).1; simpa using this
      rw [List.getElem?_set_self hl] at h; cases h
      exact ⟨v, List.getElem?_set_self (by rw [S.len]; exact hl), r⟩
    · rw [List.getElem?_set_ne (Ne.symm hj)] at h ⊢
      exact S.slot j e h
  accs := fun j ds h => by
    by_cases hj : j = i
    · subst hj
      have hl : j < env.length := by have := (List.getElem?_eq_some_iff.mp h).1; simpa using this
      rw [List.getElem?_set_self hl] at h; cases h
    · rw [List.getElem?_set_ne (Ne.symm hj)] at h ⊢
      exact S.accs j ds h
  adis := fun j k ds es a h1 h2 h3 h4 => by
    have nj : ∀ {j : Nat} {ds : List DV}, (env.set i (.val d))[j]? = some (.acc ds) → j ≠ i := fun {j ds} h e => by
      subst e
      have hl : j < env.length := by have := (List.getElem?_eq_some_iff.mp h).1; simpa using this
      rw [List.getElem?_set_self hl] at h; cases h
    have hj := nj h1
    have hk := nj h2
    rw [List.getElem?_set_ne (Ne.symm hj)] at h1 h3
    rw [List.getElem?_set_ne (Ne.symm hk)] at h2 h4
    exact S.adis j k ds es a h1 h2 h3 h4
  len := by simp [S.len]
end
section
variable {X : Cx} {e a b c : Expr} {f fa fb : DEx} {ca cb : DTx} {pos : Pos} {st : Stmt} {sts rest : List Stmt} {s s' : DSx}
theorem FolS.after {K : PySem.W.Frag} {Z : Ent} {ρ ρ1 : List Addr} {B B1 : Addr → Prop} {H H1 : Hp} {fl : Fl} {env' : En} {hp' : Hs} {D : Ends} (g : Gs K ρ B H ρ1 B1 H1) (k : FolS K Z ρ B H fl env' hp' D) : FolS K Z ρ1 B1 H1 fl env' hp' D :=
  fun σ' ρ' B' H' g' S => k σ' ρ' B' H' (g.trans g') S
def sNil : DSx := fun env => pure (.nx, env)
def sSeq (f g : DSx) : DSx := fun env => do
  let r ← f env
  match r.1 with
  | .nx => g r.2
  | _ => pure r
def sIf (c : DTx) (f g : DSx) : DSx := fun env => do if ← c env then f env else g env
def sRet (f : DEx) : DSx := fun env => do let d ← f env; pure (.rt d, env)
def sRetN : DSx := fun env => pure (.rt .non, env)
def sDrop (f : DEx) : DSx := fun env => do let _ ← f env; pure (.nx, env)
def sSet (i : Nat) (f : DEx) : DSx := fun env => do let d ← f env; pure (.nx, env.set i (.val d))
theorem dss_nil : DSs X [] sNil := pss_nil.imp fun D σ H ⟨Z, env, ρ, B, hp, fl, env', hp', S, e, k⟩ => by
  obtain ⟨e1, rfl⟩ := pure_some e
  cases e1
  exact k σ ρ B H Gs.refl S
theorem sSeq_imp {K : PySem.W.Frag} {D : Ends} {σ : St} {H : Hp} (h : tDS K (sSeq s s') D σ H) : tSeq (tDS K s) (tDS K s') D σ H := by
  obtain ⟨Z, env, ρ, B, hp, fl, env', hp', S, e, k⟩ := h
  obtain ⟨⟨f1, env1⟩, hp1, e1, e2⟩ := bind_some e
  refine ⟨Z, env, ρ, B, hp, f1, env1, hp1, S, e1, fun σ' ρ' B' H' g S' => ?_⟩
  cases f1 with
  | nx => exact ⟨Z, env1, ρ', B', hp1, fl, env', hp', S', e2, k.after g⟩
  | rt d => obtain ⟨z, rfl⟩ := pure_some e2; cases z; exact k σ' ρ' B' H' g S'
  | bk => obtain ⟨z, rfl⟩ := pure_some e2; cases z; exact k σ' ρ' B' H' g S'
  | ct => obtain ⟨z, rfl⟩ := pure_some e2; cases z; exact k σ' ρ' B' H' g S'
theorem dss_cons (h1 : DS X st s) (h2 : DSs X rest s') : DSs X (st :: rest) (sSeq s s') := (pss_cons h1 h2).imp fun _ _ _ h => sSeq_imp h
theorem dss_one (h1 : DS X st s) : DSs X [st] s := pss_one h1
theorem ds_if {x y : List Stmt} (hc : DT X c ca) (h1 : DSs X x s) (h2 : DSs X y s') : DS X (.If c x y pos) (sIf ca s s') :=
  (ps_if hc h1 h2).imp fun D σ H ⟨Z, env, ρ, B, hp, fl, env', hp', S, e, k⟩ => by
    obtain ⟨x, hp1, e1, e2⟩ := bind_some e
    refine tDT.run S e1 fun ρ1 B1 H1 g1 S1 => ?_
    cases x with
    | true => exact iteT ⟨Z, env, ρ1, B1, hp1, fl, env', hp', S1, e2, k.after (g1.gs S.wo.rb)⟩
    | false => exact iteF ⟨Z, env, ρ1, B1, hp1, fl, env', hp', S1, e2, k.after (g1.gs S.wo.rb)⟩
theorem ds_ret (h : DE X e f) : DS X (.Return (some e) pos) (sRet f) :=
  (ps_ret h).imp fun D σ H ⟨Z, env, ρ, B, hp, fl, env', hp', S, e, k⟩ => by
    obtain ⟨d, hp1, e1, e2⟩ := bind_some e
    obtain ⟨z, rfl⟩ := pure_some e2; cases z
    exact tD.run S e1 fun v ρ1 B1 H1 g1 S1 r1 => k σ ρ1 B1 H1 (g1.gs S.wo.rb) S1 v r1
theorem ds_expr (h : DE X e f) (hs : swapsWith e none pos.line X.env = pure false := by rfl) : DS X (.Expr e pos) (sDrop f) :=
  (ps_expr h hs).imp fun D σ H ⟨Z, env, ρ, B, hp, fl, env', hp', S, e, k⟩ => by
    obtain ⟨d, hp1, e1, e2⟩ := bind_some e
    obtain ⟨z, rfl⟩ := pure_some e2; cases z
    exact tD.run S e1 fun v ρ1 B1 H1 g1 S1 r1 => k σ ρ1 B1 H1 (g1.gs S.wo.rb) S1
theorem sSet_imp {K : PySem.W.Frag} {D : Ends} {σ : St} {H : Hp} {i : Nat} {t : TE} (ht : ∀ σ H Q, tD K f σ H Q → t σ H Q) (h : tDS K (sSet i f) D σ H) : tAsg t (gName i) D σ H := by
  obtain ⟨Z, env, ρ, B, hp, fl, env', hp', S, e, k⟩ := h
  obtain ⟨d, hp1, e1, e2⟩ := bind_some e
  obtain ⟨z, rfl⟩ := pure_some e2; cases z
  exact ht _ _ _ (tD.run S e1 fun v ρ1 B1 H1 g1 S1 r1 => k _ ρ1 B1 H1 (g1.gs S.wo.rb) (S1.set r1))
theorem ds_set (i : Nat) {x : Str} {pos' : Pos} (hN : X.N.Nodup) (he : DE X e f) (hi : X.N[i]? = some x := by rfl) (hx : Loc X.env.scope x := by first | exact Or.inl rfl | exact Or.inr rfl) (hs : swapsWith e (some (.Name x pos')) pos.line X.env = pure false := by rfl)
    (hf : X.fn x = true ∨ X.env.scope.names.lookup x = some .local := by first | exact .inl rfl | exact .inr rfl | assumption) : DS X (.Assign [.Name x pos'] e pos) (sSet i f) :=
  (ps_set hN hi hx he hs hf).imp fun _ _ _ h => sSet_imp (fun _ _ _ q => q) h
abbrev DGx := DV → En → M En
def tDG (K : PySem.W.Frag) (g : DGx) : TG := fun v σ H Q => ∃ Z env ρ B hp d env' hp', SOk K Z env σ ρ B hp H ∧ RepV K ρ B H d v ∧ g d env hp = some (env', hp') ∧ ∀ σ' ρ' B' H', Gs K ρ B H ρ' B' H' → SOk K Z env' σ' ρ' B' hp' H' → Q σ' H'
def gN (i : Nat) : DGx := fun d env => pure (env.set i (.val d))
theorem dg_name (i : Nat) {x : Str} (hN : X.N.Nodup) (hi : X.N[i]? = some x := by rfl) (hx : Loc X.env.scope x := by first | exact Or.inl rfl | exact Or.inr rfl) (hf : X.fn x = true ∨ X.env.scope.names.lookup x = some .local := by first | exact .inl rfl | exact .inr rfl | assumption) : PG X (.Name x pos) (tDG X.K (gN i)) := by
  intro pins s σ H v u Q I r h
  refine pg_name hN hi hx hf pins s σ H v u Q I r ?_
  obtain ⟨Z, env, ρ, B, hp, d, env', hp', S, rd, e, k⟩ := h
  obtain ⟨rfl, rfl⟩ := pure_some e
  exact k _ ρ B H Gs.refl (S.set rd)
def ItOk (K : PySem.W.Frag) (ρ : List Addr) (B : Addr → Prop) (H : Hp) (ds : List DV) (J : It) : Prop :=
  ∀ ρ1 B1 H1, Gs K ρ B H ρ1 B1 H1 → (∀ b ∈ ρ1, B1 b) → (∀ a, B1 a → H1 a ≠ none) → (∀ (i : Nat) (d : DV), ds[i]? = some d → J.go i H1 ∧ ∀ x H', J.yld i H1 x H' → RepV K ρ1 B1 H' d x ∧ (H' = H1 ∨ ∃ p o, H1 p = none ∧ H' = upd H1 p o)) ∧ J.stop ds.length H1
abbrev DIx := En → M (List DV)
def tDI (K : PySem.W.Frag) (f : DIx) : TI := fun σ H R => ∃ Z env ρ B hp ds hp', SOk K Z env σ ρ B hp H ∧ f env hp = some (ds, hp') ∧ ∀ J ρ' B' H', Gr K ρ B H ρ' B' H' → WOk K ρ' B' hp' H' → ItOk K ρ' B' H' ds J → R J H'
def DI (X : Cx) (tg iter : Expr) (f : DIx) : Prop := PI X tg iter (tDI X.K f)
def tupD : DV → M (List DV)
  | .tup ds => pure ds
  | _ => failure
def iTp (f : DEx) : DIx := fun env => do tupD (← f env)
theorem tupD_some {d : DV} {ds : List DV} {hp hp' : Hs} (h : tupD d hp = some (ds, hp')) : d = .tup ds ∧ hp = hp' := by
  cases d with
  | tup xs => obtain ⟨rfl, rfl⟩ := pure_some h; exact ⟨rfl, rfl⟩
  | _ => cases h
theorem it_list {K : PySem.W.Frag} {ρ : List Addr} {B : Addr → Prop} {H : Hp} {ds : List DV} {a : Addr} {xs : List V} (nb : ¬ B a) (sq : SqL K H a xs) (rl : RepL K ρ B H ds xs) : ItOk K ρ B H ds (Itl K a) := fun ρ1 B1 H1 g _ _ => by
  have sq1 := g.sqL nb sq
  have rl1 := RepL.gs g _ _ rl
  refine ⟨fun i d e => ?_, xs, sq1, by rw [rl1.length]; exact Nat.le_refl _⟩
  obtain ⟨x, hx, r⟩ := rl1.get e
  refine ⟨⟨xs, x, sq1, hx⟩, fun y H' ⟨e', q⟩ => ?_⟩
  subst e'
  have := q xs sq1
  rw [hx] at this; cases this
  exact ⟨r, .inl rfl⟩
theorem it_tup {K : PySem.W.Frag} {ρ : List Addr} {B : Addr → Prop} {H : Hp} {ds : List DV} {a : Addr} {xs : List V} (nb : ¬ B a) (sq : SqT K H a xs) (rl : RepL K ρ B H ds xs) : ItOk K ρ B H ds (Itt K a) := fun ρ1 B1 H1 g _ _ => by
  have sq1 := g.sqT nb sq
  have rl1 := RepL.gs g _ _ rl
  refine ⟨fun i d e => ?_, xs, sq1, by rw [rl1.length]; exact Nat.le_refl _⟩
  obtain ⟨x, hx, r⟩ := rl1.get e
  refine ⟨⟨xs, x, sq1, hx⟩, fun y H' ⟨e', q⟩ => ?_⟩
  subst e'
  have := q xs sq1
  rw [hx] at this; cases this
  exact ⟨r, .inl rfl⟩
def rangeL (lo : Int) (n : Nat) : List DV := (List.range n).map fun (i : Nat) => .int (lo + (i : Int))
theorem it_range {K : PySem.W.Frag} {ρ : List Addr} {B : Addr → Prop} {H : Hp} {lo : Int} {n : Nat} : ItOk K ρ B H (rangeL lo n) (Itr lo n) := fun ρ1 B1 H1 g _ _ => by
  refine ⟨fun i d e => ?_, by show n ≤ _; simp [rangeL]⟩
  have hi : i < n := by have := (List.getElem?_eq_some_iff.mp e).1; simpa [rangeL] using this
  refine ⟨hi, fun y H' ⟨e', q⟩ => ?_⟩
  subst e' q
  have : d = .int (lo + i) := by simp [rangeL, hi] at e; exact e.symm
  subst this
  exact ⟨rep_int, .inl rfl⟩
variable {tg iter : Expr}
theorem _root_.L2.PI.imp {wi wi' : TI} (h : PI X tg iter wi) (i : ∀ σ H R, wi' σ H R → wi σ H R) : PI X tg iter wi' := fun pins s σ H R I q => h pins s σ H R I (i σ H R q)
theorem di_tup (h : DE X iter f) : DI X tg iter (iTp f) := (pi_tup h).imp fun σ H R ⟨Z, env, ρ, B, hp, ds, hp', S, e, k⟩ => by
  obtain ⟨d, hp1, e1, e2⟩ := bind_some e
  obtain ⟨rfl, rfl⟩ := tupD_some e2
  refine tD.run S e1 fun v ρ1 B1 H1 g1 S1 r1 => ?_
  obtain ⟨a, xs, rfl, nb, sq, rl⟩ := r1.tupI
  exact ⟨a, rfl, ⟨xs, sq⟩, k _ ρ1 B1 H1 g1 S1.wo (it_tup nb sq rl)⟩
def smallI (j : Int) : Bool := decide (-(2 ^ 62) ≤ j ∧ j < 2 ^ 62)
def rng1 : List DV → M (List DV)
  | [.int j] => do guardM (smallI j); pure (rangeL 0 j.toNat)
  | _ => failure
def iRg1 (f : DAx) : DIx := fun env => do rng1 (← f env)
theorem rng1_some {ds out : List DV} {hp hp' : Hs} (h : rng1 ds hp = some (out, hp')) : ∃ j : Int, ds = [.int j] ∧ smallI j = true ∧ out = rangeL 0 j.toNat ∧ hp = hp' := by
  unfold rng1 at h
  split at h
  · obtain ⟨u, hp1, e1, e2⟩ := bind_some h
    obtain ⟨h1, rfl⟩ := guardM_some e1
    obtain ⟨rfl, rfl⟩ := pure_some e2
    exact ⟨_, rfl, h1, rfl, rfl⟩
  · cases h
theorem RepL.ints1 {K : PySem.W.Frag} {ρ : List Addr} {B : Addr → Prop} {H : Hp} {j : Int} {vs : List V} (h : RepL K ρ B H [.int j] vs) : vs = [.int j] := by
  unfold RepL at h
  obtain ⟨x, r, rfl, h1, h2⟩ := h
  unfold RepL at h2
  rw [h1.intI, h2]
theorem di_range1 {x : Expr} {p : Pos} {f : DAx} (hg : Gl X "range") (hm : X.mg "range" = none) (ha : DA X [x] f) (hs : starEach [x] X.env = [(false, eval x X.env)] := by rfl) : DI X tg (.Call (.Name "range" p) [x] [] pos) (iRg1 f) :=
  (pi_range1 hg hm ha hs).imp fun σ H R ⟨Z, env, ρ, B, hp, ds, hp', S, e, k⟩ => by
    obtain ⟨d, hp1, e1, e2⟩ := bind_some e
    obtain ⟨j, rfl, h1, rfl, rfl⟩ := rng1_some e2
    refine tDA.run S e1 fun vs ρ1 B1 H1 g1 S1 r1 => ?_
    have h1' := of_decide_eq_true h1
    exact ⟨j, r1.ints1, h1'.1, h1'.2, k _ ρ1 B1 H1 g1 S1.wo it_range⟩
def forL (b : DV → DSx) : List DV → DSx
  | [], env => pure (.nx, env)
  | d :: ds, env => do
    let r ← b d env
    match r.1 with
    | .nx => forL b ds r.2
    | .ct => forL b ds r.2
    | .bk => pure (.nx, r.2)
    | .rt x => pure (.rt x, r.2)
def sFor (f : DIx) (g : DGx) (body : DSx) : DSx := fun env => do let ds ← f env; forL (fun d env => do let env' ← g d env; body env') ds env
theorem upd_gs {K : PySem.W.Frag} {ρ : List Addr} {B : Addr → Prop} {H : Hp} {p : Addr} {o : HO} (rb : ∀ a ∈ ρ, B a) (h : H p = none) : Gs K ρ B H ρ B (upd H p o) := (Gr.laid h).gs rb
theorem ds_for {body : List Stmt} {fi : DIx} {g : DGx} {sb : DSx} (hp : PassesOwn (model X.prog X.w) X.A X.env X.xe) (hc : X.calm = true) (hi : DI X tg iter fi) (hg : PG X tg (tDG X.K g)) (hb : DSs X body sb)
    (hs : ∀ x, foldedSetIterable iter X.env x = pure x := by intro _; rfl) : DS X (.For tg iter body [] pos) (sFor fi g sb) :=
  (ps_for hp hc hi hg hb hs).imp fun D σ H ⟨Z, env, ρ, B, hp, fl, env', hp', S, e, k⟩ => by
    obtain ⟨ds, hp1, e1, e2⟩ := bind_some e
    refine ⟨Z, env, ρ, B, hp, ds, hp1, S, e1, fun J ρ1 B1 H1 g1 W1 it => ?_⟩
    have k1 := k.after (g1.gs S.wo.rb)
    refine ⟨fun i m σ H => m = ds.length - i ∧ i ≤ ds.length ∧ ∃ env ρ B hp, SOk X.K Z env σ ρ B hp H ∧ Gs X.K ρ1 B1 H1 ρ B H ∧ forL (fun d env => do let env' ← g d env; sb env') (ds.drop i) env hp = some ((fl, env'), hp'),
      ⟨ds.length, rfl, Nat.zero_le _, env, ρ1, B1, hp1, S.grow g1 W1, Gs.refl, by simpa using e2⟩, ?_⟩
    rintro i m σ H ⟨rfl, hi, env2, ρ2, B2, hp2, S2, g2, e3⟩
    obtain ⟨itg, its⟩ := it ρ2 B2 H g2 S2.wo.rb S2.wo.bt
    by_cases hlt : i < ds.length
    · have hd : ds[i]? = some ds[i] := List.getElem?_eq_getElem hlt
      obtain ⟨go, yl⟩ := itg i _ hd
      rw [List.drop_eq_getElem_cons hlt] at e3
      obtain ⟨⟨f1, env4⟩, hp4, e4, e5⟩ := bind_some e3
      obtain ⟨env3, hp3, e6, e7⟩ := bind_some e4
      refine .inr ⟨go, fun σ' H' => ∃ env ρ B hp, SOk X.K Z env σ' ρ B hp H' ∧ Gs X.K ρ1 B1 H1 ρ B H' ∧ forL (fun d env => do let env' ← g d env; sb env') (ds.drop (i + 1)) env hp = some ((fl, env'), hp'),
        fun σ' H' q => ⟨ds.length - (i + 1), by omega, rfl, hlt, q⟩, fun x H' y => ?_⟩
      obtain ⟨rx, hx⟩ := yl x H' y
      have S3 : SOk X.K Z env2 σ ρ2 B2 hp2 H' ∧ Gs X.K ρ2 B2 H ρ2 B2 H' := by
        rcases hx with rfl | ⟨p, o, hn, rfl⟩
        · exact ⟨S2, Gs.refl⟩
        · exact ⟨S2.grow (Gr.laid hn) (S2.wo.laid hn), upd_gs S2.wo.rb hn⟩
      refine ⟨Z, env2, ρ2, B2, hp2, ds[i], env3, hp3, S3.1, rx, e6, fun σ5 ρ5 B5 H5 g5 S5 => ⟨Z, env3, ρ5, B5, hp3, f1, env4, hp4, S5, e7, fun σ6 ρ6 B6 H6 g6 S6 => ?_⟩⟩
      have G6 := g2.trans (S3.2.trans (g5.trans g6))
      cases f1 with
      | nx => exact ⟨env4, ρ6, B6, hp4, S6, G6, e5⟩
      | ct => exact ⟨env4, ρ6, B6, hp4, S6, G6, e5⟩
      | bk => obtain ⟨z, rfl⟩ := pure_some e5; cases z; exact k1 σ6 ρ6 B6 H6 G6 S6
      | rt d => obtain ⟨z, rfl⟩ := pure_some e5; cases z; exact k1 σ6 ρ6 B6 H6 G6 S6
    · have e : i = ds.length := by omega
      subst e
      rw [List.drop_length] at e3
      obtain ⟨z, rfl⟩ := pure_some e3; cases z
      exact .inl ⟨its, k1 σ ρ2 B2 H g2 S2⟩
end
end D
namespace D
open PySem PySem.Spec PyProof.Rows L2
section
variable {K : PySem.W.Frag} {Z : Ent} {env : En} {σ : St} {ρ ρ' : List Addr} {B B' : Addr → Prop} {hp hp' : Hs} {H H' : Hp}
def banP (B : Addr → Prop) (p : Addr) : Addr → Prop := fun a => B a ∨ a = p
theorem Gr.banned {p : Addr} {o : HO} (h : H p = none) (kf : K.lookup p = none) : Gr K ρ B H ρ (banP B p) (upd H p o) where
  pre := List.prefix_rfl
  ban := fun _ h => .inl h
  new := fun a z => z.elim .inl fun e => .inr (e ▸ ⟨h, kf⟩)
  rnew := fun _ h => .inl h
  keep := fun a u _ q => by rw [upd_ne (ne_of_none q h)]; exact q
  trk := (Gr.laid (K := K) (ρ := ρ) (B := B) h).trk
theorem WOk.banned {p : Addr} {o : HO} (W : WOk K ρ B hp H) (h : H p = none) (kf : K.lookup p = none) : WOk K ρ (banP B p) hp (upd H p o) where
  len := W.len
  nd := W.nd
  obj := fun i a u e q => ORep.gs ((Gr.banned h kf).gs W.rb) (upd_ne (fun z => W.bt a (W.rb a (List.mem_of_getElem? e)) (z ▸ h))) (W.obj i a u e q)
  rb := fun a h => .inl (W.rb a h)
  bt := fun a z q => by
    have q' := (Gr.laid (K := K) (ρ := ρ) (B := B) h).trk a q
    rcases z with z | rfl
    · exact W.bt a z q'
    · rw [upd_same] at q; cases q
  bk := fun a z => z.elim (W.bk a) fun e => e ▸ kf
end
section
variable {X : Cx} {e a b c : Expr} {f fa fb : DEx} {ca cb : DTx} {pos : Pos} {st : Stmt} {sts rest : List Stmt} {s s' : DSx}
def sAcc (i : Nat) : DSx := fun env => pure (.nx, env.set i (.acc []))
def disE (i : Nat) (env : En) : En := match env[i]? with
  | some (.acc ds) => env.set i (.val (.lst ds))
  | _ => env
def sDis (i : Nat) (f : DSx) : DSx := fun env => f (disE i env)
def sApp (i : Nat) (f : DEx) : DSx := fun env => do
  let d ← f env
  match env[i]? with
  | some (.acc ds) => if ds.length < lim then pure (.nx, env.set i (.acc (ds ++ [d]))) else failure
  | _ => failure
def capS : Sl → Sl
  | .val d => .val d
  | _ => .un
def cE (idx : List Nat) (env : En) (d : DV) : En := .val d :: idx.map fun i => capS ((env[i]?).getD .un)
def tAll : DTx := fun _ => pure true
variable {elt iter : Expr} {x : Str} {px : Pos} {ifs : List Expr} {scope : Scope} {cl : List (Str × Addr)} {caps : List Str} {idx : List Nat} {src : DIx} {te : DTx}
theorem cσ_ok {K : PySem.W.Frag} {Z : Ent} {env : En} {σ : St} {ρ ρ1 : List Addr} {B B1 : Addr → Prop} {hp hp1 : Hs} {H H1 : Hp} {d : DV} {v : V} (S : SOk K Z env σ ρ B hp H) (g : Gs K ρ B H ρ1 B1 H1) (W : WOk K ρ1 B1 hp1 H1) (r : RepV K ρ1 B1 H1 d v) :
    SOk K ⟨ρ1, B1, H1⟩ (cE idx env d) (cσ idx σ (some v)) ρ1 B1 hp1 H1 := by
  refine ⟨Gr.refl, W.bt, W, fun i e h => ?_, fun i es h => ?_, fun i j es es' a h => ?_, by simp [cE, cσ]⟩
  · cases i with
    | zero =>
      have : d = e := by simpa [cE] using h
      subst this
      exact ⟨v, by simp [cσ], r⟩
    | succ i =>
      cases q : idx[i]? with
      | none => simp [cE, q] at h
      | some k =>
        have h' : capS ((env[k]?).getD .un) = .val e := by simpa [cE, q] using h
        cases z : env[k]? with
        | none => rw [z] at h'; cases h'
        | some sl =>
          rw [z] at h'
          cases sl with
          | un => cases h'
          | acc _ => cases h'
          | val e' =>
            have : e' = e := by simpa [capS] using h'
            subst this
            obtain ⟨u, h1, h2⟩ := S.slot k e' z
            exact ⟨u, by simp [cσ, q, h1], RepV.gs g _ _ h2⟩
  · exfalso
    cases i with
    | zero => simp [cE] at h
    | succ i =>
      cases q : idx[i]? with
      | none => simp [cE, q] at h
      | some k =>
        have h' : capS ((env[k]?).getD .un) = .acc es := by simpa [cE, q] using h
        cases z : (env[k]?).getD .un with
        | un => rw [z] at h'; cases h'
        | acc _ => rw [z] at h'; cases h'
        | val _ => rw [z] at h'; cases h'
  · exfalso
    cases i with
    | zero => simp [cE] at h
    | succ i =>
      cases q : idx[i]? with
      | none => simp [cE, q] at h
      | some k =>
        have h' : capS ((env[k]?).getD .un) = .acc es := by simpa [cE, q] using h
        cases z : (env[k]?).getD .un with
        | un => rw [z] at h'; cases h'
        | acc _ => rw [z] at h'; cases h'
        | val _ => rw [z] at h'; cases h'
def DTs (X : Cx) (ifs : List Expr) (t : DTx) : Prop := PTs X ifs (tDT X.K t)
theorem dts_nil : DTs X [] tAll := fun pins s σ H Q I ⟨Z, env, ρ, B, hp, d, hp', S, e, k⟩ => by
  obtain ⟨rfl, rfl⟩ := pure_some e
  exact pts_nil pins s σ H Q I (k ρ B H Gr.refl S.wo)
theorem dts_one {c : Expr} (h : DT X c te) : DTs X [c] te := pts_one h
def runF (n : Nat) (body : DSx) : List DV → M DV := fun ds => do
  let r ← body (ds.map .val ++ List.replicate (n - ds.length) .un)
  match r.1 with
  | .nx => pure .non
  | .rt d => pure d
  | _ => failure
def spD (K : PySem.W.Frag) (n : Nat) (F : List DV → M DV) : Sp := fun vs H Q _ => vs.length = n ∧ ∃ ρ B hp ds d hp', WOk K ρ B hp H ∧ RepL K ρ B H ds vs ∧ F ds hp = some (d, hp') ∧ Fol K ρ B H d hp' Q
structure Has (P : Program) (w : World) (K : PySem.W.Frag) (mg : Str → Option Value) (base : Heap) (x : Str) (k n : Nat) (F : List DV → M DV) : Prop where
  ex : ∃ (g : Addr) (fd : FuncData) (ps : List Str), FnOk P w K mg base CX0 k g fd ps (spD K n F) ∧ Binds K fd ps [] ∧ PySem.W.keepIn K (.ref g) = true ∧ mg x = some (.ref g)
theorem sOk_start {K : PySem.W.Frag} {ρ : List Addr} {B : Addr → Prop} {hp : Hs} {H : Hp} {ds : List DV} {vs : List V} {N : List Str} (W : WOk K ρ B hp H) (r : RepL K ρ B H ds vs) :
    SOk K ⟨ρ, B, H⟩ (ds.map .val ++ List.replicate (N.length - ds.length) .un) (L2.start N vs) ρ B hp H := by
  have hl := r.length
  have at_ : ∀ {i : Nat} {z : Sl}, (ds.map Sl.val ++ List.replicate (N.length - ds.length) Sl.un)[i]? = some z → z = .un ∨ ∃ d, ds[i]? = some d ∧ z = .val d := fun {i z} h => by
    by_cases hi : i < ds.length
    · rw [List.getElem?_append_left (by simpa using hi), List.getElem?_map, List.getElem?_eq_getElem hi] at h
      cases h
      exact .inr ⟨_, List.getElem?_eq_getElem hi, rfl⟩
    · rw [List.getElem?_append_right (by simpa using hi), List.getElem?_replicate] at h
      split at h
      · cases h; exact .inl rfl
      · cases h
  refine ⟨Gr.refl, W.bt, W, fun i d h => ?_, fun i es h => ?_, fun i j es es' a h => ?_, by unfold L2.start; simp; omega⟩
  · rcases at_ h with z | ⟨d', q, z⟩
    · cases z
    · cases z
      obtain ⟨v, h1, h2⟩ := r.get q
      refine ⟨v, ?_, h2⟩
      unfold L2.start
      have hi : i < vs.length := (List.getElem?_eq_some_iff.mp h1).1
      rw [List.getElem?_append_left (by simpa using hi), List.getElem?_map, h1]
      rfl
  · rcases at_ h with z | ⟨d', q, z⟩ <;> cases z
  · rcases at_ h with z | ⟨d', q, z⟩ <;> cases z
theorem fn_has {P : Program} {w : World} {K : PySem.W.Frag} {mg : Str → Option Value} {base : Heap} {x : Str} {stm : Stmt} {g : Addr} {fd : FuncData} {N ps : List Str} {k : Nat} {body : DSx} (F : Fun K x x stm g fd) (Sc : FnScope N ps (defScope stm)) (hm : mg x = some (.ref g))
    (hb : ∀ (kV doc pm : Value) (an : Option Addr) (cdv ct : Value) (us : List Value), us.length = ps.length → bindArgs (PySem.W.fnOf x x (defArgs stm) (defBody stm) (defScope stm) .none kV doc pm an cdv ct) ⟨us, []⟩ = pure (ps.zip us))
    (h : ∀ (cdv : Value) (A : Around) (outer : List Env) (s : Shared) (H : Hp) (E : XK), Room k (A.deeper (envOfC x (defScope stm) s.heap.objs.size g cdv)) → DSs (cxOf CX0 P w K mg base N x (defScope stm) g cdv A outer s H E).nox (defBody stm) body) :
    Has P w K mg base x (k + 1) ps.length (runF N.length body) := by
  refine ⟨g, fd, ps, F.ok Sc (fun vs H Q E h => h.1) (fun cdv A outer s H vs Q E hr sp => ?_), F.binds hb, F.kp, hm⟩
  obtain ⟨hn, ρ, B, hp, ds, d, hp', W, r, e, k⟩ := sp
  obtain ⟨⟨fl, env'⟩, hp1, e1, e2⟩ := bind_some e
  refine ⟨_, h cdv A outer s H E hr, ⟨ρ, B, H⟩, _, ρ, B, hp, fl, env', hp1, sOk_start W r, e1, fun σ' ρ' B' H' g' S' => ?_⟩
  cases fl with
  | nx => obtain ⟨rfl, rfl⟩ := pure_some e2; exact k .non ρ' B' H' S'.gr S'.wo rep_non
  | rt x => obtain ⟨rfl, rfl⟩ := pure_some e2; exact fun v rv => k v ρ' B' H' S'.gr S'.wo rv
  | bk => cases e2
  | ct => cases e2
def eCall (n : Nat) (F : List DV → M DV) (a : DAx) : DEx := fun env => do
  let ds ← a env
  guardM (decide (ds.length = n))
  F ds
theorem de_call {y : Str} {k j n : Nat} {F : List DV → M DV} {e : Expr} {es : List Expr} {fa : DAx} {p : Pos} (h : Has X.prog X.w X.K X.mg X.base y j n F) (hr : Room k X.A) (hj : j ≤ k) (hx : Passes CX0 X E0) (ha : DA X (e :: es) fa) (hg : Gl X y := by rfl)
    (hdb : (y == ("__debug__" : Str)) = false := by decide) (he : starEach (e :: es) X.env = (false, eval e X.env) :: starEach es X.env := by rfl) (hpl : (backTo pos (starEach es X.env)).any (·.1) = false := by rfl) : DE X (.Call (.Name y p) (e :: es) [] pos) (eCall n F fa) := by
  obtain ⟨g, fd, ps, F', hb, hk, hm⟩ := h.ex
  refine L2.PE.imp (pe_call F' (hr.mono hj) hg hm hk hb .nil hx ha hdb he hpl) fun σ H Q ⟨Z, env, ρ, B, hp, d, hp', S, e, k⟩ => ?_
  obtain ⟨ds, hp1, e1, e2⟩ := bind_some e
  obtain ⟨_, hp2, e3, e4⟩ := bind_some e2
  obtain ⟨hl, rfl⟩ := guardM_some e3
  refine tDA.run S e1 fun vs ρ1 B1 H1 g1 S1 r1 => ?_
  refine ⟨by rw [List.append_nil, ← r1.length]; exact of_decide_eq_true hl, ρ1, B1, hp1, ds, d, hp', S1.wo, by rw [List.append_nil]; exact r1, e4, k.after g1⟩
end
end D
namespace D
open PySem PySem.Spec PyProof.Rows L2
section
variable {X : Cx} {e a b c : Expr} {f fa fb fc : DEx} {ca cb : DTx} {pos : Pos}
def int2 (C : Int → Int → Bool) (g : Int → Int → DV) : DV → DV → M DV
  | .int i, .int j => if C i j then pure (g i j) else failure
  | _, _ => failure
theorem int2_some {C : Int → Int → Bool} {g : Int → Int → DV} {x y d : DV} {hp hp' : Hs} (h : int2 C g x y hp = some (d, hp')) : ∃ i j, x = .int i ∧ y = .int j ∧ C i j = true ∧ d = g i j ∧ hp = hp' := by
  unfold int2 at h
  split at h
  · rename_i i j
    by_cases hc : C i j = true
    · rw [if_pos hc] at h
      obtain ⟨rfl, rfl⟩ := pure_some h
      exact ⟨i, j, rfl, rfl, hc, rfl, rfl⟩
    · rw [if_neg hc] at h; cases h
  · cases h
theorem p2_int {g : Value → Value → Sem Value} {C : Int → Int → Bool} {P : Int → Int → Prop} {q : Int → Int → Int} (ho : OpR X g (rI P fun i j => .int (q i j))) (hC : ∀ i j, C i j = true → P i j) : P2 X g (int2 C fun i j => .int (q i j)) := by
  intro pins s σ H x y v u Q I rx ry h
  refine ho pins s σ H x y v u Q I rx ry ?_
  obtain ⟨ρ, B, hp, dx, dy, d, hp', W, r1, r2, e, k⟩ := h
  obtain ⟨i, j, rfl, rfl, hc, rfl, rfl⟩ := int2_some e
  exact ⟨i, j, r1.intI, r2.intI, hC i j hc, k _ ρ B H Gr.refl W rep_int⟩
theorem p2_int0 {g : Value → Value → Sem Value} {q : Int → Int → Int} (ho : OpR X g (rI0 fun i j => .int (q i j))) : P2 X g (int2 (fun _ _ => true) fun i j => .int (q i j)) := by
  intro pins s σ H x y v u Q I rx ry h
  refine ho pins s σ H x y v u Q I rx ry ?_
  obtain ⟨ρ, B, hp, dx, dy, d, hp', W, r1, r2, e, k⟩ := h
  obtain ⟨i, j, rfl, rfl, hc, rfl, rfl⟩ := int2_some e
  exact ⟨i, j, r1.intI, r2.intI, k _ ρ B H Gr.refl W rep_int⟩
theorem p2_cmp0 {g : Value → Value → Sem Value} {q : Int → Int → Bool} (ho : OpR X g (rI0 fun i j => .bl (q i j))) : P2 X g (int2 (fun _ _ => true) fun i j => .bl (q i j)) := by
  intro pins s σ H x y v u Q I rx ry h
  refine ho pins s σ H x y v u Q I rx ry ?_
  obtain ⟨ρ, B, hp, dx, dy, d, hp', W, r1, r2, e, k⟩ := h
  obtain ⟨i, j, rfl, rfl, hc, rfl, rfl⟩ := int2_some e
  exact ⟨i, j, r1.intI, r2.intI, k _ ρ B H Gr.refl W rep_bl⟩
def cMul (i j : Int) : Bool := decide ((-(2 ^ 64) < i ∧ i < 2 ^ 64) ∨ (-(2 ^ 64) < j ∧ j < 2 ^ 64))
def cDiv (_ j : Int) : Bool := decide (0 < j ∧ j < 1073741824)
def cMod (_ j : Int) : Bool := decide (0 < j)
def cPow (i j : Int) : Bool := decide (0 ≤ j ∧ j ≤ 1000000 ∧ i.natAbs < 2 ^ 64)
def subD : DV → DV → M DV := int2 (fun _ _ => true) fun i j => .int (i - j)
def mulD : DV → DV → M DV := int2 cMul fun i j => .int (i * j)
def divD : DV → DV → M DV := int2 cDiv fun i j => .int (i / j)
def modD : DV → DV → M DV := int2 cMod fun i j => .int (i % j)
def powD : DV → DV → M DV := int2 cPow fun i j => .int (i ^ j.toNat)
def ltD : DV → DV → M DV := int2 (fun _ _ => true) fun i j => .bl (decide (i < j))
def leD : DV → DV → M DV := int2 (fun _ _ => true) fun i j => .bl (decide (i ≤ j))
def gtD : DV → DV → M DV := int2 (fun _ _ => true) fun i j => .bl (decide (j < i))
def geD : DV → DV → M DV := int2 (fun _ _ => true) fun i j => .bl (decide (j ≤ i))
theorem p_sub : P2 X (binaryOp .Sub) subD := p2_int0 op_sub
theorem p_mul : P2 X (binaryOp .Mult) mulD := p2_int op_mul fun i j h => of_decide_eq_true (p := (-(2 ^ 64) < i ∧ i < 2 ^ 64) ∨ (-(2 ^ 64) < j ∧ j < 2 ^ 64)) h
theorem p_div : P2 X (binaryOp .FloorDiv) divD := p2_int op_fdiv fun i j h => of_decide_eq_true (p := 0 < j ∧ j < 1073741824) h
theorem p_mod : P2 X (binaryOp .Mod) modD := p2_int op_mod fun _ _ h => of_decide_eq_true h
theorem p_pow : P2 X (binaryOp .Pow) powD := p2_int op_pow fun i j h => of_decide_eq_true (p := 0 ≤ j ∧ j ≤ 1000000 ∧ i.natAbs < 2 ^ 64) h
theorem p_lt : P2 X (compareOp .Lt) ltD := p2_cmp0 op_lt
theorem p_le : P2 X (compareOp .LtE) leD := p2_cmp0 op_le
theorem p_gt : P2 X (compareOp .Gt) gtD := p2_cmp0 op_gt
theorem p_ge : P2 X (compareOp .GtE) geD := p2_cmp0 op_ge
def negD : DV → M DV
  | .int i => pure (.int (-i))
  | _ => failure
def eNeg (f : DEx) : DEx := fun env => do negD (← f env)
theorem de_neg (h : DE X a f) : DE X (.UnaryOp .USub a pos) (eNeg f) := L2.PE.imp (pe_un un_neg h) fun σ H Q ⟨Z, env, ρ, B, hp, d, hp', S, e, k⟩ => by
  obtain ⟨x, hp1, e1, e2⟩ := bind_some e
  refine tD.run S e1 fun v ρ1 B1 H1 g1 S1 r1 => ?_
  cases x with
  | int i => obtain ⟨rfl, rfl⟩ := pure_some e2; exact ⟨i, r1.intI, k _ ρ1 B1 H1 g1 S1.wo rep_int⟩
  | _ => cases e2
theorem op_catT0 : OpR X (binaryOp .Add) (fun x y H Q => ∃ a b ys, x = .ref a ∧ y = .ref b ∧ SqT X.K H a [] ∧ SqT X.K H b ys ∧ ys.length ≤ sizeLine ∧ Q (.ref b) H) := by
  intro pins s σ H x y v u Q I rx ry h
  obtain ⟨a, b, ys, rfl, rfl, ha, hb, hz, q⟩ := h
  cases rx
  cases ry
  obtain ⟨its, r1, p1, _⟩ := I.tuple ha
  obtain ⟨its2, r2, p2, _⟩ := I.tuple hb
  obtain ⟨m, F⟩ := I.fr
  have z : its = [] := by cases r1; rfl
  subst z
  exact add_tuples F (news_all (g := X.base) (L := X.env.locals)) p1 p2 (fun _ => ⟨.ref b, H, I, rfl, q⟩) (fun n => absurd rfl n) (fun n => absurd rfl n) (by have := r2.length; simp; omega)
def addD : DV → DV → M DV
  | .int i, .int j => pure (.int (i + j))
  | .tup xs, .tup ys => do guardM (short (xs ++ ys)); pure (.tup (xs ++ ys))
  | .lst xs, .lst ys => do guardM (short (xs ++ ys)); pure (.lst (xs ++ ys))
  | _, _ => failure
theorem rd_catL : OpR X (binaryOp .Add) (fun x y H Q => ∃ l b xs zs, x = .ref l ∧ y = .ref b ∧ SqL X.K H l xs ∧ SqL X.K H b zs ∧ xs.length + zs.length ≤ sizeLine ∧ ∀ p, H p = none → Q (.ref p) (upd H p (.lst (xs ++ zs)))) := by
  intro pins s σ H x y v u Q I rx ry h
  obtain ⟨l, b, xs, zs, rfl, rfl, hl, hb, hz, q⟩ := h
  cases rx
  cases ry
  obtain ⟨its, r1, ⟨⟨k1, dd1, da1, sl1⟩, n1, e1, c1, d1, s1⟩, _⟩ := I.list hl
  obtain ⟨its2, r2, ⟨⟨k2, dd2, da2, sl2⟩, n2, e2, c2, d2, s2⟩, _⟩ := I.list hb
  simp only at c1 d1 s1 c2 d2 s2
  subst c1 d1 s1 c2 d2 s2
  have ea : its.toArray ++ its2.toArray = (its ++ its2).toArray := by simp
  have hz' : its.length + its2.length ≤ sizeLine := by rw [← r1.length, ← r2.length]; exact hz
  refine concat_meets (T := "list") ⟨_, e1, rfl⟩ ⟨_, e2, rfl⟩ noFill_list_add seq_list_add PySem.F.slot_list_add PySem.F.entry_list_add (PySem.F.args_list_add_2 _ _) (list_addW l b its.toArray its2.toArray n1 n2 none none sl1 sl2 (by simpa using hz')) ⟨e1, e2, ?_⟩
  rw [ea]
  exact ⟨.ref _, _, I.lnew (t' := s.toks) (r1.append r2) (by rw [List.length_append]; exact hz), rfl, q _ I.fresh⟩
theorem p_add : P2 X (binaryOp .Add) addD := by
  intro pins s σ H x y v u Q I rx ry h
  obtain ⟨ρ, B, hp, dx, dy, d, hp', W, r1, r2, e, k⟩ := h
  unfold addD at e
  split at e
  · obtain ⟨rfl, rfl⟩ := pure_some e
    exact op_add pins s σ H x y v u Q I rx ry ⟨_, _, r1.intI, r2.intI, k _ ρ B H Gr.refl W rep_int⟩
  · rename_i xs ys
    obtain ⟨_, hp1, e1, e2⟩ := bind_some e
    obtain ⟨hs, rfl⟩ := guardM_some e1
    obtain ⟨rfl, rfl⟩ := pure_some e2
    obtain ⟨a, vs, rfl, n1, q1, l1⟩ := r1.tupI
    obtain ⟨b, ws, rfl, n2, q2, l2⟩ := r2.tupI
    have hz : vs.length + ws.length ≤ sizeLine := by
      have := short_ok hs
      rw [List.length_append] at this
      rw [← l1.length, ← l2.length]; exact this
    by_cases hv : vs = []
    · subst hv
      have : xs = [] := by have := l1.length; cases xs with | nil => rfl | cons _ _ => simp at this
      subst this
      exact op_catT0 pins s σ H _ _ v u Q I rx ry ⟨a, b, ws, rfl, rfl, q1, q2, by simp at hz; exact hz, k _ ρ B H Gr.refl W (rep_tup n2 q2 l2)⟩
    · refine op_catT pins s σ H _ _ v u Q I rx ry ⟨a, b, vs, ws, rfl, rfl, q1, q2, hv, hz, fun hw => ?_, fun hw => fol_tup W (RepL.append l1 l2) k⟩
      subst hw
      have : ys = [] := by have := l2.length; cases ys with | nil => rfl | cons _ _ => simp at this
      subst this
      rw [List.append_nil] at k
      exact k _ ρ B H Gr.refl W (rep_tup n1 q1 l1)
  · rename_i xs ys
    obtain ⟨_, hp1, e1, e2⟩ := bind_some e
    obtain ⟨hs, rfl⟩ := guardM_some e1
    obtain ⟨rfl, rfl⟩ := pure_some e2
    obtain ⟨a, vs, rfl, n1, q1, l1⟩ := r1.lstI
    obtain ⟨b, ws, rfl, n2, q2, l2⟩ := r2.lstI
    have hz : vs.length + ws.length ≤ sizeLine := by
      have := short_ok hs
      rw [List.length_append] at this
      rw [← l1.length, ← l2.length]; exact this
    exact rd_catL pins s σ H _ _ v u Q I rx ry ⟨a, b, vs, ws, rfl, rfl, q1, q2, hz, fol_lst W (RepL.append l1 l2) k⟩
  · cases e
def isN : DV → Bool
  | .non => true
  | _ => false
theorem isN_rep {K : PySem.W.Frag} {ρ : List Addr} {B : Addr → Prop} {H : Hp} {d : DV} {v : V} (r : RepV K ρ B H d v) : decide (v = .non) = isN d := by
  cases d with
  | non => rw [r.nonI]; rfl
  | bl b => rw [r.blI]; rfl
  | int b => rw [r.intI]; rfl
  | str b => rw [r.strI]; rfl
  | tup b => obtain ⟨a, xs, rfl, _⟩ := r.tupI; rfl
  | lst b => obtain ⟨a, xs, rfl, _⟩ := r.lstI; rfl
  | ref b => obtain ⟨a, rfl, _⟩ := r.refI; rfl
def isD : DV → DV → M DV
  | x, .non => pure (.bl (isN x))
  | .bl p, .bl q => pure (.bl (p == q))
  | _, _ => failure
def isnD : DV → DV → M DV
  | x, .non => pure (.bl (!isN x))
  | .bl p, .bl q => pure (.bl (p != q))
  | _, _ => failure
theorem p_is : P2 X (compareOp .Is) isD := by
  intro pins s σ H x y v u Q I rx ry h
  obtain ⟨ρ, B, hp, dx, dy, d, hp', W, r1, r2, e, k⟩ := h
  unfold isD at e
  split at e
  · obtain ⟨rfl, rfl⟩ := pure_some e
    refine op_isN pins s σ H x y v u Q I rx ry ⟨r2.nonI, ?_⟩
    rw [isN_rep r1]
    exact k _ ρ B H Gr.refl W rep_bl
  · obtain ⟨rfl, rfl⟩ := pure_some e
    obtain rfl := r1.blI
    obtain rfl := r2.blI
    cases rx; cases ry
    exact is_bool ⟨.bl _, H, I, rfl, k _ ρ B H Gr.refl W rep_bl⟩
  · cases e
theorem p_isn : P2 X (compareOp .IsNot) isnD := by
  intro pins s σ H x y v u Q I rx ry h
  obtain ⟨ρ, B, hp, dx, dy, d, hp', W, r1, r2, e, k⟩ := h
  unfold isnD at e
  split at e
  · obtain ⟨rfl, rfl⟩ := pure_some e
    refine op_notN pins s σ H x y v u Q I rx ry ⟨r2.nonI, ?_⟩
    rw [isN_rep r1]
    exact k _ ρ B H Gr.refl W rep_bl
  · obtain ⟨rfl, rfl⟩ := pure_some e
    obtain rfl := r1.blI
    obtain rfl := r2.blI
    cases rx; cases ry
    exact isnot_bool ⟨.bl _, H, I, rfl, k _ ρ B H Gr.refl W rep_bl⟩
  · cases e
theorem atI_rep {K : PySem.W.Frag} {ρ : List Addr} {B : Addr → Prop} {H : Hp} {ds : List DV} {xs : List V} {i : Int} {d : DV} (r : RepL K ρ B H ds xs) (h : atI ds i = some d) : ∃ x, atI xs i = some x ∧ RepV K ρ B H d x := by
  unfold atI at h ⊢
  rw [← r.length]
  cases q : ixN ds.length i with
  | none => rw [q] at h; cases h
  | some j =>
    rw [q] at h
    exact r.get h
def ixD : DV → DV → M DV
  | .tup ds, .int i => match atI ds i with
    | some d => pure d
    | none => failure
  | .lst ds, .int i => match atI ds i with
    | some d => pure d
    | none => failure
  | _, _ => failure
theorem p_ix : IxR X (tP2 X.K ixD) := by
  intro value slice pins s σ H x y v u Q I rx ry h hsub
  obtain ⟨ρ, B, hp, dx, dy, d, hp', W, r1, r2, e, k⟩ := h
  unfold ixD at e
  split at e
  · rename_i ds i
    cases q : atI ds i with
    | none => rw [q] at e; cases e
    | some d' =>
      rw [q] at e
      obtain ⟨rfl, rfl⟩ := pure_some e
      obtain ⟨a, xs, rfl, n1, q1, l1⟩ := r1.tupI
      obtain ⟨z, hz, rz⟩ := atI_rep l1 q
      exact ix_tup value slice pins s σ H _ _ v u Q I rx ry ⟨a, xs, i, z, rfl, r2.intI, q1, hz, k _ ρ B H Gr.refl W rz⟩ hsub
  · rename_i ds i
    cases q : atI ds i with
    | none => rw [q] at e; cases e
    | some d' =>
      rw [q] at e
      obtain ⟨rfl, rfl⟩ := pure_some e
      obtain ⟨a, xs, rfl, n1, q1, l1⟩ := r1.lstI
      obtain ⟨z, hz, rz⟩ := atI_rep l1 q
      exact ix_list value slice pins s σ H _ _ v u Q I rx ry ⟨a, xs, i, z, rfl, r2.intI, q1, hz, k _ ρ B H Gr.refl W rz⟩ hsub
  · cases e
theorem de_ix (ha : DE X a fa) (hb : DE X b fb) (hs : PlainIx b := by intro _ _; rfl) : DE X (.Subscript a b pos) (eBin ixD fa fb) := L2.PE.imp (pe_ix p_ix ha hb hs) fun _ _ _ h => eBin_imp h
end
end D
namespace D
open PySem PySem.Spec PyProof.Rows L2
mutual
def toP : DV → PyData
  | .non => .none
  | .bl b => .bool b
  | .int i => .int i
  | .str x => .str x
  | .tup xs => .tuple (toPs xs)
  | .lst xs => .list (toPs xs)
  | .ref _ => .none
def toPs : List DV → List PyData
  | [] => []
  | d :: ds => toP d :: toPs ds
end
mutual
def noRef : DV → Bool
  | .ref _ => false
  | .tup xs => noRefs xs
  | .lst xs => noRefs xs
  | _ => true
def noRefs : List DV → Bool
  | [] => true
  | d :: ds => noRef d && noRefs ds
end
section
variable {X : Cx} {pins : List (Addr × Obj)} {σ : St} {H : Hp} {s : Shared} {ρ : List Addr} {B : Addr → Prop}
mutual
theorem reads_of (I : Inv X pins σ H s) : ∀ (d : DV) (v : V) (u : Value), RepV X.K ρ B H d v → RelV v u → noRef d = true → ∃ as, Reads s.heap u (toP d) as
  | .non, _, _, r, ru, _ => by obtain rfl := r.nonI; cases ru; exact ⟨[], by unfold toP; exact .none⟩
  | .bl b, _, _, r, ru, _ => by obtain rfl := r.blI; cases ru; exact ⟨[], by unfold toP; exact .bool b⟩
  | .int i, _, _, r, ru, _ => by obtain rfl := r.intI; obtain ⟨t, rfl⟩ := ru; exact ⟨[], by unfold toP; exact .int i t⟩
  | .str x, _, _, r, ru, _ => by obtain rfl := r.strI; obtain ⟨t, rfl⟩ := ru; exact ⟨[], by unfold toP; exact .str x t⟩
  | .ref _, _, _, _, _, n => by cases n
  | .tup ds, _, _, r, ru, n => by
    obtain ⟨a, xs, rfl, _, sq, rl⟩ := r.tupI
    cases ru
    obtain ⟨its, rv, ⟨o, e, hc, k, hd⟩, _⟩ := I.tuple sq
    obtain ⟨as, q⟩ := reads_all I ds xs its rl rv (by unfold noRef at n; exact n)
    exact ⟨_, by unfold toP; exact reads_tuple_at e hc hd (by simpa using q)⟩
  | .lst ds, _, _, r, ru, n => by
    obtain ⟨a, xs, rfl, _, sq, rl⟩ := r.lstI
    cases ru
    obtain ⟨its, rv, ⟨o, k, e, hc, _, hd⟩, _⟩ := I.list sq
    obtain ⟨as, q⟩ := reads_all I ds xs its rl rv (by unfold noRef at n; exact n)
    exact ⟨_, by unfold toP; exact reads_list_at e hc hd (by simpa using q)⟩
theorem reads_all (I : Inv X pins σ H s) : ∀ (ds : List DV) (xs : List V) (us : List Value), RepL X.K ρ B H ds xs → Vals xs us → noRefs ds = true → ∃ as, ReadsAll s.heap us (toPs ds) as
  | [], _, _, r, ru, _ => by unfold RepL at r; subst r; cases ru; exact ⟨[], by unfold toPs; exact .nil⟩
  | d :: ds, _, _, r, ru, n => by
    unfold RepL at r
    obtain ⟨x, xs, rfl, r1, r2⟩ := r
    cases ru with
    | cons q1 q2 =>
      unfold noRefs at n
      rw [Bool.and_eq_true] at n
      obtain ⟨as, h1⟩ := reads_of I d x _ r1 q1 n.1
      obtain ⟨bs, h2⟩ := reads_all I ds xs _ r2 q2 n.2
      exact ⟨_, by unfold toPs; exact .cons h1 h2⟩
end
end
def okP (d : DV) : Bool := noRef d && SeqAt.shaped (toP d)
def eqD : DV → DV → M DV := fun x y => do guardM (okP x && okP y); pure (.bl (PyData.eqv (toP x) (toP y)))
def neD : DV → DV → M DV := fun x y => do guardM (okP x && okP y); pure (.bl (!PyData.eqv (toP x) (toP y)))
section
variable {X : Cx} {e a b c : Expr} {f fa fb fc : DEx} {ca cb : DTx} {pos : Pos}
theorem p_eq (hu : X.A.units + 64 < cLine) : P2 X (compareOp .Eq) eqD := by
  intro pins s σ H x y v u Q I rx ry h
  obtain ⟨ρ, B, hp, dx, dy, d, hp', W, r1, r2, e, k⟩ := h
  obtain ⟨_, hp1, e1, e2⟩ := bind_some e
  obtain ⟨hs, rfl⟩ := guardM_some e1
  obtain ⟨rfl, rfl⟩ := pure_some e2
  simp only [okP, Bool.and_eq_true] at hs
  obtain ⟨as, q1⟩ := reads_of I dx x v r1 rx hs.1.1
  obtain ⟨bs, q2⟩ := reads_of I dy y u r2 ry hs.2.1
  exact eq_dataH q1 q2 hs.1.2 hs.2.2 hu ⟨.bl _, H, I, rfl, k _ ρ B H Gr.refl W rep_bl⟩
theorem p_ne (hu : X.A.units + 64 < cLine) : P2 X (compareOp .NotEq) neD := by
  intro pins s σ H x y v u Q I rx ry h
  obtain ⟨ρ, B, hp, dx, dy, d, hp', W, r1, r2, e, k⟩ := h
  obtain ⟨_, hp1, e1, e2⟩ := bind_some e
  obtain ⟨hs, rfl⟩ := guardM_some e1
  obtain ⟨rfl, rfl⟩ := pure_some e2
  simp only [okP, Bool.and_eq_true] at hs
  obtain ⟨as, q1⟩ := reads_of I dx x v r1 rx hs.1.1
  obtain ⟨bs, q2⟩ := reads_of I dy y u r2 ry hs.2.1
  exact ne_dataH q1 q2 hs.1.2 hs.2.2 hu ⟨.bl _, H, I, rfl, k _ ρ B H Gr.refl W rep_bl⟩
def tPn (K : PySem.W.Frag) (g : List DV → M DV) : List V → Hp → VK → Prop := fun xs H Q => ∃ ρ B hp ds d hp', WOk K ρ B hp H ∧ RepL K ρ B H ds xs ∧ g ds hp = some (d, hp') ∧ Fol K ρ B H d hp' Q
def eBlt (g : List DV → M DV) (a : DAx) : DEx := fun env => do g (← a env)
theorem eBlt_imp {K : PySem.W.Frag} {g : List DV → M DV} {fa : DAx} {σ : St} {H : Hp} {Q : VK} (h : tD K (eBlt g fa) σ H Q) : tCB (tPn K g) (tDA K fa) σ H Q := by
  obtain ⟨Z, env, ρ, B, hp, d, hp', S, e, k⟩ := h
  obtain ⟨ds, hp1, e1, e2⟩ := bind_some e
  exact tDA.run S e1 fun vs ρ1 B1 H1 g1 S1 r1 => ⟨ρ1, B1, hp1, ds, d, hp', S1.wo, r1, e2, k.after g1⟩
theorem de_blt {x : Str} {id : String} {g : List DV → M DV} {e : Expr} {es : List Expr} {fa : DAx} {p : Pos} (hc : CallR X (.builtin id) (tPn X.K g)) (hm : X.mg x = none) (hv : bootBuiltins x = some (.builtin id)) (ha : DA X (e :: es) fa) (hg : Gl X x := by rfl) (hn : x ≠ "__name__" := by decide) (hdb : (x == ("__debug__" : Str)) = false := by decide)
    (he : starEach (e :: es) X.env = (false, eval e X.env) :: starEach es X.env := by rfl) (hpl : (backTo pos (starEach es X.env)).any (·.1) = false := by rfl) : DE X (.Call (.Name x p) (e :: es) [] pos) (eBlt g fa) :=
  L2.PE.imp (pe_callB hc hg hm hv ha hn hdb he hpl) fun _ _ _ h => eBlt_imp h
theorem RepL.oneI {K : PySem.W.Frag} {ρ : List Addr} {B : Addr → Prop} {H : Hp} {d : DV} {vs : List V} (h : RepL K ρ B H [d] vs) : ∃ v, vs = [v] ∧ RepV K ρ B H d v := by
  unfold RepL at h
  obtain ⟨x, r, rfl, h1, h2⟩ := h
  unfold RepL at h2; subst h2
  exact ⟨x, rfl, h1⟩
def lenF : List DV → M DV
  | [.tup ds] => pure (.int ds.length)
  | [.lst ds] => pure (.int ds.length)
  | _ => failure
theorem c_len : CallR X (.builtin "len") (tPn X.K lenF) := by
  intro pins s σ H xs us Q I r h
  obtain ⟨ρ, B, hp, ds, d, hp', W, rl, e, k⟩ := h
  unfold lenF at e
  split at e
  · obtain ⟨rfl, rfl⟩ := pure_some e
    obtain ⟨v, rfl, rv⟩ := rl.oneI
    obtain ⟨a, ys, rfl, _, sq, l⟩ := rv.tupI
    exact call_len_seq pins s σ H _ us Q I r ⟨a, ys, rfl, .inr sq, by rw [← l.length]; exact k _ ρ B H Gr.refl W rep_int⟩
  · obtain ⟨rfl, rfl⟩ := pure_some e
    obtain ⟨v, rfl, rv⟩ := rl.oneI
    obtain ⟨a, ys, rfl, _, sq, l⟩ := rv.lstI
    exact call_len_seq pins s σ H _ us Q I r ⟨a, ys, rfl, .inl sq, by rw [← l.length]; exact k _ ρ B H Gr.refl W rep_int⟩
  · cases e
def tyName : DV → Option String
  | .non => some "NoneType"
  | .bl _ => some "bool"
  | .int _ => some "int"
  | .str _ => some "str"
  | .tup _ => some "tuple"
  | .lst _ => some "list"
  | .ref _ => none
def isiB (t T : String) : Bool := t == T || (t == "bool" && T == "int")
def eIsi (T : String) (f : DEx) : DEx := fun env => do
  match tyName (← f env) with
  | some t => pure (.bl (isiB t T))
  | none => failure
theorem c_isi {T : String} (hT : T ∈ ["int", "bool", "tuple", "str", "list"]) : CallR X (.builtin "isinstance") (fun xs H Q => ∃ ρ B d x t, xs = [x, .ty T] ∧ RepV X.K ρ B H d x ∧ tyName d = some t ∧ Q (.bl (isiB t T)) H) := by
  intro pins s σ H xs us Q I r h
  obtain ⟨ρ, B, d, x, t, rfl, rv, ht, q⟩ := h
  obtain ⟨u, w', rfl, ru, rw'⟩ := vals2 r
  cases rw'
  have fin : ∀ tk, EP X pins σ Q (.bool (isiB t T)) { s with toks := tk } := fun tk => ⟨.bl _, H, I.tok _, rfl, q⟩
  have kit : PySem.W.kitOne X.K (.type t) (.type T) = some (isiB t T) := by
    have : t ∈ ["NoneType", "bool", "int", "str", "tuple", "list"] := by
      cases d <;> cases ht <;> simp
    simp only [List.mem_cons, List.not_mem_nil, or_false] at this hT
    rcases this with rfl | rfl | rfl | rfl | rfl | rfl <;> rcases hT with rfl | rfl | rfl | rfl | rfl <;> first | rfl | decide | with_unfolding_all rfl | kernel_rfl
  cases d with
  | non => obtain rfl := rv.nonI; cases ht; cases ru; exact PySem.W.kia_one PySem.W.kitx_none I.kIn True.intro kit (fun z => nomatch z) fin
  | bl b => obtain rfl := rv.blI; cases ht; cases ru; exact PySem.W.kia_one PySem.W.kitx_bool I.kIn True.intro kit (fun z => nomatch z) fin
  | int b => obtain rfl := rv.intI; cases ht; obtain ⟨tk, rfl⟩ := ru; exact PySem.W.kia_one PySem.W.kitx_int I.kIn True.intro kit (fun z => nomatch z) fin
  | str b => obtain rfl := rv.strI; cases ht; obtain ⟨tk, rfl⟩ := ru; exact PySem.W.kia_one PySem.W.kitx_str I.kIn True.intro kit (fun z => nomatch z) fin
  | ref b => cases ht
  | tup b =>
    cases ht
    obtain ⟨a, ys, rfl, _, sq, _⟩ := rv.tupI
    cases ru
    obtain ⟨its, _, ⟨o, e1, e2, _⟩, _⟩ := I.tuple sq
    exact PySem.W.kia_one PySem.W.kitx_tuple I.kIn ⟨o, e1, e2⟩ kit (fun z => nomatch z) fin
  | lst b =>
    cases ht
    obtain ⟨a, ys, rfl, _, sq, _⟩ := rv.lstI
    cases ru
    obtain ⟨its, _, ⟨o, k, e1, e2, _⟩, _⟩ := I.list sq
    exact PySem.W.kia_one PySem.W.kitx_list I.kIn ⟨o, e1, e2⟩ kit (fun z => nomatch z) fin
theorem de_isi {T : String} {p p' : Pos} (hm : X.mg "isinstance" = none) (hm' : X.mg (Str.ofString T) = none) (hv : bootBuiltins (Str.ofString T) = some (.type T)) (hT : T ∈ ["int", "bool", "tuple", "str", "list"]) (h : DE X e f) (hg : Gl X "isinstance" := by rfl) (hg' : Gl X (Str.ofString T) := by rfl)
    (hn : Str.ofString T ≠ "__name__" := by decide) (hdb : (Str.ofString T == ("__debug__" : Str)) = false := by decide) (hs : starEach [e, .Name (Str.ofString T) p'] X.env = (false, eval e X.env) :: starEach [.Name (Str.ofString T) p'] X.env := by rfl)
    (hs2 : starEach [.Name (Str.ofString T) p'] X.env = (false, eval (.Name (Str.ofString T) p') X.env) :: starEach [] X.env := by rfl) (hpl : (backTo pos (starEach [.Name (Str.ofString T) p'] X.env)).any (·.1) = false := by rfl) : DE X (.Call (.Name "isinstance" p) [e, .Name (Str.ofString T) p'] [] pos) (eIsi T f) :=
  L2.PE.imp (pe_callB (c_isi hT) hg hm boot_isinstance (pa_cons h (pa_cons (pe_bltn (v := .ty T) hg' hm' hv rfl hn hdb) pa_nil hs2) hs) (by decide) (by decide) hs hpl) fun σ H Q ⟨Z, env, ρ, B, hp, d, hp', S, e, k⟩ => by
    obtain ⟨x, hp1, e1, e2⟩ := bind_some e
    refine tD.run S e1 fun v ρ1 B1 H1 g1 S1 r1 => ?_
    cases q : tyName x with
    | none => rw [q] at e2; cases e2
    | some t =>
      rw [q] at e2
      obtain ⟨rfl, rfl⟩ := pure_some e2
      exact ⟨ρ1, B1, x, v, t, rfl, r1, q, k _ ρ1 B1 H1 g1 S1.wo rep_bl⟩
def eChain (g g' : DV → DV → M DV) (fa fb fc : DEx) : DEx := fun env => do
  let x ← fa env
  let y ← fb env
  let z ← g x y
  if ← asB z then
    let u ← fc env
    g' y u
  else pure (.bl false)
end
end D
namespace D
open PySem PySem.Spec PyProof.Rows L2
section
variable {X : Cx} {e a b c : Expr} {f fa fb fc : DEx} {ca cb : DTx} {pos : Pos}
theorem eChain_imp {K : PySem.W.Frag} {g g' : DV → DV → M DV} {σ : St} {H : Hp} {Q : VK} (h : tD K (eChain g g' fa fb fc) σ H Q) : tChain (tP2 K g) (tP2 K g') (tD K fa) (tD K fb) (tD K fc) σ H Q := by
  obtain ⟨Z, env, ρ, B, hp, d, hp', S, e, k⟩ := h
  obtain ⟨x, hp1, e1, e⟩ := bind_some e
  obtain ⟨y, hp2, e2, e⟩ := bind_some e
  obtain ⟨z, hp3, e3, e⟩ := bind_some e
  obtain ⟨t, hp4, e4, e⟩ := bind_some e
  obtain ⟨rfl, rfl⟩ := asB_some e4
  refine tD.run S e1 fun v ρ1 B1 H1 g1 S1 r1 => tD.run S1 e2 fun u ρ2 B2 H2 g2 S2 r2 => ?_
  refine ⟨ρ2, B2, hp2, x, y, _, _, S2.wo, RepV.grow S1.wo.rb g2 _ _ r1, r2, e3, fun w ρ3 B3 H3 g3 W3 r3 => ⟨t, r3.blI, ?_⟩⟩
  have S3 := S2.grow g3 W3
  cases t with
  | false =>
    obtain ⟨rfl, rfl⟩ := pure_some e
    exact iteF (k _ ρ3 B3 H3 (g1.trans (g2.trans g3)) W3 rep_bl)
  | true =>
    obtain ⟨q, hp5, e5, e6⟩ := bind_some e
    refine iteT (tD.run S3 e5 fun p ρ4 B4 H4 g4 S4 r4 => ?_)
    exact ⟨ρ4, B4, hp5, y, q, d, hp', S4.wo, RepV.grow S3.wo.rb g4 _ _ (RepV.grow S2.wo.rb g3 _ _ r2), r4, e6, k.after (g1.trans (g2.trans (g3.trans g4)))⟩
theorem dt_chain {op op' : CmpOp} {g g' : DV → DV → M DV} (ho : P2 X (compareOp op) g) (ho' : P2 X (compareOp op') g') (ha : DE X a fa) (hb : DE X b fb) (hc : DE X c fc) (hm : lastMarks [op, op'] [b, c] = false := by with_unfolding_all rfl) : DT X (.Compare a [op, op'] [b, c] pos) (eB (eChain g g' fa fb fc)) :=
  L2.PT.imp (pt_chain ho ho' ha hb hc hm) fun σ H Q ⟨Z, env, ρ, B, hp, d, hp', S, e, k⟩ => by
    obtain ⟨x, hp1, e1, e2⟩ := bind_some e
    obtain ⟨rfl, rfl⟩ := asB_some e2
    exact eChain_imp (tD.run S e1 fun v ρ1 B1 H1 g1 S1 r1 => ⟨d, r1.blI, k ρ1 B1 H1 g1 S1.wo⟩)
abbrev DOx := En → M (Option Int)
def tDO (K : PySem.W.Frag) (f : DOx) : TO := fun σ H Q => ∃ Z env ρ B hp d hp', SOk K Z env σ ρ B hp H ∧ f env hp = some (d, hp') ∧ FolB K ρ B H hp' (Q d)
def DO (X : Cx) (e : Option Expr) (f : DOx) : Prop := PO X e (tDO X.K f)
def oNone : DOx := fun _ => pure none
def asI : DV → M Int
  | .int i => pure i
  | _ => failure
theorem asI_some {d : DV} {c : Int} {hp hp' : Hs} (h : asI d hp = some (c, hp')) : d = .int c ∧ hp = hp' := by
  cases d with
  | int b => obtain ⟨rfl, rfl⟩ := pure_some h; exact ⟨rfl, rfl⟩
  | _ => cases h
def oSome (f : DEx) : DOx := fun env => do let i ← asI (← f env); pure (some i)
theorem do_none : DO X none oNone := fun pins s σ H Q I ⟨Z, env, ρ, B, hp, d, hp', S, e, k⟩ => by
  obtain ⟨rfl, rfl⟩ := pure_some e
  exact po_none pins s σ H Q I (k ρ B H Gr.refl S.wo)
theorem do_some (h : DE X e f) : DO X (some e) (oSome f) := fun pins s σ H Q I ⟨Z, env, ρ, B, hp, d, hp', S, e, k⟩ => by
  obtain ⟨x, hp1, e1, e2⟩ := bind_some e
  obtain ⟨i, hp2, e3, e4⟩ := bind_some e2
  obtain ⟨rfl, rfl⟩ := asI_some e3
  obtain ⟨rfl, rfl⟩ := pure_some e4
  exact po_some h pins s σ H Q I (tD.run S e1 fun v ρ1 B1 H1 g1 S1 r1 => ⟨i, r1.intI, k ρ1 B1 H1 g1 S1.wo⟩)
theorem tDO.run {K : PySem.W.Frag} {f : DOx} {Z : Ent} {env : En} {σ : St} {ρ : List Addr} {B : Addr → Prop} {hp hp1 : Hs} {H : Hp} {d : Option Int} {Q : Option Int → Hp → Prop} (S : SOk K Z env σ ρ B hp H) (e : f env hp = some (d, hp1))
    (k : ∀ ρ' B' H', Gr K ρ B H ρ' B' H' → SOk K Z env σ ρ' B' hp1 H' → Q d H') : tDO K f σ H Q :=
  ⟨Z, env, ρ, B, hp, d, hp1, S, e, fun ρ' B' H' g W => k ρ' B' H' g (S.grow g W)⟩
def cutD (ds : List DV) (lo hi : Option Int) : List DV := (ds.drop (HT.sIx ds.length 0 lo)).take (HT.sIx ds.length ds.length hi - HT.sIx ds.length 0 lo)
theorem cutD_rep {K : PySem.W.Frag} {ρ : List Addr} {B : Addr → Prop} {H : Hp} {ds : List DV} {xs : List V} {lo hi : Option Int} (r : RepL K ρ B H ds xs) : RepL K ρ B H (cutD ds lo hi) (cutV xs lo hi) := by
  unfold cutD cutV
  rw [r.length]
  exact RepL.take _ (RepL.drop _ r)
def slD (d : DV) (lo hi : Option Int) : M DV := match d with
  | .lst ds => pure (.lst (cutD ds lo hi))
  | .tup ds => pure (.tup (cutD ds lo hi))
  | _ => failure
def eSl (f : DEx) (lo hi : DOx) : DEx := fun env => do let d ← f env; let l ← lo env; let h ← hi env; slD d l h
def tPs (K : PySem.W.Frag) : V → Option Int → Option Int → Hp → VK → Prop := fun x lo hi H Q => ∃ ρ B hp d r hp', WOk K ρ B hp H ∧ RepV K ρ B H d x ∧ slD d lo hi hp = some (r, hp') ∧ Fol K ρ B H r hp' Q
theorem tuple_whole {prog : Program} {w : World} {A : Around} {E : Value → Shared → Prop} {s : Shared} {t sl : Addr} {items : Array Value} {vl vu : Value} {lo hi : Option Int} {Q : Value → Shared → Prop} (ht : IsTup s.heap t items) (hs : s.heap.IsSliceOf sl vl vu .none) (pl : IsPart vl lo) (pu : IsPart vu hi)
    (h0 : HT.sIx items.size 0 lo = 0) (h1 : HT.sIx items.size items.size hi = items.size) (h : Q (.ref t) s) : wpAny (model prog w) A (getItem (.ref t) (.ref sl)) Q E s := by
  obtain ⟨os, hos, hcs, hds⟩ := id hs
  have hTs : s.TypeIs (.ref sl) "slice" := ⟨os, hos, hcs⟩
  unfold getItem
  try with_reducible refine wpAny_holding ?_
  first | refine wpAny_bind (wpAny_pure ?_) | skip
  refine wpAny_bind (wpAny_sequenceKey ht.typeIs (by decide) ?_)
  refine wpAny_bind (wpAny_callSpecial?_slot (name := Str.ofString "__getitem__") ht.typeIs PyProof.Rows.slot_tuple_getitem (wpAny_call_entry PyProof.Rows.slot_tuple_getitem ht.typeIs entry_tuple_getitem ?_ (args_tuple_getitem _ _)))
  show wpAny _ _ (Builtin.Tuple.tupleItemsOf (.ref t) >>= _) _ _ s
  refine wpAny_bind (tupleItemsOf_ ht ?_)
  refine wpAny_bind (wpAny_typeOf hTs ?_)
  rw [if_pos (by decide)]
  refine wpAny_bind (HT.sliceApplied_gen hs pl pu ?_)
  have yes : (((HT.sIx items.size 0 lo : Nat) : Int) == 0 && (1 : Int) == 1 && (HT.sIx items.size items.size hi - HT.sIx items.size 0 lo) == items.size) = true := by rw [h0, h1]; simp
  show wpAny _ _ (if (((HT.sIx items.size 0 lo : Nat) : Int) == 0 && (1 : Int) == 1 && (HT.sIx items.size items.size hi - HT.sIx items.size 0 lo) == items.size) = true then _ else _) _ _ s
  rw [if_pos yes]
  have ex : ∀ {Q' : Bool → Shared → Prop} {A' : Around} {E' : Value → Shared → Prop}, Q' true s → wpAny (model prog w) A' (Builtin.Tuple.tupleIsExact (.ref t)) Q' E' s := fun {Q' A' E'} q => by
    unfold Builtin.Tuple.tupleIsExact
    exact wpAny_bind (wpAny_typeOf ht.typeIs (wpAny_pure (by rw [show (Value.type "tuple" == Value.type "tuple") = true from beq_self_eq_true _]; exact q)))
  refine wpAny_bind (ex ?_)
  rw [if_pos rfl]
  first
    | exact wpAny_bind (wpAny_rule (wpAny_pure ⟨_, rfl, wpAny_pure h⟩))
    | exact wpAny_bind (wpAny_rule (wpAny_bind (wpAny_pure (wpAny_pure ⟨_, rfl, wpAny_pure h⟩))))
theorem sl_tupW : SlR X (fun x lo hi H Q => ∃ a xs, x = .ref a ∧ SqT X.K H a xs ∧ (HT.sIx xs.length 0 lo = 0 ∧ HT.sIx xs.length xs.length hi = xs.length) ∧ Q (.ref a) H) := by
  intro pins s σ H x v vl vu lo hi sl Q I rx hs pl pu h
  obtain ⟨a, xs, rfl, hx, ⟨h0, h1⟩, q⟩ := h
  cases rx
  obtain ⟨its, r, ht, hz⟩ := I.tuple hx
  have hlen : its.toArray.size = xs.length := by rw [List.size_toArray]; exact r.length.symm
  exact ⟨"tuple", _, PyProof.Rows.slot_tuple_getitem.lookup, ht.typeIs, tuple_whole ht hs pl pu (by rw [hlen]; exact h0) (by rw [hlen]; exact h1) ⟨.ref a, H, I, rfl, q⟩⟩
theorem cut_whole {α : Type} (ds : List α) (i j : Nat) (h0 : i = 0) (h1 : j = ds.length) : (ds.drop i).take (j - i) = ds := by subst h0 h1; simp
theorem p_sl : SlR X (tPs X.K) := by
  intro pins s σ H x v vl vu lo hi sl Q I rx hs pl pu h
  obtain ⟨ρ, B, hp, d, r, hp', W, rv, e, k⟩ := h
  cases d with
  | lst ds =>
    obtain ⟨rfl, rfl⟩ := pure_some e
    obtain ⟨a, xs, rfl, nb, sq, rl⟩ := rv.lstI
    exact sl_list pins s σ H _ v vl vu lo hi sl Q I rx hs pl pu ⟨a, xs, rfl, sq, fol_lst W (cutD_rep rl) k⟩
  | tup ds =>
    obtain ⟨rfl, rfl⟩ := pure_some e
    obtain ⟨a, xs, rfl, nb, sq, rl⟩ := rv.tupI
    by_cases hw : HT.sIx xs.length 0 lo = 0 ∧ HT.sIx xs.length xs.length hi = xs.length
    · refine sl_tupW pins s σ H _ v vl vu lo hi sl Q I rx hs pl pu ⟨a, xs, rfl, sq, hw, ?_⟩
      have : cutD ds lo hi = ds := by unfold cutD; exact cut_whole ds _ _ (by rw [rl.length]; exact hw.1) (by rw [rl.length]; exact hw.2)
      rw [this] at k
      exact k _ ρ B H Gr.refl W (rep_tup nb sq rl)
    · exact sl_tup pins s σ H _ v vl vu lo hi sl Q I rx hs pl pu ⟨a, xs, rfl, sq, hw, fol_tup W (cutD_rep rl) k⟩
  | non => cases e
  | bl _ => cases e
  | int _ => cases e
  | str _ => cases e
  | ref _ => cases e
theorem de_sl {lo hi : Option Expr} {ol oh : DOx} {p2 : Pos} (h : DE X e f) (hl : DO X lo ol) (hh : DO X hi oh) : DE X (.Subscript e (.Slice lo hi none p2) pos) (eSl f ol oh) :=
  L2.PE.imp (pe_slice p_sl h hl hh) fun σ H Q ⟨Z, env, ρ, B, hp, d, hp', S, e, k⟩ => by
    obtain ⟨x, hp1, e1, e⟩ := bind_some e
    obtain ⟨l, hp2, e2, e⟩ := bind_some e
    obtain ⟨u, hp3, e3, e⟩ := bind_some e
    refine tD.run S e1 fun v ρ1 B1 H1 g1 S1 r1 => tDO.run S1 e2 fun ρ2 B2 H2 g2 S2 => tDO.run S2 e3 fun ρ3 B3 H3 g3 S3 => ?_
    exact ⟨ρ3, B3, hp3, x, d, hp', S3.wo, RepV.grow S1.wo.rb (g2.trans g3) _ _ r1, e, k.after (g1.trans (g2.trans g3))⟩
theorem fn_ok {P : Program} {w : World} {K : PySem.W.Frag} {mg : Str → Option Value} {base : Heap} {x : Str} {stm : Stmt} {g : Addr} {fd : FuncData} {N ps : List Str} {k : Nat} {body : DSx} (F : Fun K x x stm g fd) (Sc : FnScope N ps (defScope stm))
    (h : ∀ (cdv : Value) (A : Around) (outer : List Env) (s : Shared) (H : Hp) (E : XK), Room k (A.deeper (envOfC x (defScope stm) s.heap.objs.size g cdv)) → DSs (cxOf CX0 P w K mg base N x (defScope stm) g cdv A outer s H E).nox (defBody stm) body) :
    FnOk P w K mg base CX0 (k + 1) g fd ps (spD K ps.length (runF N.length body)) := by
  refine F.ok Sc (fun vs H Q E h => h.1) (fun cdv A outer s H vs Q E hr sp => ?_)
  obtain ⟨hn, ρ, B, hp, ds, d, hp', W, r, e, k⟩ := sp
  obtain ⟨⟨fl, env'⟩, hp1, e1, e2⟩ := bind_some e
  refine ⟨_, h cdv A outer s H E hr, ⟨ρ, B, H⟩, _, ρ, B, hp, fl, env', hp1, sOk_start W r, e1, fun σ' ρ' B' H' g' S' => ?_⟩
  cases fl with
  | nx => obtain ⟨rfl, rfl⟩ := pure_some e2; exact k .non ρ' B' H' S'.gr S'.wo rep_non
  | rt x => obtain ⟨rfl, rfl⟩ := pure_some e2; exact fun v rv => k v ρ' B' H' S'.gr S'.wo rv
  | bk => cases e2
  | ct => cases e2
theorem rep_ints {K : PySem.W.Frag} {ρ : List Addr} {B : Addr → Prop} {H : Hp} : ∀ ns : List Int, RepL K ρ B H (ns.map DV.int) (ns.map V.int)
  | [] => RepL.nil
  | _ :: r => RepL.cons rep_int (rep_ints r)
theorem law_sp {K : PySem.W.Frag} {F : List DV → M DV} {H : Hp} {a : Addr} {ns : List Int} {E : XK} (h : ∃ hp', F [.lst (ns.map .int)] [] = some (.bl true, hp')) (hS : SqL K H a (ns.map V.int)) : spD K 1 F [.ref a] H (fun v _ => v = .bl true) E := by
  obtain ⟨hp', h⟩ := h
  refine ⟨rfl, [], fun _ => False, [], [.lst (ns.map .int)], .bl true, hp', ⟨rfl, List.nodup_nil, fun i a o h => by simp at h, fun a h => absurd h (by simp), fun a h => absurd h (fun z => z), fun a h => h.elim⟩, RepL.one (rep_lst (fun z => z) hS (rep_ints ns)), h, fun v _ _ _ _ _ r => r.blI⟩
end
end D
namespace L2
open PySem PySem.Spec PyProof.Rows
section
variable {prog : Program} {w : World} {A : Around} {E : Value → Shared → Prop} {s : Shared}
theorem zt_item {p q : Addr} {n : Nat} {xs : Array Value} {v : Value} {Q : Value → Shared → Prop} (a1 : s.heap.IsTupleIter p q n) (a2 : s.heap.IsTuple q xs) (a3 : xs[n]? = some v)
    (k : ∀ g, g.IsTupleIter p q (n + 1) → Heap.SameBut p s.heap g → Q v { s with heap := g }) : wpAny (model prog w) A (Builtin.SmallTypes.nextOf (.ref p)) Q E s := by
  obtain ⟨ob, b1, b2, b3⟩ := id a1
  obtain ⟨oq, b4, _, m, b5⟩ := a2
  unfold Builtin.SmallTypes.nextOf
  refine wpAny_bind (wpAny_callSpecial?_slot (name := Str.ofString "__next__") a1.typeIs F.slot_tuple_iterator_next (wpAny_call_entry F.slot_tuple_iterator_next a1.typeIs F.entry_tuple_iterator_next ?_ (F.args_tuple_iterator_next_1 _)))
  show wpAny _ _ (field (.ref p) 0 >>= _) _ _ s
  refine wpAny_bind (wpAny_field b1 b3 (x := .ref q) rfl ?_)
  show wpAny _ _ (if (Value.ref q == Value.none) = true then _ else _) _ _ s
  rw [if_neg (show ¬ ((Value.ref q == Value.none) = true) from Bool.false_ne_true)]
  show wpAny _ _ (field (.ref p) 1 >>= _) _ _ s
  refine wpAny_bind (wpAny_field b1 b3 (x := .int n 0) rfl ?_)
  show wpAny _ _ (seqItems? (.ref q) >>= _) _ _ s
  refine wpAny_bind (wpAny_seqItems b4 b5 ?_)
  simp only [Int.toNat_natCast, a3]
  refine wpAny_bind (wpAny_setField b1 b3 (by simp) (wpAny_pure ⟨v, rfl, wpAny_pure (k _ ?_ (Heap.SameBut.update ..))⟩))
  exact ⟨_, Heap.get?_update_self _ b1 (Obj.isFreed_of_fields (Obj.data_mapFields b3 _)), (Obj.cls_mapFields ..).trans b2, by rw [Obj.data_mapFields b3]; simp [rawInt]⟩
theorem zt_end {p q : Addr} {n : Nat} {xs : Array Value} {Q : Value → Shared → Prop} (hh : A.handled = none) (a1 : s.heap.IsTupleIter p q n) (a2 : s.heap.IsTuple q xs) (a3 : xs[n]? = none)
    (k : ∀ g x, Heap.ExtBut p s.heap g → (∃ o, g.get? x = some o ∧ o.cls = .type "StopIteration") → E (.ref x) { s with heap := g }) : wpAny (model prog w) A (Builtin.SmallTypes.nextOf (.ref p)) Q E s := by
  obtain ⟨ob, b1, b2, b3⟩ := id a1
  obtain ⟨oq, b4, _, m, b5⟩ := a2
  unfold Builtin.SmallTypes.nextOf
  refine wpAny_bind (wpAny_callSpecial?_slot (name := Str.ofString "__next__") a1.typeIs F.slot_tuple_iterator_next (wpAny_call_entry F.slot_tuple_iterator_next a1.typeIs F.entry_tuple_iterator_next ?_ (F.args_tuple_iterator_next_1 _)))
  show wpAny _ _ (field (.ref p) 0 >>= _) _ _ s
  refine wpAny_bind (wpAny_field b1 b3 (x := .ref q) rfl ?_)
  show wpAny _ _ (if (Value.ref q == Value.none) = true then _ else _) _ _ s
  rw [if_neg (show ¬ ((Value.ref q == Value.none) = true) from Bool.false_ne_true)]
  show wpAny _ _ (field (.ref p) 1 >>= _) _ _ s
  refine wpAny_bind (wpAny_field b1 b3 (x := .int n 0) rfl ?_)
  show wpAny _ _ (seqItems? (.ref q) >>= _) _ _ s
  refine wpAny_bind (wpAny_seqItems b4 b5 ?_)
  simp only [Int.toNat_natCast, a3]
  refine wpAny_bind (wpAny_rule (wpAny_bind (wpAny_setField b1 b3 (by simp) ?_)))
  show wpAny _ _ (newExc (.type "StopIteration") [] >>= _) _ _ _
  refine wpAny_bind ?_
  simp only [newExc, newTuple]
  refine wpAny_bind (wpAny_newObj_type ?_ (by size_fits))
  refine wpAny_bind (m := firstArgMember _ _) (wpAny_of_eq (a := Value.none) (by first | rfl | (simp only [firstArgMember]; rfl)) ?_)
  refine wpAny_newObj_type ?_ (by size_fits)
  simp only [raiseNew]
  refine wpAny_bind (wpAny_handled ?_)
  first | rw [show A.in1.handled = none from hh] | rw [hh]
  refine wpAny_bind (wpAny_pure (wpAny_throw ?_))
  exact k _ _ (((Heap.SameBut.update ..).extBut.push _).push _) ⟨_, Heap.get?_push_size _ rfl, rfl⟩
structure ZA (z p o i j a b : Addr) : Prop where
  pz : p ≠ z
  oz : o ≠ z
  iz : i ≠ z
  jz : j ≠ z
  po : p ≠ o
  pi : p ≠ i
  pj : p ≠ j
  oi : o ≠ i
  oj : o ≠ j
  ij : i ≠ j
  az : a ≠ z
  ao : a ≠ o
  ai : a ≠ i
  aj : a ≠ j
  bz : b ≠ z
  bo : b ≠ o
  bi : b ≠ i
  bj : b ≠ j
structure ZS (h : Heap) (z p o i j a b : Addr) (n : Nat) (f : Value) : Prop where
  zz : IsZip h z p o f
  pp : IsPair h p (.ref i) (.ref j)
  oo : ∃ x y, IsPair h o x y
  ii : h.IsTupleIter i a n
  jj : h.IsTupleIter j b n
theorem zt_next {z p o i j a b : Addr} {n : Nat} {xs ys : Array Value} {x y : Value} {Q : Value → Shared → Prop} (D : ZA z p o i j a b) (S : ZS s.heap z p o i j a b n .none) (ha : s.heap.IsTuple a xs) (hb : s.heap.IsTuple b ys) (hx : xs[n]? = some x) (hy : ys[n]? = some y)
    (k : ∀ g, ZS g z p o i j a b (n + 1) (rawInt s.heap.objs.size) → IsPair g s.heap.objs.size x y → g.objs.size = s.heap.objs.size + 1 → (∀ c u, c ≠ z → c ≠ o → c ≠ i → c ≠ j → s.heap.get? c = some u → g.get? c = some u) → Q (.ref s.heap.objs.size) { s with heap := g }) :
    wpAny (model prog w) A (Builtin.«zip.__next__» ⟨[.ref z], []⟩) (fun fin s' => ∃ v, fin = .done (.ret v) ∧ Q v s') E s := by
  obtain ⟨zz, pp, ⟨u1, u2, oo⟩, ii, jj⟩ := S
  show wpAny _ _ (field (.ref z) 2 >>= _) _ _ _
  refine wpAny_bind (wpAny_field zz rfl (x := .bool false) rfl ?_)
  show wpAny _ _ (field (.ref z) 3 >>= _) _ _ _
  refine wpAny_bind (wpAny_field zz rfl (x := .ref p) rfl ?_)
  refine wpAny_bind (wpAny_seqItems pp rfl ?_)
  show wpAny _ _ (Builtin.SmallTypes.ownedTupleIsFree (.ref z) >>= _) _ _ _
  refine wpAny_bind ?_
  unfold Builtin.SmallTypes.ownedTupleIsFree
  refine wpAny_bind (wpAny_field zz rfl (x := .none) rfl (wpAny_pure ?_))
  simp only [if_true]
  refine wpAny_bind (wpAny_rule ?_)
  refine wpAny_bind (wpAny_field zz rfl (x := .ref o) rfl ?_)
  refine wpAny_bind (wpAny_setField_rec zz (by simp) fun g1 z1 k1 => ?_)
  replace z1 : IsZip g1 z p o .ellipsis := z1
  refine wpAny_bind ?_
  simp only [List.zipIdx_cons, List.zipIdx_nil, List.forIn_cons, List.forIn_nil]
  refine wpAny_bind (wpAny_bind (wpAny_onRaise ?_))
  show wpAny _ _ (Builtin.SmallTypes.nextOf (.ref i) >>= _) _ _ _
  have ht : ∀ {g g' : Heap} {q c : Addr} {vs : Array Value}, Heap.SameBut q g g' → c ≠ q → g.IsTuple c vs → g'.IsTuple c vs := fun {g g' q c vs} sb hc ⟨ob, e, r⟩ => ⟨ob, sb.extBut _ _ hc e, r⟩
  refine wpAny_bind (zt_item (ii.extBut k1.extBut D.iz) (ht k1 D.az ha) hx fun g2 i2 k2 => wpAny_pure ?_)
  have o2 : IsPair g2 o u1 u2 := k2.extBut _ _ D.oi (k1.extBut _ _ D.oz oo)
  refine wpAny_bind (wpAny_seqItems o2 rfl ?_)
  refine wpAny_bind (wpAny_updateSeq_pair o2 fun g3 o3 k3 => ?_)
  replace o3 : IsPair g3 o x u2 := o3
  refine wpAny_bind (wpAny_letGo (wpAny_pure ?_))
  refine wpAny_bind (wpAny_bind (wpAny_onRaise ?_))
  show wpAny _ _ (Builtin.SmallTypes.nextOf (.ref j) >>= _) _ _ _
  refine wpAny_bind (zt_item (((jj.extBut k1.extBut D.jz).extBut k2.extBut D.ij.symm).extBut k3.extBut D.oj.symm) (ht k3 D.bo (ht k2 D.bi (ht k1 D.bz hb))) hy fun g4 j4 k4 => wpAny_pure ?_)
  have o4 : IsPair g4 o x u2 := k4.extBut _ _ D.oj o3
  refine wpAny_bind (wpAny_seqItems o4 rfl ?_)
  refine wpAny_bind (wpAny_updateSeq_pair o4 fun g5 o5 k5 => ?_)
  replace o5 : IsPair g5 o x y := o5
  refine wpAny_bind (wpAny_letGo (wpAny_pure (wpAny_pure ?_)))
  refine wpAny_bind (wpAny_seqItems o5 rfl ?_)
  refine wpAny_bind (wpAny_newTuple ?_)
  have sz : g5.objs.size = s.heap.objs.size := by rw [k5.1, k4.1, k3.1, k2.1, k1.1]
  have z5 : IsZip g5 z p o .ellipsis := k5.extBut _ _ D.oz.symm (k4.extBut _ _ D.jz.symm (k3.extBut _ _ D.oz.symm (k2.extBut _ _ D.iz.symm z1)))
  have kk : ∀ c u, c ≠ z → c ≠ o → c ≠ i → c ≠ j → s.heap.get? c = some u → g5.get? c = some u := fun c u c1 c2 c3 c4 e => k5.extBut _ _ c2 (k4.extBut _ _ c4 (k3.extBut _ _ c2 (k2.extBut _ _ c3 (k1.extBut _ _ c1 e))))
  have i5 : g5.IsTupleIter i a (n + 1) := ((i2.extBut k3.extBut D.oi.symm).extBut k4.extBut D.ij).extBut k5.extBut D.oi.symm
  have j5 : g5.IsTupleIter j b (n + 1) := j4.extBut k5.extBut D.oj.symm
  have zl : z < g5.objs.size := Heap.lt_size z5
  show wpAny _ _ (Builtin.SmallTypes.ownedTupleHandOut (.ref z) (.ref g5.objs.size) >>= _) _ _ _
  refine wpAny_bind ?_
  unfold Builtin.SmallTypes.ownedTupleHandOut
  have z6 : IsZip (g5.push { cls := .type "tuple", data := .seq #[x, y] }) z p o .ellipsis := Heap.get?_push_of_some _ z5
  refine wpAny_bind (wpAny_setField_rec z6 (by simp) fun g7 z7 k7 => ?_)
  replace z7 : IsZip g7 z p o (rawInt g5.objs.size) := z7
  refine wpAny_setField_rec z7 (by simp) fun g8 z8 k8 => ?_
  replace z8 : IsZip g8 z p o (rawInt g5.objs.size) := z8
  have up : ∀ c u, c ≠ z → g5.get? c = some u → g8.get? c = some u := fun c u c1 e => k8.extBut _ _ c1 (k7.extBut _ _ c1 (Heap.get?_push_of_some _ e))
  have t8 : IsPair g8 g5.objs.size x y := k8.extBut _ _ (Nat.ne_of_gt zl) (k7.extBut _ _ (Nat.ne_of_gt zl) (Heap.get?_push_size _ rfl))
  have s8 : g8.objs.size = g5.objs.size + 1 := by rw [k8.1, k7.1, Heap.size_push]
  rw [sz] at z8 t8 s8
  refine wpAny_pure ⟨_, rfl, ?_⟩
  show Q (.ref g5.objs.size) _
  rw [sz]
  exact k g8 ⟨z8, up _ _ D.pz (kk _ _ D.pz D.po D.pi D.pj pp), ⟨x, y, up _ _ D.oz o5⟩, i5.at fun u e => up _ u D.iz e, j5.at fun u e => up _ u D.jz e⟩ t8 s8 fun c u c1 c2 c3 c4 e => up c u c1 (kk c u c1 c2 c3 c4 e)
theorem zt_stop {z p o i j a b : Addr} {n : Nat} {xs ys : Array Value} {Q : PySem.Fin → Shared → Prop} (hh : A.handled = none) (D : ZA z p o i j a b) (S : ZS s.heap z p o i j a b n .none) (ha : s.heap.IsTuple a xs) (hb : s.heap.IsTuple b ys) (he : xs[n]? = none ∨ ys[n]? = none)
    (k : ∀ g x, (∀ c u, c ≠ z → c ≠ o → c ≠ i → c ≠ j → s.heap.get? c = some u → g.get? c = some u) → (∃ u, g.get? x = some u ∧ u.cls = .type "StopIteration") → E (.ref x) { s with heap := g }) :
    wpAny (model prog w) A (Builtin.«zip.__next__» ⟨[.ref z], []⟩) Q E s := by
  obtain ⟨zz, pp, ⟨u1, u2, oo⟩, ii, jj⟩ := S
  have ht : ∀ {g g' : Heap} {q c : Addr} {vs : Array Value}, Heap.SameBut q g g' → c ≠ q → g.IsTuple c vs → g'.IsTuple c vs := fun {g g' q c vs} sb hc ⟨ob, e, r⟩ => ⟨ob, sb.extBut _ _ hc e, r⟩
  show wpAny _ _ (field (.ref z) 2 >>= _) _ _ _
  refine wpAny_bind (wpAny_field zz rfl (x := .bool false) rfl ?_)
  show wpAny _ _ (field (.ref z) 3 >>= _) _ _ _
  refine wpAny_bind (wpAny_field zz rfl (x := .ref p) rfl ?_)
  refine wpAny_bind (wpAny_seqItems pp rfl ?_)
  show wpAny _ _ (Builtin.SmallTypes.ownedTupleIsFree (.ref z) >>= _) _ _ _
  refine wpAny_bind ?_
  unfold Builtin.SmallTypes.ownedTupleIsFree
  refine wpAny_bind (wpAny_field zz rfl (x := .none) rfl (wpAny_pure ?_))
  simp only [if_true]
  refine wpAny_bind (wpAny_rule ?_)
  refine wpAny_bind (wpAny_field zz rfl (x := .ref o) rfl ?_)
  refine wpAny_bind (wpAny_setField_rec zz (by simp) fun g1 z1 k1 => ?_)
  replace z1 : IsZip g1 z p o .ellipsis := z1
  refine wpAny_bind ?_
  simp only [List.zipIdx_cons, List.zipIdx_nil, List.forIn_cons, List.forIn_nil]
  refine wpAny_bind (wpAny_bind (wpAny_onRaise ?_))
  show wpAny _ _ (Builtin.SmallTypes.nextOf (.ref i) >>= _) _ _ _
  cases hx : xs[n]? with
  | none =>
    refine wpAny_bind (zt_end hh (ii.extBut k1.extBut D.iz) (ht k1 D.az ha) hx fun g2 x k2 h2 => ?_)
    obtain ⟨oe, h3, h4⟩ := h2
    have z2 : IsZip g2 z p o .ellipsis := k2 _ _ D.iz.symm z1
    have xz : x ≠ z := fun q => by subst q; rw [z2] at h3; cases h3; simp at h4
    exact wpAny_setField_rec z2 (by simp) fun g3 _ k3 => k g3 x (fun c u c1 _ c3 _ e => k3.extBut _ _ c1 (k2 _ _ c3 (k1.extBut _ _ c1 e))) ⟨oe, k3.extBut _ _ xz h3, h4⟩
  | some x0 =>
    have hy : ys[n]? = none := by rcases he with h | h; rw [hx] at h; cases h; exact h
    refine wpAny_bind (zt_item (ii.extBut k1.extBut D.iz) (ht k1 D.az ha) hx fun g2 i2 k2 => wpAny_pure ?_)
    have o2 : IsPair g2 o u1 u2 := k2.extBut _ _ D.oi (k1.extBut _ _ D.oz oo)
    refine wpAny_bind (wpAny_seqItems o2 rfl ?_)
    refine wpAny_bind (wpAny_updateSeq_pair o2 fun g3 o3 k3 => ?_)
    refine wpAny_bind (wpAny_letGo (wpAny_pure ?_))
    refine wpAny_bind (wpAny_bind (wpAny_onRaise ?_))
    show wpAny _ _ (Builtin.SmallTypes.nextOf (.ref j) >>= _) _ _ _
    refine wpAny_bind (zt_end hh (((jj.extBut k1.extBut D.jz).extBut k2.extBut D.ij.symm).extBut k3.extBut D.oj.symm) (ht k3 D.bo (ht k2 D.bi (ht k1 D.bz hb))) hy fun g4 x k4 h2 => ?_)
    obtain ⟨oe, h3, h4⟩ := h2
    have z4 : IsZip g4 z p o .ellipsis := k4 _ _ D.jz.symm (k3.extBut _ _ D.oz.symm (k2.extBut _ _ D.iz.symm z1))
    have xz : x ≠ z := fun q => by subst q; rw [z4] at h3; cases h3; simp at h4
    exact wpAny_setField_rec z4 (by simp) fun g5 _ k5 => k g5 x (fun c u c1 c2 c3 c4 e => k5.extBut _ _ c1 (k4 _ _ c4 (k3.extBut _ _ c2 (k2.extBut _ _ c3 (k1.extBut _ _ c1 e))))) ⟨oe, k5.extBut _ _ xz h3, h4⟩
end
end L2
namespace L2
open PySem PySem.Spec PyProof.Rows
section
variable {X : Cx} {pins : List (Addr × Obj)} {σ : L2.St} {H : Hp} {s : Shared} {h' : Heap}
theorem Inv.turnL {t' : Nat} {fp : List Addr} (I : Inv X pins σ H s) (hf : ∀ b ∈ fp, FpOk X pins H b) (k : ∀ b o, b ∉ fp → s.heap.get? b = some o → h'.get? b = some o) : Inv X pins σ H { s with heap := h', toks := t' } := by
  refine I.step (g' := s.gens) (d' := s.drawn) (ch := fp) (fun b hb => ⟨(hf b hb).2.2.2.1, (hf b hb).2.1, (hf b hb).2.2.2.2.1, (hf b hb).2.2.2.2.2⟩) (fun b o _ _ hc e _ => k b o hc e) (fun b o _ _ hc e _ => ⟨o.slots, k b o hc e⟩) (fun _ _ _ _ n => n)
    (fun b o hc e => ⟨o, k b o hc e⟩) (fun _ _ e => e) (fun _ _ _ e => e) (fun b ps e => ⟨#[], by rw [e]; simp⟩) (fun m hm => ?_) (fun b u e => ?_) I.bare
  · obtain ⟨o, es, ep, ho, r⟩ := hm
    exact ⟨o, es, ep, k _ o (fun z => (hf _ z).2.1 rfl) ho, r⟩
  · have nf : ∀ c u, H c = some u → c ∉ fp := fun c u q z => by rw [(hf c z).1] at q; cases q
    refine (I.hok b u e).stay (fun c v hc q => k c v ?_ q) (fun _ q => q) fun _ _ q => q
    rcases hc with z | z
    · rw [z]; exact nf b u e
    · exact nf c _ z
theorem Inv.turnNew {t' : Nat} {fp : List Addr} {vs : List V} {us : List Value} (I : Inv X pins σ H s) (hf : ∀ b ∈ fp, FpOk X pins H b) (k : ∀ b o, b ∉ fp → s.heap.get? b = some o → h'.get? b = some o)
    (hv : Vals vs us) (hz : vs.length ≤ sizeLine) (hT : IsTup h' s.heap.objs.size us.toArray) : Inv X pins σ (upd H s.heap.objs.size (.tup vs)) { s with heap := h', toks := t' } := by
  have hn : H s.heap.objs.size = none := I.hok.fresh (Nat.le_refl _)
  refine I.step (g' := s.gens) (d' := s.drawn) (ch := fp) (fun b hb => ⟨(hf b hb).2.2.2.1, (hf b hb).2.1, (hf b hb).2.2.2.2.1, (hf b hb).2.2.2.2.2⟩) (fun b o _ _ hc e _ => k b o hc e) (fun b o _ _ hc e _ => ⟨o.slots, k b o hc e⟩)
    (fun b o _ e n => by rw [upd_ne (Nat.ne_of_lt (Heap.lt_size e))]; exact n) (fun b o hc e => ⟨o, k b o hc e⟩) (fun b xs e => by rw [upd_ne (ne_of_none e hn)]; exact e) (fun b o u e => by rw [upd_ne (ne_of_none e hn)]; exact e) (fun b ps e => ⟨#[], by rw [upd_ne (ne_of_none e hn), e]; simp⟩) (fun m hm => ?_) (fun b u e => ?_) I.bare
  · obtain ⟨o, es, ep, ho, r⟩ := hm
    exact ⟨o, es, ep, k _ o (fun z => (hf _ z).2.1 rfl) ho, r⟩
  · by_cases hb : b = s.heap.objs.size
    · subst hb
      rw [upd_same] at e; cases e
      exact ⟨hz, us, hv, hT⟩
    · rw [upd_ne hb] at e
      have nf : ∀ c u, H c = some u → c ∉ fp := fun c u q z => by rw [(hf c z).1] at q; cases q
      refine (I.hok b u e).stay (fun c v hc q => k c v ?_ q) (fun c q => by rw [upd_ne (ne_of_none q hn)]; exact q) fun c xs q => by rw [upd_ne (ne_of_none q hn)]; exact q
      rcases hc with z | z
      · rw [z]; exact nf b u e
      · exact nf c _ z
end
def Itz (K : PySem.W.Frag) (a b : Addr) : It :=
  ⟨fun i H => ∃ xs ys x y, SqT K H a xs ∧ SqT K H b ys ∧ xs[i]? = some x ∧ ys[i]? = some y,
   fun i H v H' => ∃ p x y, H p = none ∧ (∀ xs, SqT K H a xs → xs[i]? = some x) ∧ (∀ ys, SqT K H b ys → ys[i]? = some y) ∧ v = .ref p ∧ H' = upd H p (.tup [x, y]),
   fun i H => ∃ xs ys, SqT K H a xs ∧ SqT K H b ys ∧ (xs.length ≤ i ∨ ys.length ≤ i)⟩
theorem ZS.at {h h' : Heap} {z p o i j a b : Addr} {n : Nat} {f : Value} (S : ZS h z p o i j a b n f) (k : ∀ c ∈ [z, p, o, i, j], ∀ u, h.get? c = some u → h'.get? c = some u) : ZS h' z p o i j a b n f := by
  obtain ⟨zz, pp, ⟨u1, u2, oo⟩, ii, jj⟩ := S
  exact ⟨k z (by simp) _ zz, k p (by simp) _ pp, ⟨u1, u2, k o (by simp) _ oo⟩, ii.at fun u e => k i (by simp) u e, jj.at fun u e => k j (by simp) u e⟩
theorem turn_zip {P : Program} {w : World} {K : PySem.W.Frag} {elts : List Expr} {kt : Nat} {pos : Pos} {z p o i j a b : Addr} (D : ZA z p o i j a b) : Turn P w K (.Tuple elts kt pos) (Itz K a b) [z, p, o, i, j] z (fun n h => ZS h z p o i j a b n .none) where
  mem := by simp
  obj := fun n h S c hc => by
    obtain ⟨zz, pp, ⟨u1, u2, oo⟩, ⟨oi, ei, ci, di⟩, ⟨oj, ej, cj, dj⟩⟩ := S
    simp only [List.mem_cons, List.not_mem_nil, or_false] at hc
    rcases hc with rfl | rfl | rfl | rfl | rfl
    · exact ⟨_, zz, fun v q => by have q' : Data.fields _ = Data.cell v := q; cases q'⟩
    · exact ⟨_, pp, fun v q => by have q' : Data.seq _ _ = Data.cell v := q; cases q'⟩
    · exact ⟨_, oo, fun v q => by have q' : Data.seq _ _ = Data.cell v := q; cases q'⟩
    · exact ⟨oi, ei, fun v q => by rw [di] at q; cases q⟩
    · exact ⟨oj, ej, fun v q => by rw [dj] at q; cases q⟩
  keep := fun n h h' S k => S.at k
  item := by
    intro X hP hw hK hc n pins s σ H E I hf S hg
    subst hP hw hK
    obtain ⟨xs, ys, x, y, qa, qb, hx, hy⟩ := hg
    obtain ⟨ia, ra, pa, _⟩ := I.tuple qa
    obtain ⟨ib, rb, pb, _⟩ := I.tuple qb
    obtain ⟨u, hu, ru⟩ := ra.get hx
    obtain ⟨v, hv, rv⟩ := rb.get hy
    have hT : s.TypeIs (.ref z) "zip" := ⟨_, S.zz, rfl⟩
    unfold pyNext
    refine wpAny_bind (wpAny_attempt (wpAny_callSpecial?_slot (name := Str.ofString "__next__") hT F.slot_zip_next (wpAny_call_entry F.slot_zip_next hT F.entry_zip_next
      (zt_next D S (show s.heap.IsTuple a ia.toArray from pa) (show s.heap.IsTuple b ib.toArray from pb) (by simpa using hu) (by simpa using hv) fun g S' tp sz kp => wpAny_pure ?_) (F.args_zip_next_1 _))))
    refine ⟨_, rfl, wpAny_letOwnedTupleGo_zip S'.zz fun g' z' sb => ?_⟩
    have kp' : ∀ c q, c ∉ [z, p, o, i, j] → s.heap.get? c = some q → g'.get? c = some q := fun c q hc e => by
      simp only [List.mem_cons, List.not_mem_nil, or_false, not_or] at hc
      exact sb.extBut _ _ hc.1 (kp c q hc.1 hc.2.2.1 hc.2.2.2.1 hc.2.2.2.2 e)
    have zl : z < s.heap.objs.size := Heap.lt_size S.zz
    have tp' : IsPair g' s.heap.objs.size u v := sb.extBut _ _ (Nat.ne_of_gt zl) tp
    have ne : ∀ c ∈ [z, p, o, i, j], c ≠ s.heap.objs.size := fun c hc e => by
      have q := (hf c hc)
      obtain ⟨zz, pp, ⟨u1, u2, oo⟩, ⟨oi, ei, _⟩, ⟨oj, ej, _⟩⟩ := S
      simp only [List.mem_cons, List.not_mem_nil, or_false] at hc
      rcases hc with rfl | rfl | rfl | rfl | rfl
      · exact Nat.ne_of_lt (Heap.lt_size zz) e
      · exact Nat.ne_of_lt (Heap.lt_size pp) e
      · exact Nat.ne_of_lt (Heap.lt_size oo) e
      · exact Nat.ne_of_lt (Heap.lt_size ei) e
      · exact Nat.ne_of_lt (Heap.lt_size ej) e
    refine ⟨.ref s.heap.objs.size, upd H s.heap.objs.size (.tup [x, y]), I.turnNew (t' := s.toks) hf kp' (us := [u, v]) (.cons ru (.cons rv .nil)) (show 2 ≤ sizeLine by decide) ⟨_, tp', rfl, _, rfl⟩, rfl,
      ⟨_, x, y, I.hok.fresh (Nat.le_refl _), fun xs' h => by rw [I.tuple_inj h qa]; exact hx, fun ys' h => by rw [I.tuple_inj h qb]; exact hy, rfl, rfl⟩, ?_, fun c hc => ?_⟩
    · obtain ⟨_, pp, ⟨u1, u2, oo⟩, ii, jj⟩ := S'
      exact ⟨z', sb.extBut _ _ D.pz pp, ⟨u1, u2, sb.extBut _ _ D.oz oo⟩, ii.extBut sb.extBut D.iz, jj.extBut sb.extBut D.jz⟩
    · rw [upd_ne (ne c hc)]; exact (hf c hc).1
  done := by
    intro X hP hw hK hc n pins s σ H E I hf S hg
    subst hP hw hK
    obtain ⟨xs, ys, qa, qb, hs⟩ := hg
    obtain ⟨ia, ra, pa, _⟩ := I.tuple qa
    obtain ⟨ib, rb, pb, _⟩ := I.tuple qb
    have l1 := ra.length
    have l2 := rb.length
    have hT : s.TypeIs (.ref z) "zip" := ⟨_, S.zz, rfl⟩
    unfold pyNext
    refine wpAny_bind (wpAny_attempt (wpAny_callSpecial?_slot (name := Str.ofString "__next__") hT F.slot_zip_next (wpAny_call_entry F.slot_zip_next hT F.entry_zip_next
      (zt_stop (I.ok.hd hc) D S (show s.heap.IsTuple a ia.toArray from pa) (show s.heap.IsTuple b ib.toArray from pb) (by rcases hs with q | q; exact .inl (by simp; omega); exact .inr (by simp; omega)) fun g x kp hx => ?_) (F.args_zip_next_1 _))))
    obtain ⟨ox, h1, h2⟩ := hx
    refine wpAny_bind (wpAny_isInstance (T := "StopIteration") (b := true) ⟨ox, h1, h2⟩ isSubtype_stop ?_)
    refine wpAny_pure ⟨rfl, I.turnL (t' := s.toks) hf fun c q hc e => ?_⟩
    simp only [List.mem_cons, List.not_mem_nil, or_false, not_or] at hc
    exact kp c q hc.1 hc.2.2.1 hc.2.2.2.1 hc.2.2.2.2 e
  self := fun _ _ _ _ _ S h => wpAny_pyIter_zip S.zz h
abbrev zt1 (h : Heap) (a : Addr) : Heap := h.push { cls := .type "tuple_iterator", data := .fields #[.ref a, .int 0 0] }
abbrev zt2 (h : Heap) (a b : Addr) : Heap := (zt1 h a).push { cls := .type "tuple_iterator", data := .fields #[.ref b, .int 0 0] }
abbrev zt3 (h : Heap) (a b : Addr) : Heap := (zt2 h a b).push { cls := .type "tuple", data := .seq #[.ref h.objs.size, .ref (zt1 h a).objs.size] }
abbrev zt4 (h : Heap) (a b : Addr) : Heap := (zt3 h a b).push { cls := .type "tuple", data := .seq #[.none, .none] }
abbrev zt5 (h : Heap) (a b : Addr) : Heap := (zt4 h a b).push { cls := .type "zip", data := .fields #[.none, .bool false, .bool false, .ref (zt2 h a b).objs.size, .ref (zt3 h a b).objs.size] }
theorem zt_made (a b : Addr) (xs ys : Array Value) : Meets (Builtin.«zip.__new__» ⟨[.type "zip", .ref a, .ref b], []⟩) (fun _ R s => s.heap.IsTuple a xs ∧ s.heap.IsTuple b ys ∧ R (.ok (.ret (.ref (zt4 s.heap a b).objs.size))) { s with heap := zt5 s.heap a b }) :=
  .of_wp fun prog w A R s h => by
    obtain ⟨hp, g, d, tk, os⟩ := s; obtain ⟨q1, q2, h⟩ := h
    have hsub := sub_zip
    have t1 : Heap.IsTuple (Shared.heap ⟨hp, g, d, tk, os⟩) a xs := q1
    have t2 : Heap.IsTuple (Shared.heap ⟨hp.push { cls := .type "tuple_iterator", data := .fields #[.ref a, .int 0 0] }, g, d, tk, os⟩) b ys := let ⟨ob, e, r⟩ := q2; ⟨ob, Heap.get?_push_of_some _ e, r⟩
    wp_walk using wpAny_pyIter_tuple t1, wpAny_pyIter_tuple t2
    exact ⟨_, rfl, h⟩
section
variable {X : Cx} {elts : List Expr} {kt : Nat} {p2 : Pos}
def iZipT (K : PySem.W.Frag) (ta : TA) : TI := fun σ H R => ta σ H fun vs H1 => ∃ a b xs ys, vs = [.ref a, .ref b] ∧ SqT K H1 a xs ∧ SqT K H1 b ys ∧ R (Itz K a b) H1
theorem zip_it {pins : List (Addr × Obj)} {σ : L2.St} {H : Hp} {s : Shared} {R : It → Hp → Prop} {E : Value → Shared → Prop} {a b : Addr} {xs ys : List V} (I : Inv X pins σ H s) (qa : SqT X.K H a xs) (qb : SqT X.K H b ys) (q : R (Itz X.K a b) H) :
    wpAny (model X.prog X.w) X.A (call (.type "zip") [.ref a, .ref b]) (fun v s1 => wpAny (model X.prog X.w) X.A (pyIter v) (PIE X pins σ (.Tuple elts kt p2) R) E s1) E s := by
  obtain ⟨ia, ra, pa, _⟩ := I.tuple qa
  obtain ⟨ib, rb, pb, _⟩ := I.tuple qb
  refine callType_new F.called_zip (by decide) (F.typeCall_zip_2 _ _) (F.newCall_zip_2 _ _) (fun obj => F.args_object_init_3 obj _ _) F.entry_zip_new (zt_made a b ia.toArray ib.toArray) ⟨show s.heap.IsTuple a ia.toArray from pa, show s.heap.IsTuple b ib.toArray from pb, ?_⟩
  have z1 : (zt1 s.heap a).objs.size = s.heap.objs.size + 1 := Heap.size_push ..
  have z2 : (zt2 s.heap a b).objs.size = s.heap.objs.size + 2 := by rw [Heap.size_push, z1]
  have z3 : (zt3 s.heap a b).objs.size = s.heap.objs.size + 3 := by rw [Heap.size_push, z2]
  have z4 : (zt4 s.heap a b).objs.size = s.heap.objs.size + 4 := by rw [Heap.size_push, z3]
  have g5 : (zt5 s.heap a b).get? (zt4 s.heap a b).objs.size = some _ := Heap.get?_push_size _ rfl
  have g4 : (zt5 s.heap a b).get? (zt3 s.heap a b).objs.size = some _ := Heap.get?_push_of_some _ (Heap.get?_push_size _ rfl)
  have g3 : (zt5 s.heap a b).get? (zt2 s.heap a b).objs.size = some _ := Heap.get?_push_of_some _ (Heap.get?_push_of_some _ (Heap.get?_push_size _ rfl))
  have g2 : (zt5 s.heap a b).get? (zt1 s.heap a).objs.size = some _ := Heap.get?_push_of_some _ (Heap.get?_push_of_some _ (Heap.get?_push_of_some _ (Heap.get?_push_size _ rfl)))
  have g1 : (zt5 s.heap a b).get? s.heap.objs.size = some _ := Heap.get?_push_of_some _ (Heap.get?_push_of_some _ (Heap.get?_push_of_some _ (Heap.get?_push_of_some _ (Heap.get?_push_size _ rfl))))
  show _ ∧ _
  have kp : ∀ c o, s.heap.get? c = some o → (zt5 s.heap a b).get? c = some o := fun c o e => Heap.get?_push_of_some _ (Heap.get?_push_of_some _ (Heap.get?_push_of_some _ (Heap.get?_push_of_some _ (Heap.get?_push_of_some _ e))))
  refine ⟨⟨_, g5, rfl⟩, ?_⟩
  rw [z2, z3, z4] at g5
  rw [z1, z2] at g3
  rw [z3] at g4
  rw [z1] at g2
  rw [z4]
  have la : a < s.heap.objs.size := by obtain ⟨o, e, _⟩ := pa; exact Heap.lt_size e
  have lb : b < s.heap.objs.size := by obtain ⟨o, e, _⟩ := pb; exact Heap.lt_size e
  have D : ZA (s.heap.objs.size + 4) (s.heap.objs.size + 2) (s.heap.objs.size + 3) s.heap.objs.size (s.heap.objs.size + 1) a b := by constructor <;> first | exact Nat.ne_of_lt la | exact Nat.ne_of_lt lb | exact Nat.ne_of_lt (Nat.lt_of_lt_of_le la (Nat.le_add_right _ _)) | exact Nat.ne_of_lt (Nat.lt_of_lt_of_le lb (Nat.le_add_right _ _)) | exact Nat.ne_of_lt (by omega) | exact Nat.ne_of_gt (by omega)
  have I1 : Inv X pins σ H { s with heap := zt5 s.heap a b } := I.kept (t' := s.toks) kp
  have S : ZS (zt5 s.heap a b) (s.heap.objs.size + 4) (s.heap.objs.size + 2) (s.heap.objs.size + 3) s.heap.objs.size (s.heap.objs.size + 1) a b 0 .none := ⟨g5, g3, ⟨_, _, g4⟩, ⟨_, g1, rfl, rfl⟩, ⟨_, g2, rfl, rfl⟩⟩
  refine wpAny_pyIter_zip (s := { s with heap := zt5 s.heap a b }) S.zz ⟨_, [s.heap.objs.size + 4, s.heap.objs.size + 2, s.heap.objs.size + 3, s.heap.objs.size, s.heap.objs.size + 1], _, Itz X.K a b, H, rfl, I1, turn_zip D, S, fun c hc => ?_, q⟩
  have hc' : s.heap.objs.size ≤ c := by
    simp only [List.mem_cons, List.not_mem_nil, or_false] at hc
    rcases hc with rfl | rfl | rfl | rfl | rfl <;> first | exact Nat.le_refl _ | exact Nat.le_add_right _ _
  exact I.fpOk hc' (I.hok.fresh hc')
theorem pi_zip {x y : Expr} {ta : TA} {p pos : Pos} (hg : Gl X "zip") (hm : X.mg "zip" = none) (ha : PA X [x, y] ta) (hs : starEach [x, y] X.env = [(false, eval x X.env), (false, eval y X.env)] := by rfl) (hs2 : starEach [y] X.env = [(false, eval y X.env)] := by rfl) :
    PI X (.Tuple elts kt p2) (.Call (.Name "zip" p) [x, y] [] pos) (iZipT X.K ta) := by
  intro pins s σ H R I h
  refine Call_ (ld_blt I hg hm boot_zip (PyProof.Rows.callWith_type1 (thn (ha pos pins s σ H _ I h) fun us s1 ⟨vs, H1, I1, r1, q1⟩ => ?_) (by rw [hs, hs2]) (by rw [hs2]; rfl)))
  obtain ⟨a, b, xs, ys, e, qa, qb, q⟩ := q1
  subst e
  cases r1 with
  | cons r rr =>
    cases rr with
    | cons r' rr =>
      cases rr
      cases r
      cases r'
      exact zip_it I1 qa qb q
end
end L2
namespace D
open PySem PySem.Spec PyProof.Rows L2
def zipL : List DV → List DV → List DV
  | x :: xs, y :: ys => .tup [x, y] :: zipL xs ys
  | _, _ => []
theorem zipL_get : ∀ {xs ys : List DV} {i : Nat} {d : DV}, (zipL xs ys)[i]? = some d → ∃ x y, xs[i]? = some x ∧ ys[i]? = some y ∧ d = .tup [x, y]
  | x :: xs, y :: ys, 0, d, h => by simp [zipL] at h; exact ⟨x, y, rfl, rfl, h.symm⟩
  | x :: xs, y :: ys, i + 1, d, h => by
    obtain ⟨a, b, h1, h2, h3⟩ := zipL_get (xs := xs) (ys := ys) (i := i) (by simpa [zipL] using h)
    exact ⟨a, b, by simpa using h1, by simpa using h2, h3⟩
  | [], _, _, _, h => by simp [zipL] at h
  | _ :: _, [], _, _, h => by simp [zipL] at h
theorem zipL_len : ∀ (xs ys : List DV), (zipL xs ys).length = min xs.length ys.length
  | x :: xs, y :: ys => by simp only [zipL, List.length_cons, zipL_len xs ys]; omega
  | [], _ => by simp [zipL]
  | _ :: _, [] => by simp [zipL]
def iZip (f g : DEx) : DIx := fun env => do
  let x ← f env
  let xs ← tupD x
  let y ← g env
  let ys ← tupD y
  pure (zipL xs ys)
theorem it_zip {K : PySem.W.Frag} {ρ : List Addr} {B : Addr → Prop} {H : Hp} {ds es : List DV} {a b : Addr} {xs ys : List V} (na : ¬ B a) (qa : SqT K H a xs) (ra : RepL K ρ B H ds xs) (nb : ¬ B b) (qb : SqT K H b ys) (rb : RepL K ρ B H es ys) : ItOk K ρ B H (zipL ds es) (Itz K a b) := fun ρ1 B1 H1 g r1 t1 => by
  have qa1 := g.sqT na qa
  have qb1 := g.sqT nb qb
  have ra1 := RepL.gs g _ _ ra
  have rb1 := RepL.gs g _ _ rb
  refine ⟨fun i d e => ?_, xs, ys, qa1, qb1, ?_⟩
  · obtain ⟨x, y, h1, h2, rfl⟩ := zipL_get e
    obtain ⟨u, hu, ru⟩ := ra1.get h1
    obtain ⟨v, hv, rv⟩ := rb1.get h2
    refine ⟨⟨xs, ys, u, v, qa1, qb1, hu, hv⟩, fun z H' ⟨p, u', v', hn, h3, h4, e1, e2⟩ => ?_⟩
    subst e1 e2
    have e3 := h3 xs qa1
    have e4 := h4 ys qb1
    rw [hu] at e3; cases e3
    rw [hv] at e4; cases e4
    refine ⟨rep_tup (fun z => t1 p z hn) (SqT.of upd_same) (RepL.gs (upd_gs r1 hn) _ _ (RepL.cons ru (RepL.one rv))), .inr ⟨p, _, hn, rfl⟩⟩
  · rw [zipL_len, ra1.length, rb1.length]
    rcases Nat.le_total xs.length ys.length with q | q
    · exact .inl (by rw [Nat.min_eq_left q]; exact Nat.le_refl _)
    · exact .inr (by rw [Nat.min_eq_right q]; exact Nat.le_refl _)
section
variable {X : Cx} {elts : List Expr} {kt : Nat} {p2 : Pos} {f g : DEx}
theorem di_zip {x y : Expr} {p pos : Pos} (hg : Gl X "zip") (hm : X.mg "zip" = none) (hx : DE X x f) (hy : DE X y g) (hs : starEach [x, y] X.env = [(false, eval x X.env), (false, eval y X.env)] := by rfl) (hs2 : starEach [y] X.env = [(false, eval y X.env)] := by rfl) :
    DI X (.Tuple elts kt p2) (.Call (.Name "zip" p) [x, y] [] pos) (iZip f g) :=
  L2.PI.imp (pi_zip hg hm (pa_cons hx (pa_cons hy pa_nil (by rw [hs2]; rfl)) (by rw [hs, hs2])) hs hs2) fun σ H R ⟨Z, env, ρ, B, hp, ds, hp', S, e, k⟩ => by
    obtain ⟨d1, hp1, e1, e⟩ := bind_some e
    obtain ⟨xs, hp2, e2, e⟩ := bind_some e
    obtain ⟨rfl, rfl⟩ := tupD_some e2
    obtain ⟨d2, hp3, e3, e⟩ := bind_some e
    obtain ⟨ys, hp4, e4, e⟩ := bind_some e
    obtain ⟨rfl, rfl⟩ := tupD_some e4
    obtain ⟨rfl, rfl⟩ := pure_some e
    refine tD.run S e1 fun v ρ1 B1 H1 g1 S1 r1 => tD.run S1 e3 fun u ρ2 B2 H2 g2 S2 r2 => ?_
    obtain ⟨a, vs, rfl, na, qa, la⟩ := (RepV.grow S1.wo.rb g2 _ _ r1).tupI
    obtain ⟨b, us, rfl, nb, qb, lb⟩ := r2.tupI
    exact ⟨a, b, vs, us, rfl, qa, qb, k _ ρ2 B2 H2 (g1.trans g2) S2.wo (it_zip na qa la nb qb lb)⟩
def gT (ix : List Nat) : DGx := fun d env => do
  let ds ← tupD d
  guardM (decide (ds.length = ix.length))
  pure ((ix.zip ds).foldl (fun en q => en.set q.1 (.val q.2)) env)
def NamesAt (X : Cx) : List Nat → List Expr → Prop
  | [], [] => True
  | i :: is, .Name x _ :: es => X.N[i]? = some x ∧ Loc X.env.scope x ∧ (X.fn x = true ∨ X.env.scope.names.lookup x = some .local) ∧ NamesAt X is es
  | _, _ => False
theorem pgs_names (hN : X.N.Nodup) : ∀ (ix : List Nat) (es : List Expr), NamesAt X ix es → (∀ es' x p, (assignEach (.Name x p :: es') X.env).map (·.2) = assign (.Name x p) X.env :: (assignEach es' X.env).map (·.2)) →
    PGs X es (fun vs σ H Q => vs.length = ix.length ∧ Q ((ix.zip vs).foldl (fun s q => s.set q.1 (some q.2)) σ) H)
  | [], [], _, _ => by
    intro pins s σ H vs us Q I r h
    obtain ⟨h1, h2⟩ := h
    have : vs = [] := by cases vs with | nil => rfl | cons _ _ => simp at h1
    subst this
    exact pgs_nil pins s σ H [] us Q I r ⟨rfl, by simpa using h2⟩
  | i :: is, .Name x p :: es, ⟨h1, h2, h3, h4⟩, ha => by
    intro pins s σ H vs us Q I r h
    obtain ⟨h5, h6⟩ := h
    cases vs with
    | nil => simp at h5
    | cons v vs =>
      exact pgs_cons (pg_name hN h1 h2 h3) (pgs_names hN is es h4 ha) (ha _ _ _) pins s σ H (v :: vs) us Q I r ⟨v, vs, rfl, by simpa using h5, by simpa using h6⟩
theorem fold_ok {K : PySem.W.Frag} {Z : Ent} {ρ : List Addr} {B : Addr → Prop} {hp : Hs} {H : Hp} : ∀ (ix : List Nat) (ds : List DV) (vs : List V) {env : En} {σ : L2.St}, RepL K ρ B H ds vs → SOk K Z env σ ρ B hp H →
    SOk K Z ((ix.zip ds).foldl (fun en q => en.set q.1 (.val q.2)) env) ((ix.zip vs).foldl (fun s q => s.set q.1 (some q.2)) σ) ρ B hp H
  | [], _, _, _, _, _, S => by simpa using S
  | i :: is, [], _, _, _, r, S => by unfold RepL at r; subst r; simpa using S
  | i :: is, d :: ds, _, _, _, r, S => by
    unfold RepL at r
    obtain ⟨v, vs, rfl, r1, r2⟩ := r
    simpa using fold_ok is ds vs r2 (S.set (i := i) r1)
theorem dg_tup (ix : List Nat) (hN : X.N.Nodup) (hn : NamesAt X ix elts) (hc : X.calm = true) (ha : ∀ es' x p, (assignEach (.Name x p :: es') X.env).map (·.2) = assign (.Name x p) X.env :: (assignEach es' X.env).map (·.2))
    (hl : (assignEach elts X.env).length = ix.length := by rfl) (hst : (assignEach elts X.env).findIdx? (·.1) = none := by rfl) : PG X (.Tuple elts kt p2) (tDG X.K (gT ix)) := by
  intro pins s σ H v u Q I r h
  refine pg_tup hc (pgs_names hN ix elts hn ha) hl hst pins s σ H v u Q I r ?_
  obtain ⟨Z, env, ρ, B, hp, d, env', hp', S, rd, e, k⟩ := h
  obtain ⟨ds, hp1, e1, e⟩ := bind_some e
  obtain ⟨rfl, rfl⟩ := tupD_some e1
  obtain ⟨_, hp2, e2, e⟩ := bind_some e
  obtain ⟨hs, rfl⟩ := guardM_some e2
  obtain ⟨rfl, rfl⟩ := pure_some e
  obtain ⟨a, xs, rfl, na, qa, la⟩ := rd.tupI
  have hl' : xs.length = ix.length := by rw [← la.length]; exact of_decide_eq_true hs
  exact ⟨a, xs, rfl, qa, hl', hl', k _ ρ B H Gs.refl (fold_ok ix ds xs la S)⟩
def sAsg (f : DEx) (g : DGx) : DSx := fun env => do let d ← f env; let env' ← g d env; pure (.nx, env')
theorem ds_asg {tg e : Expr} {g : DGx} {pos : Pos} (he : DE X e f) (hg : PG X tg (tDG X.K g)) (hs : swapsWithSole [tg] e pos.line X.env = pure false := by rfl) (hw : swappedStores [tg] e X.env = pure none := by rfl)
    (h1 : (assignEach [tg] X.env).map (·.2) = [assign tg X.env] := by rfl) : DS X (.Assign [tg] e pos) (sAsg f g) :=
  L2.PS.imp (ps_asg he hg hs hw h1) fun D σ H ⟨Z, env, ρ, B, hp, fl, env', hp', S, e, k⟩ => by
    obtain ⟨d, hp1, e1, e⟩ := bind_some e
    obtain ⟨env1, hp2, e2, e⟩ := bind_some e
    obtain ⟨z, rfl⟩ := pure_some e; cases z
    exact tD.run S e1 fun v ρ1 B1 H1 g1 S1 r1 => ⟨Z, env, ρ1, B1, hp1, d, env', hp2, S1, r1, e2, fun σ' ρ' B' H' g' S' => k σ' ρ' B' H' ((g1.gs S.wo.rb).trans g') S'⟩
end
end D
namespace D
open PySem PySem.Spec PyProof.Rows L2
theorem rangeL_len (lo : Int) (n : Nat) : (rangeL lo n).length = n := by simp [rangeL]
theorem okP_int (i : Int) : okP (.int i) = true := by rfl
theorem okP_bl (b : Bool) : okP (.bl b) = true := by cases b <;> rfl
theorem eqv_int (i j : Int) : PyData.eqv (.int i) (.int j) = (i == j) := rfl
theorem eqD_int (i j : Int) : eqD (.int i) (.int j) = pure (.bl (i == j)) := by
  simp only [eqD, okP_int, Bool.and_self, guardM, if_true, pure_bind, toP, eqv_int]
theorem neD_int (i j : Int) : neD (.int i) (.int j) = pure (.bl (!(i == j))) := by
  simp only [neD, okP_int, Bool.and_self, guardM, if_true, pure_bind, toP, eqv_int]
def opt : Option Int → DV
  | none => .non
  | some i => .int i
end D
namespace D
open PySem PySem.Spec PyProof.Rows L2
theorem modD_pos (x y : Int) (h : 0 < y) : modD (.int x) (.int y) = pure (.int (x % y)) := by simp [modD, int2, cMod, h]
theorem divD_pos (x y : Int) (h : 0 < y) (h' : y < 1073741824) : divD (.int x) (.int y) = pure (.int (x / y)) := by simp [divD, int2, cDiv, h, h']
theorem mulD_l (x y : Int) (h : -(2 ^ 64) < x) (h' : x < 2 ^ 64) : mulD (.int x) (.int y) = pure (.int (x * y)) := by
  simp only [mulD, int2, cMul, decide_eq_true (Or.inl (b := (-(2 ^ 64) < y ∧ y < 2 ^ 64)) (And.intro h h')), if_true]
theorem addD_int (x y : Int) : addD (.int x) (.int y) = pure (.int (x + y)) := rfl
theorem subD_int (x y : Int) : subD (.int x) (.int y) = pure (.int (x - y)) := rfl
theorem gtD_int (x y : Int) : gtD (.int x) (.int y) = pure (.bl (decide (y < x))) := rfl
theorem ltD_int (x y : Int) : ltD (.int x) (.int y) = pure (.bl (decide (x < y))) := rfl
theorem leD_int (x y : Int) : leD (.int x) (.int y) = pure (.bl (decide (x ≤ y))) := rfl
theorem geD_int (x y : Int) : geD (.int x) (.int y) = pure (.bl (decide (y ≤ x))) := rfl
theorem negD_int (x : Int) : negD (.int x) = pure (.int (-x)) := rfl
theorem pow30 : powD (.int 10) (.int 30) = pure (.int 1000000000000000000000000000000) := rfl
theorem pow21 : powD (.int 10) (.int 21) = pure (.int 1000000000000000000000) := rfl
theorem pow9 : powD (.int 10) (.int 9) = pure (.int 1000000000) := rfl
theorem small_ok {m : Int} (h0 : 0 ≤ m) (h1 : m ≤ 1000000) : smallI m = true := decide_eq_true ⟨by omega, by omega⟩
end D
namespace D
open PySem PySem.Spec PyProof.Rows L2
theorem sFor_zip {f f' : DEx} {g : DGx} {body : DSx} {env : En} {ds es : List DV} (hf : f env = pure (.tup ds)) (hf' : f' env = pure (.tup es)) : sFor (iZip f f') g body env = forL (fun d env => do let env' ← g d env; body env') (zipL ds es) env := by
  simp only [sFor, iZip, hf, hf', pure_bind, tupD]
theorem sSeq_nx {f g : DSx} {env env1 : En} (h : f env = pure (.nx, env1)) : sSeq f g env = g env1 := by simp only [sSeq, h, pure_bind]
theorem sSeq_rt {f g : DSx} {env env1 : En} {d : DV} (h : f env = pure (.rt d, env1)) : sSeq f g env = pure (.rt d, env1) := by simp only [sSeq, h, pure_bind]
theorem sIf_t {c : DTx} {f g : DSx} {env : En} (h : c env = pure true) : sIf c f g env = f env := by simp only [sIf, h, pure_bind, if_true]
theorem sIf_f {c : DTx} {f g : DSx} {env : En} (h : c env = pure false) : sIf c f g env = g env := by simp only [sIf, h, pure_bind, Bool.false_eq_true, if_false]
theorem sRet_eq {f : DEx} {env : En} {d : DV} (h : f env = pure d) : sRet f env = pure (.rt d, env) := by simp only [sRet, h, pure_bind]
theorem runF_rt {n : Nat} {body : DSx} {ds : List DV} {d : DV} {env : En} (h : body (ds.map .val ++ List.replicate (n - ds.length) .un) = pure (.rt d, env)) : runF n body ds = pure d := by simp only [runF, h, pure_bind]
theorem eB_eq {f : DEx} {env : En} {b : Bool} (h : f env = pure (.bl b)) : eB f env = pure b := by simp only [eB, h, pure_bind, asB]
theorem eNot_eq {c : DTx} {env : En} {b : Bool} (h : c env = pure b) : eNot c env = pure (!b) := by simp only [eNot, h, pure_bind]
theorem eBin_eq {g : DV → DV → M DV} {f f' : DEx} {env : En} {x y d : DV} (h : f env = pure x) (h' : f' env = pure y) (hg : g x y = pure d) : eBin g f f' env = pure d := by simp only [eBin, h, h', pure_bind, hg]
theorem eCall2 {F : List DV → M DV} {f f' : DEx} {env : En} {x y d : DV} (h : f env = pure x) (h' : f' env = pure y) (hF : F [x, y] = pure d) : eCall 2 F (aCons f (aCons f' aNil)) env = pure d := by simp [eCall, aCons, aNil, h, h', guardM, hF]
end D
namespace D
open PySem PySem.Spec PyProof.Rows L2
section
variable {K : PySem.W.Frag} {ρ : List Addr} {B : Addr → Prop} {hp : Hs} {H : Hp}
theorem Gr.wnew {p : Addr} {o : HO} (h : H p = none) (kf : K.lookup p = none) : Gr K ρ B H (ρ ++ [p]) (banP B p) (upd H p o) where
  pre := List.prefix_append _ _
  ban := fun _ h => .inl h
  new := fun a z => z.elim .inl fun e => .inr (e ▸ ⟨h, kf⟩)
  rnew := fun a z => (List.mem_append.mp z).elim .inl fun q => .inr (by rw [List.mem_singleton.mp q]; exact h)
  keep := fun a u _ q => by rw [upd_ne (ne_of_none q h)]; exact q
  trk := (Gr.laid (K := K) (ρ := ρ) (B := B) h).trk
theorem WOk.wnew {p : Addr} {o : HO} {v : OV} (W : WOk K ρ B hp H) (h : H p = none) (kf : K.lookup p = none) (hv : ORep K (ρ ++ [p]) (banP B p) (upd H p o) p v) : WOk K (ρ ++ [p]) (banP B p) (hp ++ [v]) (upd H p o) where
  len := by simp [W.len]
  nd := List.nodup_append.mpr ⟨W.nd, by simp, fun a ha b hb => by rw [List.mem_singleton.mp hb]; exact fun z => W.bt a (W.rb a ha) (z ▸ h)⟩
  obj := fun i a u e q => by
    by_cases hi : i < ρ.length
    · rw [List.getElem?_append_left hi] at e
      rw [List.getElem?_append_left (by rw [← W.len]; exact hi)] at q
      exact ORep.gs ((Gr.wnew h kf).gs W.rb) (upd_ne (fun z => W.bt a (W.rb a (List.mem_of_getElem? e)) (z ▸ h))) (W.obj i a u e q)
    · rw [List.getElem?_append_right (by omega)] at e
      rw [List.getElem?_append_right (by rw [← W.len]; omega)] at q
      have hi0 : i - ρ.length = 0 := by
        have := (List.getElem?_eq_some_iff.mp e).1
        simp at this; omega
      rw [hi0] at e
      rw [← W.len, hi0] at q
      simp at e q
      subst e q
      exact hv
  rb := fun a z => (List.mem_append.mp z).elim (fun q => .inl (W.rb a q)) fun q => .inr (List.mem_singleton.mp q)
  bt := fun a z q => by
    have q' := (Gr.laid (K := K) (ρ := ρ) (B := B) h).trk a q
    rcases z with z | rfl
    · exact W.bt a z q'
    · rw [upd_same] at q; cases q
  bk := fun a z => z.elim (W.bk a) fun e => e ▸ kf
theorem Gr.wset {i : Nat} {a : Addr} {o o' : HO} (ha : ρ[i]? = some a) (h : H a = some o) : Gr K ρ B H ρ B (upd H a o') where
  pre := List.prefix_rfl
  ban := fun _ h => h
  new := fun _ h => .inl h
  rnew := fun _ h => .inl h
  keep := fun b u nb q => by rw [upd_ne (show b ≠ a from fun z => nb (by rw [z]; exact List.mem_of_getElem? ha))]; exact q
  trk := fun b q => by
    by_cases e : b = a
    · subst e; rw [upd_same] at q; cases q
    · rw [upd_ne e] at q; exact q
theorem WOk.wset {i : Nat} {a : Addr} {o o' : HO} {v : OV} (W : WOk K ρ B hp H) (ha : ρ[i]? = some a) (h : H a = some o) (hv : ORep K ρ B (upd H a o') a v) : WOk K ρ B (hp.set i v) (upd H a o') where
  len := by simp [W.len]
  nd := W.nd
  obj := fun j b u e q => by
    by_cases hj : j = i
    · subst hj
      rw [ha] at e; cases e
      have hl : j < hp.length := by rw [← W.len]; exact (List.getElem?_eq_some_iff.mp ha).1
      rw [List.getElem?_set_self hl] at q; cases q
      exact hv
    · rw [List.getElem?_set_ne (Ne.symm hj)] at q
      have hb : b ≠ a := fun z => hj (by
        subst z
        exact (List.getElem?_inj (List.getElem?_eq_some_iff.mp e).1 W.nd).mp (e.trans ha.symm))
      exact ORep.gs ((Gr.wset ha h).gs W.rb) (upd_ne hb) (W.obj j b u e q)
  rb := W.rb
  bt := fun b z q => W.bt b z ((Gr.wset (K := K) (B := B) ha h).trk b q)
  bk := W.bk
end
section
variable {X : Cx} {e a b c : Expr} {f fa fb fc : DEx} {pos : Pos}
def allocW (o : OV) : M DV := fun h => some (.ref h.length, h ++ [o])
def getW (i : Nat) : M OV := fun h => match h[i]? with
  | some o => some (o, h)
  | none => none
def setW (i : Nat) (o : OV) : M Unit := fun h => some ((), h.set i o)
theorem getW_some {i : Nat} {o : OV} {hp hp' : Hs} (h : getW i hp = some (o, hp')) : hp[i]? = some o ∧ hp = hp' := by
  unfold getW at h
  cases q : hp[i]? with
  | none => rw [q] at h; cases h
  | some z => rw [q] at h; cases h; exact ⟨rfl, rfl⟩
def eNewL (f : DAx) : DEx := fun env => do let ds ← f env; guardM (short ds); allocW (.lst ds)
theorem fol_new {K : PySem.W.Frag} {ρ : List Addr} {B : Addr → Prop} {H : Hp} {hp : Hs} {ds : List DV} {xs : List V} {Q : VK} (W : WOk K ρ B hp H) (r : RepL K ρ B H ds xs) (k : Fol K ρ B H (.ref hp.length) (hp ++ [.lst ds]) Q) : ∀ p, H p = none → KFree K (upd H p (.lst xs)) → Q (.ref p) (upd H p (.lst xs)) := fun p hp' kf => by
  have kp := kf p _ upd_same
  have g : Gr K ρ B H (ρ ++ [p]) (banP B p) (upd H p (.lst xs)) := Gr.wnew hp' kp
  refine k _ _ _ _ g (W.wnew hp' kp ⟨xs, upd_same, RepL.grow W.rb g _ _ r⟩) ?_
  unfold RepV
  exact ⟨p, rfl, by rw [← W.len]; simp⟩
theorem de_newL {es : List Expr} {f : DAx} (h : DA X es f) : DE X (.List es pos) (eNewL f) :=
  L2.PE.imp (pe_lst h).kf fun σ H Q ⟨Z, env, ρ, B, hp, d, hp', S, e, k⟩ => by
    obtain ⟨xs, hp1, e1, e2⟩ := bind_some e
    obtain ⟨_, hp2, e3, e4⟩ := bind_some e2
    obtain ⟨hs, rfl⟩ := guardM_some e3
    cases e4
    exact tDA.run S e1 fun vs ρ1 B1 H1 g1 S1 r1 => ⟨by rw [← r1.length]; exact short_ok hs, fol_new S1.wo r1 (k.after g1)⟩
theorem RepV.refW {K : PySem.W.Frag} {ρ : List Addr} {B : Addr → Prop} {H : Hp} {hp : Hs} {i : Nat} {o : OV} {v : V} (W : WOk K ρ B hp H) (r : RepV K ρ B H (.ref i) v) (h : hp[i]? = some o) : ∃ a, v = .ref a ∧ ρ[i]? = some a ∧ ORep K ρ B H a o := by
  obtain ⟨a, rfl, e⟩ := r.refI
  exact ⟨a, rfl, e, W.obj i a o e h⟩
end
end D
namespace D
open PySem PySem.Spec PyProof.Rows L2
theorem has_none {P : Program} {w : World} {K : PySem.W.Frag} {mg : Str → Option Value} {base : Heap} {x : Str} {stm : Stmt} {g : Addr} {fd : FuncData} {ps : List Str} {k : Nat} (F : Fun K x x stm g fd) (hm : mg x = some (.ref g))
    (hb : ∀ (kV doc pm : Value) (an : Option Addr) (cdv ct : Value) (us : List Value), us.length = ps.length → bindArgs (PySem.W.fnOf x x (defArgs stm) (defBody stm) (defScope stm) .none kV doc pm an cdv ct) ⟨us, []⟩ = pure (ps.zip us)) :
    Has P w K mg base x k ps.length (fun _ => failure) := by
  have no : ∀ vs H Q E, ¬ spD K ps.length (fun _ => failure) vs H Q E := fun vs H Q E h => by
    obtain ⟨_, ρ, B, hp, ds, d, hp', _, _, e, _⟩ := h
    cases e
  exact ⟨g, fd, ps, ⟨fun vs H Q E h => absurd h (no vs H Q E), fun A outer s H args us vs Q E _ _ _ _ h => absurd h (no vs H Q E)⟩, F.binds hb, F.kp, hm⟩
end D
namespace D
open PySem PySem.Spec PyProof.Rows L2
section
variable {f g : DSx} {env env1 env2 : En} {c ca cb : DTx} {e fa fb : DEx} {d x y : DV} {r : Fl × En}
end
theorem bind_at {α β : Type} {m : M α} {k : α → M β} {x : α} {hp hp1 : Hs} (h : m hp = some (x, hp1)) : (m >>= k) hp = k x hp1 := by
  show (m hp).bind (fun p => k p.1 p.2) = _
  rw [h]; rfl
theorem sSeq_at {f g : DSx} {env env1 : En} {hp hp1 : Hs} (h : f env hp = some ((.nx, env1), hp1)) : sSeq f g env hp = g env1 hp1 := bind_at h
theorem sSet_at {i : Nat} {f : DEx} {env : En} {d : DV} {hp hp1 : Hs} (h : f env hp = some (d, hp1)) : sSet i f env hp = some ((.nx, env.set i (.val d)), hp1) := bind_at h
theorem cut_drop (ds : List DV) (m : Nat) : D.cutD ds (some (m : Int)) none = ds.drop m := by
  unfold D.cutD
  rw [HT.sIx_nat]
  show (ds.drop (min m ds.length)).take (ds.length - min m ds.length) = ds.drop m
  rcases Nat.le_total m ds.length with h | h
  · rw [Nat.min_eq_left h, List.take_of_length_le (by simp)]
  · rw [Nat.min_eq_right h, List.drop_of_length_le h, List.drop_of_length_le (Nat.le_refl _)]
    simp
end D
namespace L2
open PySem PySem.Spec PyProof.Rows
section
variable {X : Cx}
def rIxD : R2 := fun x y H Q => ∃ a kvs k v, x = .ref a ∧ y = kV k ∧ H a = some (.dK kvs) ∧ valV kvs k = some v ∧ Q v H
theorem ix_dict (hu : X.A.units + 1 < cLine) : IxR X rIxD := by
  intro value slice pins s σ H x y v u Q I rx ry h hs
  obtain ⟨a, kvs, k, z, rfl, rfl, hH, hv, q⟩ := h
  cases rx
  have g : DGet H a (kV k) (some z) := hv ▸ DGet.k hH
  exact tail_any (dict_typeIs I g) PySem.F.slot_dict_getitem.lookup (d_getItem hu I g ry fun w' s' I' rw' => ⟨z, H, I', rw', q⟩) hs
def rSetD : V → V → V → Hp → (Hp → Prop) → Prop := fun o i v H Q => ∃ a kvs k, o = .ref a ∧ i = kV k ∧ H a = some (.dK kvs) ∧ kvs.length < sizeLine ∧ Q (upd H a (.dK (putK kvs k v)))
theorem set_dict (hu : X.A.units + 1 < cLine) : PSet X rSetD := fun pins s σ H o i v ov iv u Q I ro ri rv h => by
  obtain ⟨a, kvs, k, rfl, rfl, hH, hl, q⟩ := h
  cases ro
  exact d_setItem hu I (DPut.k hH hl) ri rv fun s' I' => ⟨_, I', q⟩
def insN (n : Nat) (i : Int) : Nat := if i < 0 then (i + (n : Int)).toNat else min i.toNat n
end
end L2
namespace D
open PySem PySem.Spec PyProof.Rows L2
def dkey : DV → Option Key
  | .int i => some (.inl i)
  | .str x => some (.inr x)
  | _ => none
def valD (kvs : List (Key × DV)) (k : Key) : Option DV := (kvs.find? fun kv => decide (kv.1 = k)).map (·.2)
def putD (kvs : List (Key × DV)) (k : Key) (d : DV) : List (Key × DV) :=
  if (kvs.any fun kv => decide (kv.1 = k)) = true then kvs.map (fun kv => if kv.1 = k then (kv.1, d) else kv) else kvs ++ [(k, d)]
def dropD (kvs : List (Key × DV)) (k : Key) : List (Key × DV) := kvs.filter fun kv => decide (kv.1 ≠ k)
section
variable {K : PySem.W.Frag} {ρ : List Addr} {B : Addr → Prop} {H : Hp} {hp : Hs}
theorem dkey_rep {d : DV} {k : Key} {v : V} (h : dkey d = some k) (r : RepV K ρ B H d v) : v = kV k := by
  cases d <;> simp [dkey] at h <;> subst h
  · exact r.intI
  · exact r.strI
abbrev RepK (K : PySem.W.Frag) (ρ : List Addr) (B : Addr → Prop) (H : Hp) : List (Key × DV) → List (Key × V) → Prop := Paired fun p q => p.1 = q.1 ∧ RepV K ρ B H p.2 q.2
theorem repK_of : ∀ {kvs : List (Key × DV)} {xs : List (Key × V)}, xs.map (·.1) = kvs.map (·.1) → RepL K ρ B H (kvs.map (·.2)) (xs.map (·.2)) → RepK K ρ B H kvs xs
  | [], [], _, _ => .nil
  | [], _ :: _, e, _ => by simp at e
  | _ :: _, [], e, _ => by simp at e
  | p :: kvs, q :: xs, e, r => by
    simp only [List.map_cons, List.cons.injEq] at e
    simp only [List.map_cons] at r
    unfold RepL at r
    obtain ⟨x, t, e2, h1, h2⟩ := r
    simp only [List.cons.injEq] at e2
    obtain ⟨rfl, rfl⟩ := e2
    exact .cons ⟨e.1.symm, h1⟩ (repK_of e.2 h2)
theorem RepK.to {kvs : List (Key × DV)} {xs : List (Key × V)} (r : RepK K ρ B H kvs xs) : xs.map (·.1) = kvs.map (·.1) ∧ RepL K ρ B H (kvs.map (·.2)) (xs.map (·.2)) := by
  induction r with
  | nil => exact ⟨rfl, RepL.nil⟩
  | cons h _ ih => exact ⟨by simp [ih.1, h.1], by simpa using RepL.cons h.2 ih.2⟩
theorem RepK.val {kvs : List (Key × DV)} {xs : List (Key × V)} (r : RepK K ρ B H kvs xs) (k : Key) : (valD kvs k = none ∧ valV xs k = none) ∨ ∃ d v, valD kvs k = some d ∧ valV xs k = some v ∧ RepV K ρ B H d v := by
  induction r with
  | nil => exact .inl ⟨rfl, rfl⟩
  | @cons p q _ _ h _ ih =>
    by_cases e : p.1 = k
    · exact .inr ⟨p.2, q.2, by simp [valD, List.find?_cons, e], by simp [valV, List.find?_cons, h.1 ▸ e], h.2⟩
    · have e' : ¬ q.1 = k := h.1 ▸ e
      simpa [valD, valV, List.find?_cons, e, e'] using ih
theorem RepK.any {kvs : List (Key × DV)} {xs : List (Key × V)} (r : RepK K ρ B H kvs xs) (k : Key) : (kvs.any fun kv => decide (kv.1 = k)) = xs.any fun kv => decide (kv.1 = k) := by
  induction r with
  | nil => rfl
  | cons h _ ih => simp only [List.any_cons, ih, h.1]
theorem RepK.repl {kvs : List (Key × DV)} {xs : List (Key × V)} (r : RepK K ρ B H kvs xs) (k : Key) {d : DV} {v : V} (rd : RepV K ρ B H d v) : RepK K ρ B H (kvs.map fun kv => if kv.1 = k then (kv.1, d) else kv) (xs.map fun kv => if kv.1 = k then (kv.1, v) else kv) := by
  induction r with
  | nil => exact .nil
  | @cons p q _ _ h _ ih =>
    refine .cons ?_ ih
    dsimp only
    by_cases e : p.1 = k
    · rw [if_pos e, if_pos (h.1 ▸ e)]; exact ⟨h.1, rd⟩
    · rw [if_neg e, if_neg (h.1 ▸ e)]; exact h
theorem RepK.snoc {kvs : List (Key × DV)} {xs : List (Key × V)} (r : RepK K ρ B H kvs xs) {k : Key} {d : DV} {v : V} (rd : RepV K ρ B H d v) : RepK K ρ B H (kvs ++ [(k, d)]) (xs ++ [(k, v)]) := by
  induction r with
  | nil => exact .cons ⟨rfl, rd⟩ .nil
  | cons h _ ih => exact .cons h ih
theorem RepK.put {kvs : List (Key × DV)} {xs : List (Key × V)} (r : RepK K ρ B H kvs xs) (k : Key) {d : DV} {v : V} (rd : RepV K ρ B H d v) : RepK K ρ B H (putD kvs k d) (putK xs k v) := by
  unfold putD putK
  rw [r.any k]
  split
  · exact r.repl k rd
  · exact r.snoc rd
theorem RepK.len {kvs : List (Key × DV)} {xs : List (Key × V)} (r : RepK K ρ B H kvs xs) : kvs.length = xs.length := Paired.length r
theorem RepK.gs {ρ' : List Addr} {B' : Addr → Prop} {H' : Hp} {kvs : List (Key × DV)} {xs : List (Key × V)} (g : Gs K ρ B H ρ' B' H') (r : RepK K ρ B H kvs xs) : RepK K ρ' B' H' kvs xs := L2.Paired.mapP r fun _ _ h => ⟨h.1, RepV.gs g _ _ h.2⟩
theorem ORep.dic {a : Addr} {kvs : List (Key × DV)} (h : ORep K ρ B H a (.dic kvs)) : ∃ xs, H a = some (.dK xs) ∧ RepK K ρ B H kvs xs := by
  obtain ⟨xs, e, ek, rl⟩ := h
  exact ⟨xs, e, repK_of ek rl⟩
theorem RepK.orep {a : Addr} {kvs : List (Key × DV)} {xs : List (Key × V)} (r : RepK K ρ B H kvs xs) (e : H a = some (.dK xs)) : ORep K ρ B H a (.dic kvs) := ⟨xs, e, r.to.1, r.to.2⟩
theorem wset_dic {n : Nat} {a : Addr} {xs xs' : List (Key × V)} {kvs' : List (Key × DV)} (W : WOk K ρ B hp H) (i : ρ[n]? = some a) (e : H a = some (.dK xs)) (r : RepK K ρ B H kvs' xs') : Gr K ρ B H ρ B (upd H a (.dK xs')) ∧ WOk K ρ B (hp.set n (.dic kvs')) (upd H a (.dK xs')) := by
  have g : Gr K ρ B H ρ B (upd H a (.dK xs')) := Gr.wset i e
  exact ⟨g, W.wset (o' := .dK xs') (v := .dic kvs') i e ((r.gs (g.gs W.rb)).orep upd_same)⟩
theorem wset_lst {n : Nat} {a : Addr} {o : HO} {xs' : List V} {ds' : List DV} (W : WOk K ρ B hp H) (i : ρ[n]? = some a) (e : H a = some o) (r : RepL K ρ B H ds' xs') : Gr K ρ B H ρ B (upd H a (.lst xs')) ∧ WOk K ρ B (hp.set n (.lst ds')) (upd H a (.lst xs')) := by
  have g : Gr K ρ B H ρ B (upd H a (.lst xs')) := Gr.wset i e
  exact ⟨g, W.wset (o' := .lst xs') (v := .lst ds') i e ⟨xs', upd_same, RepL.grow W.rb g _ _ r⟩⟩
end
section
variable {X : Cx} {e a b c : Expr} {f fa fb fc : DEx} {pos : Pos}
def optM (o : Option DV) : M DV := match o with
  | some d => pure d
  | none => failure
theorem optM_some {o : Option DV} {d : DV} {hp hp' : Hs} (h : optM o hp = some (d, hp')) : o = some d ∧ hp = hp' := by
  cases o with
  | none => cases h
  | some z => obtain ⟨rfl, rfl⟩ := pure_some h; exact ⟨rfl, rfl⟩
def keyM (d : DV) : M Key := match dkey d with
  | some k => pure k
  | none => failure
theorem keyM_some {d : DV} {k : Key} {hp hp' : Hs} (h : keyM d hp = some (k, hp')) : dkey d = some k ∧ hp = hp' := by
  unfold keyM at h
  cases q : dkey d with
  | none => rw [q] at h; cases h
  | some z => rw [q] at h; obtain ⟨rfl, rfl⟩ := pure_some h; exact ⟨rfl, rfl⟩
def ixG : DV → DV → M DV
  | .ref n, y => do
    match ← getW n with
    | .lst ds => do let i ← asI y; optM (atI ds i)
    | .dic kvs => do let k ← keyM y; optM (valD kvs k)
    | _ => failure
  | x, y => ixD x y
theorem p_ixG (hu : X.A.units + 1 < cLine) : IxR X (tP2 X.K ixG) := by
  intro value slice pins s σ H x y v u Q I rx ry h hsub
  obtain ⟨ρ, B, hp, dx, dy, d, hp', W, r1, r2, e, k⟩ := h
  unfold ixG at e
  split at e
  · rename_i n
    obtain ⟨o, hp1, e1, e2⟩ := bind_some e
    obtain ⟨e3, rfl⟩ := getW_some e1
    obtain ⟨a, rfl, i1, ro⟩ := RepV.refW W r1 e3
    cases o with
    | ins _ _ => cases e2
    | dic kvs =>
      obtain ⟨ky, hp2, e4, e5⟩ := bind_some e2
      obtain ⟨hk, rfl⟩ := keyM_some e4
      obtain ⟨hv, rfl⟩ := optM_some e5
      obtain ⟨xs, h1, rk⟩ := ro.dic
      rcases rk.val ky with ⟨z, _⟩ | ⟨d', v', z, zv, rz⟩
      · rw [hv] at z; cases z
      · rw [hv] at z; cases z
        exact ix_dict hu value slice pins s σ H _ _ v u Q I rx ry ⟨a, xs, ky, v', rfl, dkey_rep hk r2, h1, zv, k _ ρ B H Gr.refl W rz⟩ hsub
    | lst ds =>
      obtain ⟨i, hp2, e4, e5⟩ := bind_some e2
      obtain ⟨rfl, rfl⟩ := asI_some e4
      obtain ⟨hv, rfl⟩ := optM_some e5
      obtain ⟨xs, h1, l1⟩ := ro
      obtain ⟨z, hz, rz⟩ := atI_rep l1 hv
      exact ix_list value slice pins s σ H _ _ v u Q I rx ry ⟨a, xs, i, z, rfl, r2.intI, SqL.of h1, hz, k _ ρ B H Gr.refl W rz⟩ hsub
  · exact p_ix value slice pins s σ H x y v u Q I rx ry ⟨ρ, B, hp, _, _, d, hp', W, r1, r2, e, k⟩ hsub
theorem de_ixG (hu : X.A.units + 1 < cLine) (ha : DE X a fa) (hb : DE X b fb) (hs : PlainIx b := by intro _ _; rfl) : DE X (.Subscript a b pos) (eBin ixG fa fb) := L2.PE.imp (pe_ix (p_ixG hu) ha hb hs) fun _ _ _ h => eBin_imp h
def lenG : List DV → M DV
  | [.ref n] => do
    match ← getW n with
    | .lst ds => pure (.int ds.length)
    | .dic kvs => pure (.int kvs.length)
    | _ => failure
  | xs => lenF xs
theorem c_lenG : CallR X (.builtin "len") (tPn X.K lenG) := by
  intro pins s σ H xs us Q I r h
  obtain ⟨ρ, B, hp, ds, d, hp', W, rl, e, k⟩ := h
  unfold lenG at e
  split at e
  · rename_i n
    obtain ⟨o, hp1, e1, e2⟩ := bind_some e
    obtain ⟨e3, rfl⟩ := getW_some e1
    obtain ⟨v, rfl, rv⟩ := rl.oneI
    obtain ⟨a, rfl, _, ro⟩ := RepV.refW W rv e3
    cases o with
    | ins _ _ => cases e2
    | lst zs =>
      obtain ⟨rfl, rfl⟩ := pure_some e2
      obtain ⟨ys, h1, l1⟩ := ro
      exact call_len_seq pins s σ H _ us Q I r ⟨a, ys, rfl, .inl (SqL.of h1), by rw [← l1.length]; exact k _ ρ B H Gr.refl W rep_int⟩
    | dic kvs =>
      obtain ⟨rfl, rfl⟩ := pure_some e2
      obtain ⟨ys, h1, l1⟩ := ro.dic
      exact call_lenD pins s σ H _ us Q I r ⟨a, ys, rfl, h1, by rw [← l1.len]; exact k _ ρ B H Gr.refl W rep_int⟩
  · exact c_len pins s σ H xs us Q I r ⟨ρ, B, hp, _, d, hp', W, rl, e, k⟩
def one1 (g : DV → M DV) : List DV → M DV
  | [d] => g d
  | _ => failure
theorem one1_some {g : DV → M DV} {ds : List DV} {d : DV} {hp hp' : Hs} (h : one1 g ds hp = some (d, hp')) : ∃ x, ds = [x] ∧ g x hp = some (d, hp') := by
  unfold one1 at h
  split at h
  · exact ⟨_, rfl, h⟩
  · cases h
end
end D
namespace D
open PySem PySem.Spec PyProof.Rows L2
def drf : Nat → Hs → DV → Option DV
  | 0, _, _ => none
  | n + 1, hp, d => match d with
    | .ref i => match hp[i]? with
      | some (.lst ds) => (ds.mapM (drf n hp)).map .lst
      | _ => none
    | .tup ds => (ds.mapM (drf n hp)).map .tup
    | .lst ds => (ds.mapM (drf n hp)).map .lst
    | d => some d
theorem mapM_cons_some {α β : Type} {f : α → Option β} {x : α} {xs : List α} {ys : List β} (h : (x :: xs).mapM f = some ys) : ∃ y zs, f x = some y ∧ xs.mapM f = some zs ∧ ys = y :: zs := by
  rw [List.mapM_cons] at h
  cases q : f x with
  | none => rw [q] at h; cases h
  | some y =>
    cases q2 : xs.mapM f with
    | none => rw [q, q2] at h; cases h
    | some zs => rw [q, q2] at h; exact ⟨y, zs, rfl, rfl, (Option.some.inj h).symm⟩
section
variable {X : Cx} {pins : List (Addr × Obj)} {σ : St} {H : Hp} {s : Shared} {ρ : List Addr} {B : Addr → Prop} {hp : Hs}
theorem reads_drf (I : Inv X pins σ H s) (W : WOk X.K ρ B hp H) : ∀ (n : Nat) (d d' : DV) (v : V) (u : Value), drf n hp d = some d' → RepV X.K ρ B H d v → RelV v u → ∃ as, Reads s.heap u (toP d') as
  | 0, _, _, _, _, h, _, _ => by cases h
  | n + 1, d, d', v, u, h, r, ru => by
    have all : ∀ (ds ds' : List DV) (xs : List V) (us : List Value), ds.mapM (drf n hp) = some ds' → RepL X.K ρ B H ds xs → Vals xs us → ∃ as, ReadsAll s.heap us (toPs ds') as := by
      intro ds
      induction ds with
      | nil =>
        intro ds' xs us h r ru
        rw [List.mapM_nil] at h; cases h
        unfold RepL at r; subst r; cases ru
        exact ⟨[], by unfold toPs; exact .nil⟩
      | cons x ds ih =>
        intro ds' xs us h r ru
        obtain ⟨y, zs, h1, h2, rfl⟩ := mapM_cons_some h
        unfold RepL at r
        obtain ⟨z, t, rfl, r1, r2⟩ := r
        cases ru with
        | cons q1 q2 =>
          obtain ⟨as, a1⟩ := reads_drf I W n x y z _ h1 r1 q1
          obtain ⟨bs, a2⟩ := ih zs t _ h2 r2 q2
          exact ⟨_, by unfold toPs; exact .cons a1 a2⟩
    have lst : ∀ (ds ds' : List DV) (a : Addr) (xs : List V), ds.mapM (drf n hp) = some ds' → SqL X.K H a xs → RepL X.K ρ B H ds xs → ∃ as, Reads s.heap (.ref a) (toP (.lst ds')) as := by
      intro ds ds' a xs h sq rl
      obtain ⟨its, rv, ⟨o, k, e, hc, _, hd⟩, _⟩ := I.list sq
      obtain ⟨as, q⟩ := all ds ds' xs its h rl rv
      exact ⟨_, by unfold toP; exact reads_list_at e hc hd (by simpa using q)⟩
    unfold drf at h
    cases d with
    | non => cases h; obtain rfl := r.nonI; cases ru; exact ⟨[], by unfold toP; exact .none⟩
    | bl b => cases h; obtain rfl := r.blI; cases ru; exact ⟨[], by unfold toP; exact .bool b⟩
    | int i => cases h; obtain rfl := r.intI; obtain ⟨t, rfl⟩ := ru; exact ⟨[], by unfold toP; exact .int i t⟩
    | str x => cases h; obtain rfl := r.strI; obtain ⟨t, rfl⟩ := ru; exact ⟨[], by unfold toP; exact .str x t⟩
    | tup ds =>
      obtain ⟨ds', h1, rfl⟩ := Option.map_eq_some_iff.mp h
      obtain ⟨a, xs, rfl, _, sq, rl⟩ := r.tupI
      cases ru
      obtain ⟨its, rv, ⟨o, e, hc, k, hd⟩, _⟩ := I.tuple sq
      obtain ⟨as, q⟩ := all ds ds' xs its h1 rl rv
      exact ⟨_, by unfold toP; exact reads_tuple_at e hc hd (by simpa using q)⟩
    | lst ds =>
      obtain ⟨ds', h1, rfl⟩ := Option.map_eq_some_iff.mp h
      obtain ⟨a, xs, rfl, _, sq, rl⟩ := r.lstI
      cases ru
      exact lst ds ds' a xs h1 sq rl
    | ref i =>
      cases q : hp[i]? with
      | none => simp only [q] at h; cases h
      | some o =>
        simp only [q] at h
        cases o with
        | dic _ => cases h
        | ins _ _ => cases h
        | lst ds =>
          obtain ⟨ds', h1, rfl⟩ := Option.map_eq_some_iff.mp h
          obtain ⟨a, rfl, _, xs, h2, l⟩ := RepV.refW W r q
          cases ru
          exact lst ds ds' a xs h1 (SqL.of h2) l
end
def drfM (d : DV) : M DV := fun hp => (drf 40 hp d).map fun x => (x, hp)
theorem drfM_some {d d' : DV} {hp hp' : Hs} (h : drfM d hp = some (d', hp')) : drf 40 hp d = some d' ∧ hp = hp' := by
  obtain ⟨x, h1, h2⟩ := Option.map_eq_some_iff.mp h
  cases h2; exact ⟨h1, rfl⟩
def eqvG (x y : DV) : M Bool := do
  let x' ← drfM x
  let y' ← drfM y
  guardM (SeqAt.shaped (toP x') && SeqAt.shaped (toP y'))
  pure (PyData.eqv (toP x') (toP y'))
def eqG : DV → DV → M DV := fun x y => do let b ← eqvG x y; pure (.bl b)
def neG : DV → DV → M DV := fun x y => do let b ← eqvG x y; pure (.bl (!b))
section
variable {X : Cx} {e a b c : Expr} {f fa fb fc : DEx} {ca cb : DTx} {pos : Pos}
theorem eqvG_some {x y : DV} {k : Bool} {hp hp' : Hs} (h : eqvG x y hp = some (k, hp')) : ∃ x' y', drf 40 hp x = some x' ∧ drf 40 hp y = some y' ∧ SeqAt.shaped (toP x') = true ∧ SeqAt.shaped (toP y') = true ∧ k = PyData.eqv (toP x') (toP y') ∧ hp = hp' := by
  obtain ⟨x', hp1, e1, h⟩ := bind_some h
  obtain ⟨y', hp2, e2, h⟩ := bind_some h
  obtain ⟨_, hp3, e3, h⟩ := bind_some h
  obtain ⟨q1, rfl⟩ := drfM_some e1
  obtain ⟨q2, rfl⟩ := drfM_some e2
  obtain ⟨hs, rfl⟩ := guardM_some e3
  obtain ⟨rfl, rfl⟩ := pure_some h
  rw [Bool.and_eq_true] at hs
  exact ⟨x', y', q1, q2, hs.1, hs.2, rfl, rfl⟩
theorem p_eqG (hu : X.A.units + 64 < cLine) : P2 X (compareOp .Eq) eqG := by
  intro pins s σ H x y v u Q I rx ry h
  obtain ⟨ρ, B, hp, dx, dy, d, hp', W, r1, r2, e, k⟩ := h
  obtain ⟨b, hp1, e1, e2⟩ := bind_some e
  obtain ⟨rfl, rfl⟩ := pure_some e2
  obtain ⟨x', y', q1, q2, s1, s2, rfl, rfl⟩ := eqvG_some e1
  obtain ⟨as, a1⟩ := reads_drf I W _ _ _ _ _ q1 r1 rx
  obtain ⟨bs, a2⟩ := reads_drf I W _ _ _ _ _ q2 r2 ry
  exact eq_dataH a1 a2 s1 s2 hu ⟨.bl _, H, I, rfl, k _ ρ B H Gr.refl W rep_bl⟩
theorem p_neG (hu : X.A.units + 64 < cLine) : P2 X (compareOp .NotEq) neG := by
  intro pins s σ H x y v u Q I rx ry h
  obtain ⟨ρ, B, hp, dx, dy, d, hp', W, r1, r2, e, k⟩ := h
  obtain ⟨b, hp1, e1, e2⟩ := bind_some e
  obtain ⟨rfl, rfl⟩ := pure_some e2
  obtain ⟨x', y', q1, q2, s1, s2, rfl, rfl⟩ := eqvG_some e1
  obtain ⟨as, a1⟩ := reads_drf I W _ _ _ _ _ q1 r1 rx
  obtain ⟨bs, a2⟩ := reads_drf I W _ _ _ _ _ q2 r2 ry
  exact ne_dataH a1 a2 s1 s2 hu ⟨.bl _, H, I, rfl, k _ ρ B H Gr.refl W rep_bl⟩
def flatD : DV → Bool
  | .non => true
  | .bl _ => true
  | .int _ => true
  | .str _ => true
  | _ => false
def eqF : DV → DV → Bool
  | .non, .non => true
  | .bl a, .bl b => a == b
  | .bl a, .int b => (if a then 1 else 0) == b
  | .int a, .bl b => a == (if b then 1 else 0)
  | .int a, .int b => a == b
  | .str a, .str b => a == b
  | _, _ => false
def inB (d : DV) (ds : List DV) : Bool := ds.any fun y => eqF y d
def memG (x : DV) : DV → M Bool
  | .ref n => do
    match ← getW n with
    | .lst ds => do guardM (flatD x && ds.all flatD); pure (inB x ds)
    | .dic kvs => do let k ← keyM x; pure (valD kvs k).isSome
    | _ => failure
  | .tup ds => do guardM (flatD x && ds.all flatD); pure (inB x ds)
  | .lst ds => do guardM (flatD x && ds.all flatD); pure (inB x ds)
  | _ => failure
def putG (o i d : DV) : M Unit := match o with
  | .ref n => do
    match ← getW n with
    | .lst ds => do
      let k ← asI i
      match ixN ds.length k with
      | some j => setW n (.lst (ds.set j d))
      | none => failure
    | .dic kvs => do
      let k ← keyM i
      guardM (decide (kvs.length < lim))
      setW n (.dic (putD kvs k d))
    | _ => failure
  | _ => failure
def tP3 (K : PySem.W.Frag) (g : DV → DV → DV → M Unit) : TSet := fun o i v H Q => ∃ ρ B hp dO di dv hp', WOk K ρ B hp H ∧ RepV K ρ B H dO o ∧ RepV K ρ B H di i ∧ RepV K ρ B H dv v ∧ g dO di dv hp = some ((), hp') ∧ ∀ ρ' B' H', Gr K ρ B H ρ' B' H' → WOk K ρ' B' hp' H' → Q H'
theorem RepL.set {K : PySem.W.Frag} {ρ : List Addr} {B : Addr → Prop} {H : Hp} {d : DV} {x : V} (r : RepV K ρ B H d x) : ∀ {ds : List DV} {xs : List V} (i : Nat), RepL K ρ B H ds xs → RepL K ρ B H (ds.set i d) (xs.set i x)
  | [], _, i, h => by unfold RepL at h; subst h; exact RepL.nil
  | _ :: ds, _, 0, h => by
    unfold RepL at h
    obtain ⟨y, t, rfl, _, h2⟩ := h
    exact RepL.cons r h2
  | _ :: ds, _, i + 1, h => by
    unfold RepL at h
    obtain ⟨y, t, rfl, h1, h2⟩ := h
    exact RepL.cons h1 (RepL.set r i h2)
theorem p_put (hu : X.A.units + 1 < cLine) : PSet X (tP3 X.K putG) := by
  intro pins s σ H o i v ov iv u Q I ro ri rv h
  obtain ⟨ρ, B, hp, dO, di, dv, hp', W, r1, r2, r3, e, k⟩ := h
  cases dO with
  | ref n =>
    obtain ⟨ob, hp1, e1, e2⟩ := bind_some e
    obtain ⟨e3, rfl⟩ := getW_some e1
    obtain ⟨a, rfl, i1, rob⟩ := RepV.refW W r1 e3
    cases ob with
    | ins _ _ => cases e2
    | lst ds =>
      obtain ⟨j, hp2, e4, e5⟩ := bind_some e2
      obtain ⟨rfl, rfl⟩ := asI_some e4
      obtain ⟨xs, h1, l1⟩ := rob
      cases q : ixN ds.length j with
      | none => simp only [q] at e5; cases e5
      | some m =>
        simp only [q] at e5
        cases e5
        obtain ⟨g, W'⟩ := wset_lst W i1 h1 (RepL.set r3 m l1)
        exact set_list pins s σ H _ _ v ov iv u Q I ro ri rv ⟨a, xs, j, m, rfl, r2.intI, h1, by rw [← l1.length]; exact q, k ρ B _ g W'⟩
    | dic kvs =>
      obtain ⟨ky, hp2, e4, e5⟩ := bind_some e2
      obtain ⟨hk, rfl⟩ := keyM_some e4
      obtain ⟨_, hp3, e6, e7⟩ := bind_some e5
      obtain ⟨hl, rfl⟩ := guardM_some e6
      cases e7
      obtain ⟨xs, h1, rk⟩ := rob.dic
      obtain ⟨g, W'⟩ := wset_dic W i1 h1 (rk.put ky r3)
      exact set_dict hu pins s σ H _ _ v ov iv u Q I ro ri rv ⟨a, xs, ky, rfl, dkey_rep hk r2, h1, by rw [← rk.len]; exact Nat.lt_of_lt_of_le (of_decide_eq_true hl) lim_le, k ρ B _ g W'⟩
  | non => cases e
  | bl _ => cases e
  | int _ => cases e
  | str _ => cases e
  | tup _ => cases e
  | lst _ => cases e
def gSb (f g : DEx) : DGx := fun d env => do
  let o ← f env
  let i ← g env
  putG o i d
  pure env
theorem dg_sub {o i : Expr} {fo fi : DEx} (hu : X.A.units + 1 < cLine) (ho : DE X o fo) (hi : DE X i fi)
    (ha : ∀ v, assign (.Subscript o i pos) X.env v = (do
      let ov ← holding [v] (eval o X.env)
      let iv ← holding [v, ov] (eval i X.env)
      standAt pos
      holding [v, ov, iv] (setItem ov iv v)
      release [v, ov, iv] []) := by intro _; rfl) : PG X (.Subscript o i pos) (tDG X.K (gSb fo fi)) := by
  intro pins s σ H v u Q I r h
  refine pg_sub ho hi (p_put hu) ha pins s σ H v u Q I r ?_
  obtain ⟨Z, env, ρ, B, hp, d, env', hp', S, rd, e, k⟩ := h
  obtain ⟨x, hp1, e1, e⟩ := bind_some e
  obtain ⟨y, hp2, e2, e⟩ := bind_some e
  obtain ⟨z, hp3, e3, e⟩ := bind_some e
  obtain ⟨rfl, rfl⟩ := pure_some e
  refine tD.run S e1 fun vx ρ1 B1 H1 g1 S1 r1 => tD.run S1 e2 fun vy ρ2 B2 H2 g2 S2 r2 => ?_
  exact ⟨ρ2, B2, hp2, x, y, d, hp3, S2.wo, RepV.grow S1.wo.rb g2 _ _ r1, r2, RepV.grow S.wo.rb (g1.trans g2) _ _ rd, e3, fun ρ3 B3 H3 g3 W3 => k _ ρ3 B3 H3 ((g1.trans (g2.trans g3)).gs S.wo.rb) (S2.grow g3 W3)⟩
def kindG : String → DV → M Unit
  | "list", .lst _ => pure ()
  | "str", .str _ => pure ()
  | T, .ref n => do
    match ← getW n with
    | .lst _ => guardM (T == "list")
    | .dic _ => guardM (T == "dict")
    | _ => failure
  | _, _ => failure
theorem kindG_ty {T : String} {d : DV} {hp hp' : Hs} {K : PySem.W.Frag} {ρ : List Addr} {B : Addr → Prop} {H : Hp} {v : V} {u : Unit} (W : WOk K ρ B hp H) (r : RepV K ρ B H d v) (h : kindG T d hp = some (u, hp')) : hp = hp' ∧ tyV K T v H := by
  unfold kindG at h
  split at h
  · obtain ⟨_, rfl⟩ := pure_some h
    obtain ⟨a, xs, rfl, _, sq, _⟩ := r.lstI
    exact ⟨rfl, .inl ⟨rfl, xs, sq⟩⟩
  · obtain ⟨_, rfl⟩ := pure_some h
    obtain rfl := r.strI
    exact ⟨rfl, rfl⟩
  · obtain ⟨o, hp1, e1, e2⟩ := bind_some h
    obtain ⟨e3, rfl⟩ := getW_some e1
    obtain ⟨a, rfl, _, ro⟩ := RepV.refW W r e3
    cases o with
    | lst ds =>
      obtain ⟨hT, rfl⟩ := guardM_some e2
      obtain ⟨xs, h1, _⟩ := ro
      exact ⟨rfl, .inl ⟨by simpa using hT, xs, SqL.of h1⟩⟩
    | dic kvs =>
      obtain ⟨hT, rfl⟩ := guardM_some e2
      obtain ⟨xs, h1, _⟩ := ro
      exact ⟨rfl, .inr (.inr (.inl ⟨by simpa using hT, .inl ⟨xs, h1⟩⟩))⟩
    | ins _ _ => cases e2
  · cases h
def tPm (K : PySem.W.Frag) (m : DV → List DV → M DV) : V → List V → Hp → VK → Prop := fun x vs H Q => ∃ ρ B hp dx ds d hp', WOk K ρ B hp H ∧ RepV K ρ B H dx x ∧ RepL K ρ B H ds vs ∧ m dx ds hp = some (d, hp') ∧ Fol K ρ B H d hp' Q
def eMth (T : String) (m : DV → List DV → M DV) (f : DEx) (a : DAx) : DEx := fun env => do
  let x ← f env
  kindG T x
  let ds ← a env
  m x ds
theorem de_mth {T id : String} {name : Str} {o : Expr} {es : List Expr} {fo : DEx} {fs : DAx} {m : DV → List DV → M DV} {apos cpos : Pos} (hm : MtR X id (tPm X.K m)) (pa : PlainAttrs T) (slot : Slot T name id) (hty : typeOf (.builtin id) = pure (.type "method_descriptor")) (ho : DE X o fo) (ha : DA X (e :: es) fs)
    (hbase : attributeBase o name X.env (eval o X.env) = eval o X.env := by rfl)
    (hfew : ((backTo cpos (starEach (e :: es) X.env)).all (fun x => !x.1) && (backToKw cpos (keywordEach [] X.env)).all (fun x => x.1.isSome)
      && decide ((e :: es).length + ([] : List Keyword).length + (if ([] : List Keyword).isEmpty then 0 else 1) < 30)) = true := by rfl)
    (hline : (apos.endLine == cpos.line) = true := by rfl) (hs : starEach (e :: es) X.env = (false, eval e X.env) :: starEach es X.env := by rfl) (hplain : (backTo cpos (starEach es X.env)).any (·.1) = false := by rfl) :
    DE X (.Call (.Attribute o name apos) (e :: es) [] cpos) (eMth T m fo fs) :=
  L2.PE.imp (pe_bm pa slot hty hm ho ha hbase hfew hline hs hplain) fun σ H Q ⟨Z, env, ρ, B, hp, d, hp', S, e, k⟩ => by
    obtain ⟨x, hp1, e1, ea⟩ := bind_some e
    obtain ⟨_, hp2, e2, eb⟩ := bind_some ea
    obtain ⟨ds, hp3, e3, ec⟩ := bind_some eb
    refine tD.run S e1 fun v ρ1 B1 H1 g1 S1 r1 => ?_
    obtain ⟨z, ty⟩ := kindG_ty S1.wo r1 e2
    rw [← z] at e3
    exact ⟨ty, tDA.run S1 e3 fun vs ρ2 B2 H2 g2 S2 r2 => ⟨ρ2, B2, hp3, x, ds, d, hp', S2.wo, RepV.grow S1.wo.rb g2 _ _ r1, r2, ec, k.after (g1.trans g2)⟩⟩
def onL (x : DV) (k : Nat → List DV → M DV) : M DV := match x with
  | .ref n => do
    match ← getW n with
    | .lst ds => k n ds
    | _ => failure
  | _ => failure
def onD (x : DV) (k : Nat → List (Key × DV) → M DV) : M DV := match x with
  | .ref n => do
    match ← getW n with
    | .dic ds => k n ds
    | _ => failure
  | _ => failure
theorem onL_some {x d : DV} {k : Nat → List DV → M DV} {hp hp' : Hs} (h : onL x k hp = some (d, hp')) : ∃ n ds, x = .ref n ∧ hp[n]? = some (.lst ds) ∧ k n ds hp = some (d, hp') := by
  cases x with
  | ref n =>
    obtain ⟨o, hp1, e1, e2⟩ := bind_some h
    obtain ⟨e3, rfl⟩ := getW_some e1
    cases o with
    | lst ds => exact ⟨n, ds, rfl, e3, e2⟩
    | dic _ => cases e2
    | ins _ _ => cases e2
  | _ => cases h
def mAppend (x : DV) : List DV → M DV
  | [d] => onL x fun n ds => do guardM (decide (ds.length < lim)); setW n (.lst (ds ++ [d])); pure .non
  | _ => failure
theorem m_append : MtR X "list.append" (tPm X.K mAppend) := by
  intro pins s σ H x vs v us Q I rx rv h
  obtain ⟨ρ, B, hp, dx, es, d, hp', W, r1, r2, e, k⟩ := h
  unfold mAppend at e
  split at e
  · rename_i y
    obtain ⟨n, ds, rfl, h0, e⟩ := onL_some e
    obtain ⟨_, hp1, e1, e2⟩ := bind_some e
    obtain ⟨hl, rfl⟩ := guardM_some e1
    cases e2
    obtain ⟨a, rfl, i1, xs, h1, l1⟩ := RepV.refW W r1 h0
    obtain ⟨w, rfl, rw'⟩ := r2.oneI
    obtain ⟨g, W'⟩ := wset_lst W i1 h1 (RepL.append l1 (RepL.one rw'))
    exact mt_append pins s σ H _ _ v us Q I rx rv ⟨a, xs, w, rfl, rfl, h1, by rw [← l1.length]; exact Nat.lt_of_lt_of_le (of_decide_eq_true hl) lim_le, k _ ρ B _ g W' rep_non⟩
  · cases e
def mInsert (x : DV) : List DV → M DV
  | [.int i, d] => onL x fun n ds => do guardM (decide (ds.length < lim) && smallI i); setW n (.lst (ds.take (insN ds.length i) ++ d :: ds.drop (insN ds.length i))); pure .non
  | _ => failure
def mDPop (x : DV) : List DV → M DV
  | [y] => onD x fun n kvs => do
    let k ← keyM y
    let d ← optM (valD kvs k)
    setW n (.dic (dropD kvs k))
    pure d
  | [y, z] => onD x fun n kvs => do
    let k ← keyM y
    match valD kvs k with
    | some d => do setW n (.dic (dropD kvs k)); pure d
    | none => pure z
  | _ => failure
def mDGet (x : DV) : List DV → M DV
  | [y] => onD x fun n kvs => do
    let k ← keyM y
    pure ((valD kvs k).getD .non)
  | [y, z] => onD x fun n kvs => do
    let k ← keyM y
    pure ((valD kvs k).getD z)
  | _ => failure
end
end D
namespace L2
open PySem PySem.Spec PyProof.Rows
theorem Inv.kfresh {X : Cx} {pins : List (Addr × Obj)} {σ : St} {H : Hp} {s : Shared} (I : Inv X pins σ H s) : X.K.lookup s.heap.objs.size = none := by
  cases q : X.K.lookup s.heap.objs.size with
  | none => rfl
  | some o => exact absurd (Heap.lt_size (I.kIn _ o q)) (Nat.lt_irrefl _)
theorem pe_dnewKK {X : Cx} {pos : Pos} : PE X (.Dict [] [] pos) (fun _ H Q => ∀ p, H p = none → X.K.lookup p = none → Q (.ref p) (upd H p (.dK []))) := fun pins s σ H Q I h =>
  wpAny_Dict_empty ⟨.ref s.heap.objs.size, _, I.laid (a := s.heap.objs.size) (o := .dK []) (t' := s.toks) (fun _ _ q => Heap.get?_push_of_some _ q) (Nat.le_refl _) (dk_empty s.heap I.big), rfl, h _ (I.hok.fresh (Nat.le_refl _)) I.kfresh⟩
end L2
namespace D
open PySem PySem.Spec PyProof.Rows L2
section
variable {X : Cx} {e a b c : Expr} {f fa fb fc : DEx} {ca cb : DTx} {pos : Pos}
def evP : List (DEx × DEx) → En → M (List (Key × DV))
  | [], _ => pure []
  | (f, g) :: r, env => do
    let x ← f env
    let k ← keyM x
    let y ← g env
    let ps ← evP r env
    pure ((k, y) :: ps)
def mergeD (kvs more : List (Key × DV)) : List (Key × DV) := more.foldl (fun acc kv => putD acc kv.1 kv.2) kvs
def eNewD (ps : List (DEx × DEx)) : DEx := fun env => do
  let kvs ← evP ps env
  guardM (decide (kvs.length ≤ 15))
  allocW (.dic (mergeD [] kvs))
def eNewD0 : DEx := fun _ => allocW (.dic [])
theorem de_newD0 : DE X (.Dict [] [] pos) eNewD0 := L2.PE.imp pe_dnewKK fun σ H Q ⟨Z, env, ρ, B, hp, d, hp', S, e, k⟩ => by
  cases e
  intro p hn hk
  have g : Gr X.K ρ B H (ρ ++ [p]) (banP B p) (upd H p (.dK [])) := Gr.wnew hn hk
  refine k _ _ _ _ g (S.wo.wnew hn hk (RepK.orep (xs := []) .nil upd_same)) ?_
  unfold RepV
  exact ⟨p, rfl, by rw [← S.wo.len]; simp⟩
abbrev NX := Nat → M (Option DV)
def NxtOk (K : PySem.W.Frag) (ρ : List Addr) (B : Addr → Prop) (H : Hp) (nxt : NX) (J : It) : Prop :=
  ∀ ρ1 B1 hp1 H1, Gs K ρ B H ρ1 B1 H1 → WOk K ρ1 B1 hp1 H1 → ∀ (i : Nat) (o : Option DV) (hp2 : Hs), nxt i hp1 = some (o, hp2) → hp2 = hp1 ∧ match o with
    | none => J.stop i H1
    | some d => J.go i H1 ∧ ∀ x H', J.yld i H1 x H' → RepV K ρ1 B1 H' d x ∧ (H' = H1 ∨ ∃ p o, H1 p = none ∧ H' = upd H1 p o)
abbrev DXx := En → M NX
def tDX (K : PySem.W.Frag) (f : DXx) : TI := fun σ H R => ∃ Z env ρ B hp nxt hp', SOk K Z env σ ρ B hp H ∧ f env hp = some (nxt, hp') ∧ ∀ J ρ' B' H', Gr K ρ B H ρ' B' H' → WOk K ρ' B' hp' H' → NxtOk K ρ' B' H' nxt J → R J H'
def DX (X : Cx) (tg iter : Expr) (f : DXx) : Prop := PI X tg iter (tDX X.K f)
def nxD (ds : List DV) : NX := fun i => if i ≤ ds.length then pure ds[i]? else failure
def nxW (n : Nat) : NX := fun i => do
  match ← getW n with
  | .lst ds => pure ds[i]?
  | _ => failure
theorem nxD_ok {K : PySem.W.Frag} {ρ : List Addr} {B : Addr → Prop} {H : Hp} {ds : List DV} {J : It} (h : ItOk K ρ B H ds J) : NxtOk K ρ B H (nxD ds) J := fun ρ1 B1 hp1 H1 g W i o hp2 e => by
  unfold nxD at e
  by_cases hi : i ≤ ds.length
  · rw [if_pos hi] at e
    obtain ⟨rfl, rfl⟩ := pure_some e
    obtain ⟨h1, h2⟩ := h ρ1 B1 H1 g W.rb W.bt
    refine ⟨rfl, ?_⟩
    cases q : ds[i]? with
    | none =>
      have : i = ds.length := by have := List.getElem?_eq_none_iff.mp q; omega
      subst this
      exact h2
    | some d => exact h1 i d q
  · rw [if_neg hi] at e; cases e
theorem nxW_ok {K : PySem.W.Frag} {ρ : List Addr} {B : Addr → Prop} {H : Hp} {n : Nat} {a : Addr} (ha : ρ[n]? = some a) (kf : ∀ H1 : Hp, ∀ xs ys, H1 a = some (.lst xs) → SqL K H1 a ys → ys = xs) : NxtOk K ρ B H (nxW n) (Itl K a) := fun ρ1 B1 hp1 H1 g W i o hp2 e => by
  obtain ⟨ob, hp3, e1, e2⟩ := bind_some e
  obtain ⟨e3, rfl⟩ := getW_some e1
  have ha1 := pre_get g.pre ha
  cases ob with
  | dic _ => cases e2
  | ins _ _ => cases e2
  | lst ds =>
    obtain ⟨rfl, rfl⟩ := pure_some e2
    obtain ⟨xs, h1, l1⟩ := W.obj n a _ ha1 e3
    refine ⟨rfl, ?_⟩
    cases q : ds[i]? with
    | none => exact ⟨xs, SqL.of h1, by rw [← l1.length]; exact List.getElem?_eq_none_iff.mp q⟩
    | some d =>
      obtain ⟨x, hx, rx⟩ := l1.get q
      refine ⟨⟨xs, x, SqL.of h1, hx⟩, fun y H' ⟨eH, hy⟩ => ?_⟩
      subst eH
      have := hy xs (SqL.of h1)
      rw [hx] at this; cases this
      exact ⟨rx, .inl rfl⟩
theorem sql_uniq {K : PySem.W.Frag} {a : Addr} (hk : K.lookup a = none) (H : Hp) (xs ys : List V) (h : H a = some (.lst xs)) (h' : SqL K H a ys) : ys = xs := by
  rcases h' with (h' | ⟨o, h'⟩) | ⟨o, _, _, h', _⟩
  · rw [h] at h'; cases h'; rfl
  · rw [h] at h'; cases h'
  · rw [hk] at h'; cases h'
def xOf (f : DIx) : DXx := fun env => do let ds ← f env; pure (nxD ds)
def xLs (f : DEx) : DXx := fun env => do
  match ← f env with
  | .lst ds => pure (nxD ds)
  | .ref n => do
    match ← getW n with
    | .lst _ => pure (nxW n)
    | _ => failure
  | _ => failure
variable {tg iter : Expr}
theorem dx_of {g : DIx} (h : DI X tg iter g) : DX X tg iter (xOf g) := L2.PI.imp h fun σ H R ⟨Z, env, ρ, B, hp, nxt, hp', S, e, k⟩ => by
  obtain ⟨ds, hp1, e1, e2⟩ := bind_some e
  obtain ⟨rfl, rfl⟩ := pure_some e2
  exact ⟨Z, env, ρ, B, hp, ds, hp1, S, e1, fun J ρ' B' H' g W it => k J ρ' B' H' g W (nxD_ok it)⟩
theorem dx_list (h : DE X iter f) : DX X tg iter (xLs f) := L2.PI.imp (pi_list (L2.PE.kf h)) fun σ H R ⟨Z, env, ρ, B, hp, nxt, hp', S, e, k⟩ => by
  obtain ⟨d, hp1, e1, e2⟩ := bind_some e
  refine tD.run S e1 fun v ρ1 B1 H1 g1 S1 r1 kf => ?_
  cases d with
  | lst ds =>
    obtain ⟨rfl, rfl⟩ := pure_some e2
    obtain ⟨a, xs, rfl, nb, sq, rl⟩ := r1.lstI
    exact ⟨a, rfl, ⟨xs, sq⟩, k _ ρ1 B1 H1 g1 S1.wo (nxD_ok (it_list nb sq rl))⟩
  | ref n =>
    obtain ⟨o, hp2, e3, e4⟩ := bind_some (show (getW n >>= fun o => (match o with | .lst _ => pure (nxW n) | _ => failure : M NX)) hp1 = some (nxt, hp') from e2)
    obtain ⟨e5, e6⟩ := getW_some e3
    cases o with
    | lst ds =>
      obtain ⟨rfl, z⟩ := pure_some e4
      rw [← z, ← e6] at k
      obtain ⟨a, rfl, i1, xs, h1, _⟩ := RepV.refW S1.wo r1 e5
      exact ⟨a, rfl, ⟨xs, SqL.of h1⟩, k _ ρ1 B1 H1 g1 S1.wo (nxW_ok i1 (sql_uniq (kf a _ h1)))⟩
    | dic _ => cases e4
    | ins _ _ => cases e4
  | non => cases e2
  | bl _ => cases e2
  | int _ => cases e2
  | str _ => cases e2
  | tup _ => cases e2
def forX (nxt : NX) (b : DV → DSx) : Nat → Nat → DSx
  | 0, _, _ => failure
  | m + 1, i, env => do
    match ← nxt i with
    | none => pure (.nx, env)
    | some d => do
      let r ← b d env
      match r.1 with
      | .nx => forX nxt b m (i + 1) r.2
      | .ct => forX nxt b m (i + 1) r.2
      | .bk => pure (.nx, r.2)
      | .rt x => pure (.rt x, r.2)
def sForX (f : DXx) (g : DGx) (body : DSx) : DSx := fun env => do let nxt ← f env; forX nxt (fun d env => do let env' ← g d env; body env') 100000 0 env
theorem ds_forX {body : List Stmt} {fi : DXx} {g : DGx} {sb : DSx} (hp : PassesOwn (model X.prog X.w) X.A X.env X.xe) (hc : X.calm = true) (hi : DX X tg iter fi) (hg : PG X tg (tDG X.K g)) (hb : DSs X body sb)
    (hs : ∀ x, foldedSetIterable iter X.env x = pure x := by intro _; rfl) : DS X (.For tg iter body [] pos) (sForX fi g sb) :=
  (ps_for hp hc hi hg hb hs).imp fun D σ H ⟨Z, env, ρ, B, hp, fl, env', hp', S, e, k⟩ => by
    obtain ⟨nxt, hp1, e1, e2⟩ := bind_some e
    refine ⟨Z, env, ρ, B, hp, nxt, hp1, S, e1, fun J ρ1 B1 H1 g1 W1 it => ?_⟩
    have k1 := k.after (g1.gs S.wo.rb)
    refine ⟨fun i m σ H => ∃ env ρ B hp, SOk X.K Z env σ ρ B hp H ∧ Gs X.K ρ1 B1 H1 ρ B H ∧ forX nxt (fun d env => do let env' ← g d env; sb env') m i env hp = some ((fl, env'), hp'),
      ⟨100000, env, ρ1, B1, hp1, S.grow g1 W1, Gs.refl, e2⟩, ?_⟩
    rintro i m σ H ⟨env2, ρ2, B2, hp2, S2, g2, e3⟩
    cases m with
    | zero => cases e3
    | succ m =>
      obtain ⟨o, hpo, eo, e3⟩ := bind_some e3
      obtain ⟨rfl, ito⟩ := it ρ2 B2 hp2 H g2 S2.wo i o hpo eo
      cases o with
      | none =>
        obtain ⟨z, rfl⟩ := pure_some e3; cases z
        exact .inl ⟨ito, k1 σ ρ2 B2 H g2 S2⟩
      | some d =>
        obtain ⟨go, yl⟩ := ito
        obtain ⟨⟨f1, env4⟩, hp4, e4, e5⟩ := bind_some e3
        obtain ⟨env3, hp3, e6, e7⟩ := bind_some e4
        refine .inr ⟨go, fun σ' H' => ∃ env ρ B hp, SOk X.K Z env σ' ρ B hp H' ∧ Gs X.K ρ1 B1 H1 ρ B H' ∧ forX nxt (fun d env => do let env' ← g d env; sb env') m (i + 1) env hp = some ((fl, env'), hp'),
          fun σ' H' q => ⟨m, Nat.lt_succ_self m, q⟩, fun x H' y => ?_⟩
        obtain ⟨rx, hx⟩ := yl x H' y
        have S3 : SOk X.K Z env2 σ ρ2 B2 hpo H' ∧ Gs X.K ρ2 B2 H ρ2 B2 H' := by
          rcases hx with rfl | ⟨p, o, hn, rfl⟩
          · exact ⟨S2, Gs.refl⟩
          · exact ⟨S2.grow (Gr.laid hn) (S2.wo.laid hn), upd_gs S2.wo.rb hn⟩
        refine ⟨Z, env2, ρ2, B2, hpo, d, env3, hp3, S3.1, rx, e6, fun σ5 ρ5 B5 H5 g5 S5 => ⟨Z, env3, ρ5, B5, hp3, f1, env4, hp4, S5, e7, fun σ6 ρ6 B6 H6 g6 S6 => ?_⟩⟩
        have G6 := g2.trans (S3.2.trans (g5.trans g6))
        cases f1 with
        | nx => exact ⟨env4, ρ6, B6, hp4, S6, G6, e5⟩
        | ct => exact ⟨env4, ρ6, B6, hp4, S6, G6, e5⟩
        | bk => obtain ⟨z, rfl⟩ := pure_some e5; cases z; exact k1 σ6 ρ6 B6 H6 G6 S6
        | rt d => obtain ⟨z, rfl⟩ := pure_some e5; cases z; exact k1 σ6 ρ6 B6 H6 G6 S6
def compX (nxt : NX) (g : DV → M Bool) (f : DV → M DV) : Nat → Nat → M (List DV)
  | 0, _ => failure
  | m + 1, i => do
    match ← nxt i with
    | none => pure []
    | some d => do
      if ← g d then
        let y ← f d
        let ys ← compX nxt g f m (i + 1)
        pure (y :: ys)
      else compX nxt g f m (i + 1)
def eCompX (nw : Bool) (src : DXx) (idx : List Nat) (t : DTx) (f : DEx) : DEx := fun env => do
  let nxt ← src env
  let out ← compX nxt (fun d => t (cE idx env d)) (fun d => f (cE idx env d)) lim 0
  if nw then allocW (.lst out) else pure (.lst out)
variable {elt : Expr} {x : Str} {px : Pos} {ifs : List Expr} {scope : Scope} {cl : List (Str × Addr)} {caps : List Str} {idx : List Nat} {src : DXx} {te : DTx} {nw : Bool}
theorem eCompX_imp {K : PySem.W.Frag} {σ : St} {H : Hp} {Q : VK} (h : tD K (eCompX nw src idx te f) σ H Q) : tComp K (tDX K src) (tDT K te) (tD K f) idx σ H Q := by
  obtain ⟨Z, env, ρ, B, hp, d, hp', S, e, k⟩ := h
  obtain ⟨nxt, hp1, e1, e2⟩ := bind_some e
  obtain ⟨out, hp3, e5, e6⟩ := bind_some e2
  refine ⟨Z, env, ρ, B, hp, nxt, hp1, S, e1, fun J ρ1 B1 H1 g1 W1 it D hD hK => ?_⟩
  have g1s := g1.gs S.wo.rb
  refine ⟨fun i m ys H2 => H2 D = some (.lst ys) ∧ i + m = lim ∧ ∃ ρ2 B2 hp2 don rst, Gr K ρ1 B1 H1 ρ2 B2 H2 ∧ WOk K ρ2 B2 hp2 H2 ∧ B2 D ∧ D ∉ ρ2 ∧ RepL K ρ2 B2 H2 don ys ∧ don.length ≤ i ∧
    compX nxt (fun d => te (cE idx env d)) (fun d => f (cE idx env d)) m i hp2 = some (rst, hp3) ∧ don ++ rst = out, ?_, ?_⟩
  · exact ⟨lim, upd_same, Nat.zero_add _, ρ1, banP B1 D, hp1, [], out, Gr.banned hD hK, W1.banned hD hK, .inr rfl, fun z => W1.bt D (W1.rb D z) hD, RepL.nil, Nat.le_refl _, e5, rfl⟩
  · rintro i m ys H2 ⟨hDs, him, ρ2, B2, hp2, don, rst, g2, W2, bD, nD, rd, dn, e7, e8⟩
    refine ⟨hDs, ?_⟩
    cases m with
    | zero => cases e7
    | succ m =>
      obtain ⟨o, hpo, eo, e7⟩ := bind_some e7
      obtain ⟨rfl, ito⟩ := it ρ2 B2 hp2 H2 (g2.gs W1.rb) W2 i o hpo eo
      cases o with
      | some d0 =>
        obtain ⟨go, yl⟩ := ito
        obtain ⟨b, hp4, e9, e10⟩ := bind_some e7
        refine .inr ⟨go, fun x H3 y => ?_⟩
        obtain ⟨rx, hx⟩ := yl x H3 y
        have S3 : Gr K ρ2 B2 H2 ρ2 B2 H3 ∧ WOk K ρ2 B2 hpo H3 := by
          rcases hx with rfl | ⟨p, o, hn, rfl⟩
          · exact ⟨Gr.refl, W2⟩
          · exact ⟨Gr.laid hn, W2.laid hn⟩
        have g3 := g2.trans S3.1
        have C3 := cσ_ok (idx := idx) S (g1s.trans (g3.gs W1.rb)) S3.2 rx
        refine tDT.run C3 e9 fun ρ4 B4 H4 g4 S4 => ?_
        have hD4 : H4 D = some (.lst ys) := g4.keep D _ nD (S3.1.keep D _ nD hDs)
        have nD4 : D ∉ ρ4 := fun z => (g4.rnew D z).elim nD fun q => by rw [S3.1.keep D _ nD hDs] at q; cases q
        cases b with
        | false =>
          exact iteF ⟨m, Nat.lt_succ_self m, hD4, by omega, ρ4, B4, hp4, don, rst, g3.trans g4, S4.wo, g4.ban D bD, nD4, RepL.grow W2.rb (S3.1.trans g4) _ _ rd, by omega, e10, e8⟩
        | true =>
          obtain ⟨z, hp5, e11, e12⟩ := bind_some e10
          obtain ⟨zs, hp6, e13, e14⟩ := bind_some e12
          obtain ⟨rfl, rfl⟩ := pure_some e14
          refine iteT (tD.run S4 e11 fun v ρ5 B5 H5 g5 S5 r5 => ?_)
          have hD5 : H5 D = some (.lst ys) := g5.keep D _ nD4 hD4
          have nD5 : D ∉ ρ5 := fun z => (g5.rnew D z).elim nD4 fun q => by rw [hD4] at q; cases q
          have bD5 : B5 D := g5.ban D (g4.ban D bD)
          have G5 := g3.trans (g4.trans g5)
          have rd5 := RepL.grow W2.rb (S3.1.trans (g4.trans g5)) _ _ rd
          have trk : ∀ b, (upd H5 D (.lst (ys ++ [v]))) b = none → H5 b = none := fun b q => by
            by_cases e : b = D
            · subst e; rw [upd_same] at q; cases q
            · rw [upd_ne e] at q; exact q
          have g6 : Gs K ρ5 B5 H5 ρ5 B5 (upd H5 D (.lst (ys ++ [v]))) := ⟨List.prefix_rfl, fun _ h => .inl h, fun b o nb h => by rw [upd_ne (show b ≠ D from fun z => nb (by rw [z]; exact bD5))]; exact h, trk⟩
          refine ⟨hD5, ?_, m, Nat.lt_succ_self m, upd_same, by omega, ρ5, B5, hp5, don ++ [z], zs, ?_, ?_, bD5, nD5, RepL.gs g6 _ _ (RepL.append rd5 (RepL.one r5)), by simp; omega, e13, by rw [← e8]; simp⟩
          · have h1 := rd5.length
            have h2 : lim < sizeLine := by decide
            omega
          · exact ⟨G5.pre, G5.ban, G5.new, G5.rnew, fun b o nb h => by rw [upd_ne (show b ≠ D from fun q => by rw [q, hD] at h; cases h)]; exact G5.keep b o nb h, fun b q => G5.trk b (trk b q)⟩
          · exact ⟨S5.wo.len, S5.wo.nd, fun j b o q1 q2 => ORep.gs g6 (upd_ne (show b ≠ D from fun z => nD5 (by rw [← z]; exact List.mem_of_getElem? q1))) (S5.wo.obj j b o q1 q2), S5.wo.rb, fun b z q => S5.wo.bt b z (trk b q), S5.wo.bk⟩
      | none =>
        obtain ⟨z, z'⟩ := pure_some e7
        subst z
        subst z'
        refine .inl ⟨ito, ?_⟩
        rw [List.append_nil] at e8
        subst e8
        cases nw with
        | false =>
          obtain ⟨rfl, rfl⟩ := pure_some (show (pure (.lst don) : M DV) hpo = some (d, hp') from e6)
          have gU : Gs K ρ2 B2 H2 ρ2 (fun b => B2 b ∧ b ≠ D) H2 := ⟨List.prefix_rfl, fun _ h => .inl h.1, fun _ _ _ h => h, fun _ h => h⟩
          refine k (.ref D) ρ2 (fun b => B2 b ∧ b ≠ D) H2 (g1.trans ⟨g2.pre, fun b z => ⟨g2.ban b z, fun q => W1.bt b z (q ▸ hD)⟩, fun b z => g2.new b z.1, g2.rnew, g2.keep, g2.trk⟩)
            ⟨W2.len, W2.nd, fun j b o q1 q2 => ORep.gs gU rfl (W2.obj j b o q1 q2), fun b z => ⟨W2.rb b z, fun q => nD (q ▸ z)⟩, fun b z => W2.bt b z.1, fun b z => W2.bk b z.1⟩ (rep_lst (fun z => z.2 rfl) (SqL.of hDs) (RepL.gs gU _ _ rd))
        | true =>
          cases (show some (DV.ref hpo.length, hpo ++ [OV.lst don]) = some (d, hp') from e6)
          have gU : Gs K ρ2 B2 H2 (ρ2 ++ [D]) B2 H2 := ⟨List.prefix_append _ _, fun _ h => .inl h, fun _ _ _ h => h, fun _ h => h⟩
          refine k (.ref D) (ρ2 ++ [D]) B2 H2 (g1.trans ⟨g2.pre.trans (List.prefix_append _ _), g2.ban, g2.new, fun a z => (List.mem_append.mp z).elim (g2.rnew a) fun q => .inr (by rw [List.mem_singleton.mp q]; exact hD), g2.keep, g2.trk⟩)
            ⟨by simp [W2.len], List.nodup_append.mpr ⟨W2.nd, by simp, fun a ha b hb => by rw [List.mem_singleton.mp hb]; exact fun z => nD (z ▸ ha)⟩, fun j b o q1 q2 => ?_, fun b z => (List.mem_append.mp z).elim (W2.rb b) fun q => by rw [List.mem_singleton.mp q]; exact bD, W2.bt, W2.bk⟩ ?_
          · by_cases hi : j < ρ2.length
            · rw [List.getElem?_append_left hi] at q1
              rw [List.getElem?_append_left (by rw [← W2.len]; exact hi)] at q2
              exact ORep.gs gU rfl (W2.obj j b o q1 q2)
            · rw [List.getElem?_append_right (by omega)] at q1
              rw [List.getElem?_append_right (by rw [← W2.len]; omega)] at q2
              have hi0 : j - ρ2.length = 0 := by
                have := (List.getElem?_eq_some_iff.mp q1).1
                simp at this; omega
              rw [hi0] at q1
              rw [← W2.len, hi0] at q2
              simp at q1 q2
              subst q1 q2
              exact ⟨ys, hDs, RepL.gs gU _ _ rd⟩
          · unfold RepV
            exact ⟨D, rfl, by rw [← W2.len]; simp⟩
theorem de_compX (S : CompS X x scope cl caps idx) (hc : X.calm = true) (hi : DX X (.Name x px) iter src)
    (ht : ∀ C s₀ H₀ ex, DTs (cxComp X scope cl C (x :: caps) s₀ H₀ ex) ifs te) (he : ∀ C s₀ H₀ ex, DE (cxComp X scope cl C (x :: caps) s₀ H₀ ex) elt f)
    (hs : ∀ x, foldedSetIterable iter X.env x = pure x := by intro _; rfl) : DE X (.ListComp elt [⟨.Name x px, iter, ifs, 0⟩] scope pos) (eCompX nw src idx te f) :=
  L2.PE.imp (pe_comp (tt := tDT X.K te) (te := tD X.K f) S hc hi ht he hs) fun _ _ _ h => eCompX_imp h
theorem ds_compX (i : Nat) {y : Str} {py spos : Pos} (hN : X.N.Nodup) (S : CompS X x scope cl caps idx) (hc : X.calm = true) (hi : DX X (.Name x px) iter src)
    (ht : ∀ C s₀ H₀ ex, DTs (cxComp X scope cl C (x :: caps) s₀ H₀ ex) ifs te) (he : ∀ C s₀ H₀ ex, DE (cxComp X scope cl C (x :: caps) s₀ H₀ ex) elt f)
    (hy : X.N[i]? = some y := by rfl) (hx : Loc X.env.scope y := by first | exact Or.inl rfl | exact Or.inr rfl)
    (hsw : swapsWith (.ListComp elt [⟨.Name x px, iter, ifs, 0⟩] scope pos) (some (.Name y py)) spos.line X.env = pure true := by with_unfolding_all rfl)
    (hf : X.fn y = true ∨ X.env.scope.names.lookup y = some .local := by first | exact .inl rfl | exact .inr rfl | assumption)
    (hs : ∀ x, foldedSetIterable iter X.env x = pure x := by intro _; rfl) : DS X (.Assign [.Name y py] (.ListComp elt [⟨.Name x px, iter, ifs, 0⟩] scope pos) spos) (sSet i (eCompX nw src idx te f)) :=
  L2.PS.imp (ps_comp (tt := tDT X.K te) (te := tD X.K f) S hc hi ht he hN hy hx hsw hf hs) fun _ _ _ h => sSet_imp (fun _ _ _ q => eCompX_imp q) h
end
end D
namespace D
open PySem PySem.Spec PyProof.Rows L2
def WP {α : Type} (m : M α) (hp : Hs) (Q : α → Hs → Prop) : Prop := ∃ x hp', m hp = some (x, hp') ∧ Q x hp'
section
variable {α β : Type} {m : M α} {k : α → M β} {hp : Hs} {Q : α → Hs → Prop} {R : β → Hs → Prop}
theorem WP_pure {x : α} : WP (pure x) hp Q ↔ Q x hp := ⟨fun ⟨y, h, e, q⟩ => by obtain ⟨rfl, rfl⟩ := pure_some e; exact q, fun q => ⟨x, hp, rfl, q⟩⟩
theorem WP_bind : WP (m >>= k) hp R ↔ WP m hp fun x h => WP (k x) h R := ⟨fun ⟨y, h, e, q⟩ => by obtain ⟨x, h1, e1, e2⟩ := bind_some e; exact ⟨x, h1, e1, y, h, e2, q⟩, fun ⟨x, h1, e1, y, h, e2, q⟩ => ⟨y, h, (bind_at e1).trans e2, q⟩⟩
theorem WP.mono {Q' : α → Hs → Prop} (h : WP m hp Q) (hq : ∀ x h, Q x h → Q' x h) : WP m hp Q' := let ⟨x, h1, e, q⟩ := h; ⟨x, h1, e, hq x h1 q⟩
theorem WP.of {x : α} {hp' : Hs} (e : m hp = some (x, hp')) (q : Q x hp') : WP m hp Q := ⟨x, hp', e, q⟩
end
section
variable {hp : Hs} {env : En} {Q : Fl × En → Hs → Prop}
theorem WP_forL {b : DV → DSx} (I : Nat → En → Hs → Prop) (ds : List DV) (h0 : I 0 env hp) (hs : ∀ (i : Nat) d, ds[i]? = some d → ∀ env hp, I i env hp → WP (b d env) hp fun r h => match r.1 with
    | .nx => I (i + 1) r.2 h
    | .ct => I (i + 1) r.2 h
    | .bk => Q (.nx, r.2) h
    | .rt x => Q (.rt x, r.2) h) (he : ∀ env hp, I ds.length env hp → Q (.nx, env) hp) : WP (forL b ds env) hp Q := by
  suffices h : ∀ (m i : Nat) env hp, m + i = ds.length → I i env hp → WP (forL b (ds.drop i) env) hp Q by simpa using h ds.length 0 env hp rfl h0
  intro m
  induction m with
  | zero =>
    intro i env hp e hI
    have : i = ds.length := by omega
    subst this
    rw [List.drop_length]
    exact WP_pure.mpr (he env hp hI)
  | succ m ih =>
    intro i env hp e hI
    have hlt : i < ds.length := by omega
    rw [List.drop_eq_getElem_cons hlt, forL, WP_bind]
    refine (hs i ds[i] (List.getElem?_eq_getElem hlt) env hp hI).mono fun r h q => ?_
    obtain ⟨fl, env1⟩ := r
    cases fl with
    | nx => exact ih (i + 1) env1 h (by omega) q
    | ct => exact ih (i + 1) env1 h (by omega) q
    | bk => exact WP_pure.mpr q
    | rt x => exact WP_pure.mpr q
theorem WP_forX {nxt : NX} {b : DV → DSx} (ds : List DV) (I : Nat → En → Hs → Prop) (hl : ds.length < 100000) (hn : ∀ (i : Nat) env hp, i ≤ ds.length → I i env hp → nxt i hp = some (ds[i]?, hp)) (h0 : I 0 env hp) (hs : ∀ (i : Nat) d, ds[i]? = some d → ∀ env hp, I i env hp → WP (b d env) hp fun r h => match r.1 with
    | .nx => I (i + 1) r.2 h
    | .ct => I (i + 1) r.2 h
    | .bk => Q (.nx, r.2) h
    | .rt x => Q (.rt x, r.2) h) (he : ∀ env hp, I ds.length env hp → Q (.nx, env) hp) : WP (forX nxt b 100000 0 env) hp Q := by
  suffices h : ∀ (m i n : Nat) env hp, m + i = ds.length → m < n → I i env hp → WP (forX nxt b n i env) hp Q from h ds.length 0 100000 env hp rfl hl h0
  intro m
  induction m with
  | zero =>
    intro i n env hp e hn' hI
    have : i = ds.length := by omega
    subst this
    obtain ⟨n, rfl⟩ : ∃ k, n = k + 1 := ⟨n - 1, by omega⟩
    rw [forX, WP_bind]
    refine WP.of (hn _ env hp (Nat.le_refl _) hI) ?_
    rw [show ds[ds.length]? = none by simp]
    exact WP_pure.mpr (he env hp hI)
  | succ m ih =>
    intro i n env hp e hn' hI
    have hlt : i < ds.length := by omega
    obtain ⟨n, rfl⟩ : ∃ k, n = k + 1 := ⟨n - 1, by omega⟩
    rw [forX, WP_bind]
    refine WP.of (hn i env hp (by omega) hI) ?_
    simp only [List.getElem?_eq_getElem hlt]
    rw [WP_bind]
    refine (hs i ds[i] (List.getElem?_eq_getElem hlt) env hp hI).mono fun r h q => ?_
    obtain ⟨fl, env1⟩ := r
    cases fl with
    | nx => exact ih (i + 1) n env1 h (by omega) (by omega) q
    | ct => exact ih (i + 1) n env1 h (by omega) (by omega) q
    | bk => exact WP_pure.mpr q
    | rt x => exact WP_pure.mpr q
theorem nxD_at (ds : List DV) (i : Nat) (h : i ≤ ds.length) (hp : Hs) : nxD ds i hp = some (ds[i]?, hp) := by unfold nxD; rw [if_pos h]; rfl
theorem nxW_at {n : Nat} {ds : List DV} {hp : Hs} (h : hp[n]? = some (.lst ds)) (i : Nat) : nxW n i hp = some (ds[i]?, hp) := by
  unfold nxW
  have : getW n hp = some (.lst ds, hp) := by unfold getW; rw [h]
  rw [bind_at this]; rfl
theorem WP_forXD {b : DV → DSx} (ds : List DV) (I : Nat → En → Hs → Prop) (hl : ds.length < 100000) (h0 : I 0 env hp) (hs : ∀ (i : Nat) d, ds[i]? = some d → ∀ env hp, I i env hp → WP (b d env) hp fun r h => match r.1 with
    | .nx => I (i + 1) r.2 h
    | .ct => I (i + 1) r.2 h
    | .bk => Q (.nx, r.2) h
    | .rt x => Q (.rt x, r.2) h) (he : ∀ env hp, I ds.length env hp → Q (.nx, env) hp) : WP (forX (nxD ds) b 100000 0 env) hp Q :=
  WP_forX ds I hl (fun i env hp h _ => nxD_at ds i h hp) h0 hs he
end
theorem drf_int (n : Nat) (hp : Hs) (i : Int) : drf (n + 1) hp (.int i) = some (.int i) := rfl
theorem drf_bl (n : Nat) (hp : Hs) (b : Bool) : drf (n + 1) hp (.bl b) = some (.bl b) := rfl
theorem drf_str (n : Nat) (hp : Hs) (b : Str) : drf (n + 1) hp (.str b) = some (.str b) := rfl
theorem drfM_of {d d' : DV} {hp : Hs} (h : drf 40 hp d = some d') : drfM d hp = some (d', hp) := by unfold drfM; rw [h]; rfl
theorem eqvG_of {x y x' y' : DV} {hp : Hs} (hx : drf 40 hp x = some x') (hy : drf 40 hp y = some y') (s1 : okP x' = true) (s2 : okP y' = true) : eqvG x y hp = some (PyData.eqv (toP x') (toP y'), hp) := by
  unfold eqvG
  simp only [okP, Bool.and_eq_true] at s1 s2
  rw [bind_at (drfM_of hx), bind_at (drfM_of hy)]
  simp only [s1.2, s2.2, Bool.and_self, guardM, if_true, pure_bind]
  rfl
theorem eqvG_int (i j : Int) (hp : Hs) : eqvG (.int i) (.int j) hp = some (i == j, hp) := eqvG_of (drf_int 39 hp i) (drf_int 39 hp j) (okP_int i) (okP_int j)
end D
namespace D
open PySem PySem.Spec PyProof.Rows L2
theorem getW_of {n : Nat} {o : OV} {hp : Hs} (h : hp[n]? = some o) : getW n hp = some (o, hp) := by unfold getW; rw [h]
theorem sAsg_at {f : DEx} {g : DGx} {env env' : En} {d : DV} {hp hp1 hp2 : Hs} (h : f env hp = some (d, hp1)) (h' : g d env hp1 = some (env', hp2)) : sAsg f g env hp = some ((.nx, env'), hp2) := by
  unfold sAsg
  rw [bind_at h, bind_at h']; rfl
theorem at_of {α : Type} {m : M α} {x : α} (h : m = pure x) (hp : Hs) : m hp = some (x, hp) := by rw [h]; rfl
theorem sIf_at {c : DTx} {f g : DSx} {env : En} {b : Bool} {hp hp1 : Hs} (h : c env hp = some (b, hp1)) : sIf c f g env hp = if b = true then f env hp1 else g env hp1 := by
  unfold sIf
  rw [bind_at h]
  cases b <;> rfl
theorem eB_at {f : DEx} {env : En} {b : Bool} {hp hp1 : Hs} (h : f env hp = some (.bl b, hp1)) : eB f env hp = some (b, hp1) := by
  unfold eB
  rw [bind_at h]; rfl
theorem eBin_atW {g : DV → DV → M DV} {f f' : DEx} {env : En} {x y d : DV} {hp hp1 hp2 hp3 : Hs} (h : f env hp = some (x, hp1)) (h' : f' env hp1 = some (y, hp2)) (hg : g x y hp2 = some (d, hp3)) : eBin g f f' env hp = some (d, hp3) := by
  unfold eBin
  rw [bind_at h, bind_at h', hg]
theorem sRet_at {f : DEx} {env : En} {d : DV} {hp hp1 : Hs} (h : f env hp = some (d, hp1)) : sRet f env hp = some ((.rt d, env), hp1) := by
  unfold sRet
  rw [bind_at h]; rfl
theorem sSeq_rtA {f g : DSx} {env env1 : En} {d : DV} {hp hp1 : Hs} (h : f env hp = some ((.rt d, env1), hp1)) : sSeq f g env hp = some ((.rt d, env1), hp1) := by
  unfold sSeq
  rw [bind_at h]; rfl
theorem sDrop_at {f : DEx} {env : En} {d : DV} {hp hp1 : Hs} (h : f env hp = some (d, hp1)) : sDrop f env hp = some ((.nx, env), hp1) := by
  unfold sDrop
  rw [bind_at h]; rfl
theorem runF_at {n : Nat} {body : DSx} {ds : List DV} {d : DV} {env : En} {hp hp1 : Hs} (h : body (ds.map .val ++ List.replicate (n - ds.length) .un) hp = some ((.rt d, env), hp1)) : runF n body ds hp = some (d, hp1) := by
  unfold runF
  rw [bind_at h]; rfl
theorem eNot_at {c : DTx} {env : En} {b : Bool} {hp hp1 : Hs} (h : c env hp = some (b, hp1)) : eNot c env hp = some (!b, hp1) := by
  unfold eNot
  rw [bind_at h]; rfl
theorem eAndV_at {f g : DEx} {env : En} {b : Bool} {hp hp1 : Hs} (h : f env hp = some (.bl b, hp1)) : eAndV f g env hp = if b = true then g env hp1 else some (.bl false, hp1) := by
  unfold eAndV
  rw [bind_at h]
  cases b <;> rfl
end D
namespace D
open PySem PySem.Spec PyProof.Rows L2
abbrev ClsN (K : PySem.W.Frag) (c : Str) (C : Addr) : Prop := PySem.W.nsIn K mainGlobals c = some (some (.ref C))
theorem ClsN.uniq {K : PySem.W.Frag} {c : Str} {C C' : Addr} (h : ClsN K c C) (h' : ClsN K c C') : C = C' := by
  have e := h.symm.trans h'; cases e; rfl
structure FldK (K : PySem.W.Frag) (c f : Str) : Prop where
  ex : ∃ C, ClsN K c C ∧ Cls K C ∧ NoAttr K C f
structure HasM (P : Program) (w : World) (K : PySem.W.Frag) (mg : Str → Option Value) (base : Heap) (c m : Str) (k n : Nat) (F : List DV → M DV) : Prop where
  ex : ∃ (C f : Addr) (fd : FuncData) (ps : List Str), ClsN K c C ∧ Cls K C ∧ Meth K C m f ∧ FnOk P w K mg base CX0 k f fd ps (spD K n F) ∧ Binds K fd ps []
structure HasI (P : Program) (w : World) (K : PySem.W.Frag) (mg : Str → Option Value) (base : Heap) (c : Str) (k n : Nat) (F : List DV → M DV) : Prop where
  ex : ∃ (C f : Addr) (fd : FuncData) (ps : List Str), ClsN K c C ∧ mg c = some (.ref C) ∧ Mk K C f ∧ FnOk P w K mg base CX0 k f fd ps (spD K n F) ∧ Binds K fd ps []
section
variable {K : PySem.W.Frag} {ρ : List Addr} {B : Addr → Prop} {H : Hp} {hp : Hs}
abbrev RepF (K : PySem.W.Frag) (ρ : List Addr) (B : Addr → Prop) (H : Hp) : List (Str × DV) → List (Str × V) → Prop := Paired fun p q => p.1 = q.1 ∧ RepV K ρ B H p.2 q.2
theorem repF_of : ∀ {fs : List (Str × DV)} {xs : List (Str × V)}, xs.map (·.1) = fs.map (·.1) → RepL K ρ B H (fs.map (·.2)) (xs.map (·.2)) → RepF K ρ B H fs xs
  | [], [], _, _ => .nil
  | [], _ :: _, e, _ => by simp at e
  | _ :: _, [], e, _ => by simp at e
  | p :: fs, q :: xs, e, r => by
    simp only [List.map_cons, List.cons.injEq] at e
    simp only [List.map_cons] at r
    unfold RepL at r
    obtain ⟨x, t, e2, h1, h2⟩ := r
    simp only [List.cons.injEq] at e2
    obtain ⟨rfl, rfl⟩ := e2
    exact .cons ⟨e.1.symm, h1⟩ (repF_of e.2 h2)
theorem RepF.to {fs : List (Str × DV)} {xs : List (Str × V)} (r : RepF K ρ B H fs xs) : xs.map (·.1) = fs.map (·.1) ∧ RepL K ρ B H (fs.map (·.2)) (xs.map (·.2)) := by
  induction r with
  | nil => exact ⟨rfl, RepL.nil⟩
  | cons h _ ih => exact ⟨by simp [ih.1, h.1], by simpa using RepL.cons h.2 ih.2⟩
theorem RepF.look {fs : List (Str × DV)} {xs : List (Str × V)} (r : RepF K ρ B H fs xs) (f : Str) : (fs.lookup f = none ∧ xs.lookup f = none) ∨ ∃ d v, fs.lookup f = some d ∧ xs.lookup f = some v ∧ RepV K ρ B H d v := by
  induction r with
  | nil => exact .inl ⟨rfl, rfl⟩
  | @cons p q _ _ h _ ih =>
    obtain ⟨p1, p2⟩ := p
    obtain ⟨q1, q2⟩ := q
    obtain ⟨h1, h2⟩ := h
    have h1 : p1 = q1 := h1
    subst h1
    cases e : f == p1 with
    | true => exact .inr ⟨p2, q2, by simp [List.lookup, e], by simp [List.lookup, e], h2⟩
    | false => simpa [List.lookup, e] using ih
def putFD (f : Str) (d : DV) : List (Str × DV) → List (Str × DV)
  | [] => [(f, d)]
  | (g, x) :: r => if g = f then (g, d) :: r else (g, x) :: putFD f d r
theorem RepF.put {fs : List (Str × DV)} {xs : List (Str × V)} (r : RepF K ρ B H fs xs) (f : Str) {d : DV} {v : V} (rd : RepV K ρ B H d v) : RepF K ρ B H (putFD f d fs) (putF f v xs) := by
  induction r with
  | nil => exact .cons ⟨rfl, rd⟩ .nil
  | @cons p q _ _ h t ih =>
    obtain ⟨p1, p2⟩ := p
    obtain ⟨q1, q2⟩ := q
    obtain ⟨h1, h2⟩ := h
    have h1 : p1 = q1 := h1
    subst h1
    unfold putFD putF
    by_cases e : p1 = f
    · rw [if_pos e, if_pos e]; exact .cons ⟨rfl, rd⟩ t
    · rw [if_neg e, if_neg e]; exact .cons ⟨rfl, h2⟩ ih
theorem RepF.len {fs : List (Str × DV)} {xs : List (Str × V)} (r : RepF K ρ B H fs xs) : fs.length = xs.length := Paired.length r
theorem RepF.gs {ρ' : List Addr} {B' : Addr → Prop} {H' : Hp} {fs : List (Str × DV)} {xs : List (Str × V)} (g : Gs K ρ B H ρ' B' H') (r : RepF K ρ B H fs xs) : RepF K ρ' B' H' fs xs := L2.Paired.mapP r fun _ _ h => ⟨h.1, RepV.gs g _ _ h.2⟩
theorem ORep.ins {a : Addr} {c : Str} {fs : List (Str × DV)} (h : ORep K ρ B H a (.ins c fs)) : ∃ C dx xs, ClsN K c C ∧ H a = some (.ins C dx xs) ∧ RepF K ρ B H fs xs := by
  obtain ⟨C, dx, xs, nc, e, ek, rl⟩ := h
  exact ⟨C, dx, xs, nc, e, repF_of ek rl⟩
theorem RepF.orep {a C dx : Addr} {c : Str} {fs : List (Str × DV)} {xs : List (Str × V)} (nc : ClsN K c C) (r : RepF K ρ B H fs xs) (e : H a = some (.ins C dx xs)) : ORep K ρ B H a (.ins c fs) := ⟨C, dx, xs, nc, e, r.to.1, r.to.2⟩
theorem wset_ins {n : Nat} {a C dx : Addr} {c : Str} {xs xs' : List (Str × V)} {fs' : List (Str × DV)} (W : WOk K ρ B hp H) (i : ρ[n]? = some a) (nc : ClsN K c C) (e : H a = some (.ins C dx xs)) (r : RepF K ρ B H fs' xs') : Gr K ρ B H ρ B (upd H a (.ins C dx xs')) ∧ WOk K ρ B (hp.set n (.ins c fs')) (upd H a (.ins C dx xs')) := by
  have g : Gr K ρ B H ρ B (upd H a (.ins C dx xs')) := Gr.wset i e
  exact ⟨g, W.wset (o' := .ins C dx xs') (v := .ins c fs') i e ((r.gs (g.gs W.rb)).orep nc upd_same)⟩
end
def onI {α : Type} (c : Str) (x : DV) (k : Nat → List (Str × DV) → M α) : M α := match x with
  | .ref n => do
    match ← getW n with
    | .ins c' fs => do guardM (decide (c' = c)); k n fs
    | _ => failure
  | _ => failure
theorem onI_some {α : Type} {c : Str} {x : DV} {d : α} {k : Nat → List (Str × DV) → M α} {hp hp' : Hs} (h : onI c x k hp = some (d, hp')) : ∃ n fs, x = .ref n ∧ hp[n]? = some (.ins c fs) ∧ k n fs hp = some (d, hp') := by
  cases x with
  | ref n =>
    obtain ⟨o, hp1, e1, e2⟩ := bind_some (show (getW n >>= fun o => (match o with | .ins c' fs => do guardM (decide (c' = c)); k n fs | _ => failure : M α)) hp = some (d, hp') from h)
    obtain ⟨e3, rfl⟩ := getW_some e1
    cases o with
    | ins c' fs =>
      obtain ⟨_, hp2, e4, e5⟩ := bind_some e2
      obtain ⟨hl, rfl⟩ := guardM_some e4
      obtain rfl := of_decide_eq_true hl
      exact ⟨n, fs, rfl, e3, e5⟩
    | lst _ => cases e2
    | dic _ => cases e2
  | non => cases h
  | bl _ => cases h
  | int _ => cases h
  | str _ => cases h
  | tup _ => cases h
  | lst _ => cases h
def getF (c f : Str) (x : DV) : M DV := onI c x fun _ fs => optM (fs.lookup f)
def setF (c f : Str) (x d : DV) : M Unit := onI c x fun n fs => do guardM (decide (fs.length < 1000)); setW n (.ins c (putFD f d fs))
def eFld (c f : Str) (g : DEx) : DEx := fun env => do let x ← g env; getF c f x
def sFldD (c f : Str) (fo fv : DEx) : DSx := fun env => do let y ← fv env; let x ← fo env; setF c f x y; pure (.nx, env)
def sFldA (c f : Str) (op : DV → DV → M DV) (fo fv : DEx) : DSx := fun env => do let x ← fo env; let v ← getF c f x; let y ← fv env; let z ← op v y; setF c f x z; pure (.nx, env)
def addI : DV → DV → M DV
  | .int i, .int j => pure (.int (i + j))
  | _, _ => failure
def subI : DV → DV → M DV
  | .int i, .int j => pure (.int (i - j))
  | _, _ => failure
def eMeth (c m : Str) (n : Nat) (F : List DV → M DV) (fo : DEx) (fa : DAx) : DEx := fun env => do
  let x ← fo env
  onI c x fun _ fs => guardM (fs.lookup m).isNone
  let ds ← fa env
  guardM (decide (ds.length + 1 = n))
  F (x :: ds)
def eMake (c : Str) (n : Nat) (F : List DV → M DV) (fa : DAx) : DEx := fun env => do
  let ds ← fa env
  guardM (decide (ds.length + 1 = n))
  let x ← allocW (.ins c [])
  let r ← F (x :: ds)
  match r with
  | .non => pure x
  | _ => failure
section
variable {X : Cx} {o e value : Expr} {c f m : Str} {pos pos' tpos apos : Pos} {fo fv : DEx}
theorem getF_rep {K : PySem.W.Frag} {ρ : List Addr} {B : Addr → Prop} {H : Hp} {hp hp' : Hs} {x d : DV} {v : V} (W : WOk K ρ B hp H) (r : RepV K ρ B H x v) (h : getF c f x hp = some (d, hp')) : hp = hp' ∧ ∃ a C dx xs u, v = .ref a ∧ ClsN K c C ∧ H a = some (.ins C dx xs) ∧ xs.lookup f = some u ∧ RepV K ρ B H d u := by
  obtain ⟨n, fs, rfl, e1, e2⟩ := onI_some h
  obtain ⟨hl, rfl⟩ := optM_some e2
  obtain ⟨a, rfl, i, ro⟩ := RepV.refW W r e1
  obtain ⟨C, dx, xs, nc, e, rf⟩ := ro.ins
  rcases rf.look f with ⟨z, _⟩ | ⟨d', u, z, zu, ru⟩
  · rw [hl] at z; cases z
  · rw [hl] at z; cases z
    exact ⟨rfl, a, C, dx, xs, u, rfl, nc, e, zu, ru⟩
theorem setF_rep {K : PySem.W.Frag} {ρ : List Addr} {B : Addr → Prop} {H : Hp} {hp hp' : Hs} {x d : DV} {v y : V} {z : Unit} (W : WOk K ρ B hp H) (r : RepV K ρ B H x v) (rd : RepV K ρ B H d y) (h : setF c f x d hp = some (z, hp')) : ∃ a C dx xs, v = .ref a ∧ ClsN K c C ∧ H a = some (.ins C dx xs) ∧ xs.length < 1000 ∧ Gr K ρ B H ρ B (upd H a (.ins C dx (putF f y xs))) ∧ WOk K ρ B hp' (upd H a (.ins C dx (putF f y xs))) := by
  obtain ⟨n, fs, rfl, e1, e2⟩ := onI_some h
  obtain ⟨_, hp1, e3, e4⟩ := bind_some e2
  obtain ⟨hl, rfl⟩ := guardM_some e3
  cases e4
  obtain ⟨a, rfl, i, ro⟩ := RepV.refW W r e1
  obtain ⟨C, dx, xs, nc, e, rf⟩ := ro.ins
  obtain ⟨g, W'⟩ := wset_ins W i nc e (rf.put f rd)
  exact ⟨a, C, dx, xs, rfl, nc, e, by rw [← rf.len]; exact of_decide_eq_true hl, g, W'⟩
theorem de_fld (hk : FldK X.K c f) (ho : DE X o fo) (hb : attributeBase o f X.env (eval o X.env) = eval o X.env := by rfl) : DE X (.Attribute o f pos) (eFld c f fo) :=
  L2.PE.imp (pe_fld ho hb) fun σ H Q ⟨Z, env, ρ, B, hp, d, hp', S, e, k⟩ => by
    obtain ⟨x, hp1, e1, e2⟩ := bind_some e
    refine tD.run S e1 fun v ρ1 B1 H1 g1 S1 r1 => ?_
    obtain ⟨rfl, a, C, dx, xs, u, rfl, nc, ea, hl, ru⟩ := getF_rep S1.wo r1 e2
    obtain ⟨C', nc', cl, na⟩ := hk.ex
    obtain rfl := nc.uniq nc'
    exact ⟨a, C, dx, xs, u, rfl, ea, cl, na, hl, k u ρ1 B1 H1 g1 S1.wo ru⟩
theorem ds_fld (hk : FldK X.K c f) (ho : DE X o fo) (hv : DE X value fv) (hs : swapsWith value (some (.Attribute o f pos')) pos.line X.env = pure false := by rfl) : DS X (.Assign [.Attribute o f pos'] value pos) (sFldD c f fo fv) :=
  L2.PS.imp (ps_fld ho hv hs) fun D σ H ⟨Z, env, ρ, B, hp, fl, env', hp', S, e, k⟩ => by
    obtain ⟨y, hp1, e1, e⟩ := bind_some e
    obtain ⟨x, hp2, e2, e⟩ := bind_some e
    obtain ⟨z, hp3, e3, e⟩ := bind_some e
    obtain ⟨q, rfl⟩ := pure_some e
    cases q
    refine tD.run S e1 fun u ρ1 B1 H1 g1 S1 r1 => tD.run S1 e2 fun v ρ2 B2 H2 g2 S2 r2 => ?_
    obtain ⟨a, C, dx, xs, rfl, nc, ea, hl, g, W⟩ := setF_rep S2.wo r2 (RepV.grow S1.wo.rb g2 _ _ r1) e3
    obtain ⟨C', nc', cl, na⟩ := hk.ex
    obtain rfl := nc.uniq nc'
    exact ⟨a, C, dx, xs, rfl, ea, cl, na, hl, k σ ρ2 B2 _ ((g1.trans (g2.trans g)).gs S.wo.rb) (S2.grow g W)⟩
theorem ds_fldadd (hk : FldK X.K c f) (ho : DE X o fo) (hv : DE X value fv) : DS X (.AugAssign (.Attribute o f tpos) .Add value pos) (sFldA c f addI fo fv) :=
  L2.PS.imp (ps_fldaug ho hv in_add) fun D σ H ⟨Z, env, ρ, B, hp, fl, env', hp', S, e, k⟩ => by
    obtain ⟨x, hp1, e1, e⟩ := bind_some e
    obtain ⟨v, hp2, e2, e⟩ := bind_some e
    obtain ⟨y, hp3, e3, e⟩ := bind_some e
    obtain ⟨z, hp4, e4, e⟩ := bind_some e
    obtain ⟨_, hp5, e5, e⟩ := bind_some e
    obtain ⟨q, rfl⟩ := pure_some e
    cases q
    refine tD.run S e1 fun vx ρ1 B1 H1 g1 S1 r1 => ?_
    obtain ⟨rfl, a, C, dx, xs, u, rfl, nc, ea, hl, ru⟩ := getF_rep S1.wo r1 e2
    obtain ⟨C', nc', cl, na⟩ := hk.ex
    obtain rfl := nc.uniq nc'
    refine ⟨a, C, dx, xs, u, rfl, ea, cl, na, hl, tD.run S1 e3 fun w ρ2 B2 H2 g2 S2 r2 => ?_⟩
    have ru2 := RepV.grow S1.wo.rb g2 _ _ ru
    have r12 := RepV.grow S1.wo.rb g2 _ _ r1
    unfold addI at e4
    split at e4
    · obtain ⟨rfl, rfl⟩ := pure_some e4
      refine ⟨_, _, ru2.intI, r2.intI, ?_⟩
      obtain ⟨a', C2, dx', xs', q1, nc2, ea', hl', g, W⟩ := setF_rep S2.wo r12 rep_int e5
      cases q1
      obtain rfl := nc2.uniq nc
      exact ⟨dx', xs', ea', hl', k σ ρ2 B2 _ ((g1.trans (g2.trans g)).gs S.wo.rb) (S2.grow g W)⟩
    · cases e4
theorem meth_imp {C : Addr} {n : Nat} {F : List DV → M DV} {fa : DAx} {σ : St} {H : Hp} {Q : VK} (nc : ClsN X.K c C) (h : tD X.K (eMeth c m n F fo fa) σ H Q) : tMeth C m (spD X.K n F) [] E0 (tD X.K fo) (tDA X.K fa) σ H Q := by
  obtain ⟨Z, env, ρ, B, hp, d, hp', S, e, k⟩ := h
  obtain ⟨x, hp1, e1, e⟩ := bind_some e
  obtain ⟨_, hp2, e2, e⟩ := bind_some e
  obtain ⟨ds, hp3, e3, e⟩ := bind_some e
  obtain ⟨_, hp4, e4, ef⟩ := bind_some e
  obtain ⟨hl, rfl⟩ := guardM_some e4
  refine tD.run S e1 fun v ρ1 B1 H1 g1 S1 r1 => ?_
  obtain ⟨i, fs, rfl, w1, w2⟩ := onI_some e2
  obtain ⟨hn, rfl⟩ := guardM_some w2
  obtain ⟨a, rfl, _, ro⟩ := RepV.refW S1.wo r1 w1
  obtain ⟨C', dx, xs, nc', ea, rf⟩ := ro.ins
  obtain rfl := nc'.uniq nc
  have hx : xs.lookup m = none := by
    rcases rf.look m with ⟨_, z⟩ | ⟨_, _, z, _, _⟩
    · exact z
    · rw [z] at hn; cases hn
  refine ⟨a, dx, xs, rfl, ea, hx, tDA.run S1 e3 fun vs ρ2 B2 H2 g2 S2 r2 => ?_⟩
  refine ⟨?_, ρ2, B2, hp3, _, d, hp', S2.wo, ?_, ef, k.after (g1.trans g2)⟩
  · rw [List.append_nil, List.length_cons, ← r2.length]; exact of_decide_eq_true hl
  · rw [List.append_nil]; exact RepL.cons (RepV.grow S1.wo.rb g2 _ _ r1) r2
theorem de_meth {k j n : Nat} {F : List DV → M DV} {es : List Expr} {fa : DAx} {pl : Sem Bool} (h : HasM X.prog X.w X.K X.mg X.base c m j n F) (hr : Room k X.A) (hj : j ≤ k) (hx : Passes CX0 X E0) (ho : DE X o fo) (ha : DA X (e :: es) fa)
    (hst : starEach (e :: es) X.env = (false, eval e X.env) :: starEach es X.env := by rfl) (hpl : (backTo pos (starEach es X.env)).any (·.1) = false := by rfl)
    (ht : eval (.Call (.Attribute o m apos) (e :: es) [] pos) X.env = (do
      let ov ← eval o X.env
      standAt apos.atName
      let (f, first) ← holding [ov] (getMethod ov m pl)
      callWith pos f first (backTo pos (starEach (e :: es) X.env)) (backToKw pos (keywordEach [] X.env))) := by rfl) : DE X (.Call (.Attribute o m apos) (e :: es) [] pos) (eMeth c m n F fo fa) := by
  obtain ⟨C, g, fd, ps, nc, cl, hm, F', hb⟩ := h.ex
  exact L2.PE.imp (pe_meth (pl := pl) ho cl hm F' (hr.mono hj) hb .nil hx ha hst hpl ht) fun σ H Q q => meth_imp nc q
theorem de_meth0 {k j n : Nat} {F : List DV → M DV} {pl : Sem Bool} (h : HasM X.prog X.w X.K X.mg X.base c m j n F) (hr : Room k X.A) (hj : j ≤ k) (hx : Passes CX0 X E0) (ho : DE X o fo)
    (ht : eval (.Call (.Attribute o m apos) [] [] pos) X.env = (do
      let ov ← eval o X.env
      standAt apos.atName
      let (f, first) ← holding [ov] (getMethod ov m pl)
      callWith pos f first (backTo pos (starEach [] X.env)) (backToKw pos (keywordEach [] X.env))) := by rfl) : DE X (.Call (.Attribute o m apos) [] [] pos) (eMeth c m n F fo aNil) := by
  obtain ⟨C, g, fd, ps, nc, cl, hm, F', hb⟩ := h.ex
  refine L2.PE.imp (pe_meth0 (pl := pl) ho cl hm F' (hr.mono hj) hb .nil hx ht) fun σ H Q q => ?_
  obtain ⟨Z, env, ρ, B, hp, d, hp', S, e, k⟩ := q
  obtain ⟨x, hp1, e1, e⟩ := bind_some e
  obtain ⟨_, hp2, e2, e⟩ := bind_some e
  obtain ⟨ds, hp3, e3, e⟩ := bind_some e
  obtain ⟨_, hp4, e4, ef⟩ := bind_some e
  obtain ⟨hl, rfl⟩ := guardM_some e4
  obtain ⟨rfl, rfl⟩ := pure_some e3
  refine tD.run S e1 fun v ρ1 B1 H1 g1 S1 r1 => ?_
  obtain ⟨i, fs, rfl, w1, w2⟩ := onI_some e2
  obtain ⟨hn, rfl⟩ := guardM_some w2
  obtain ⟨a, rfl, _, ro⟩ := RepV.refW S1.wo r1 w1
  obtain ⟨C', dx, xs, nc', ea, rf⟩ := ro.ins
  obtain rfl := nc'.uniq nc
  have hx : xs.lookup m = none := by
    rcases rf.look m with ⟨_, z⟩ | ⟨_, _, z, _, _⟩
    · exact z
    · rw [z] at hn; cases hn
  exact ⟨a, dx, xs, rfl, ea, hx, of_decide_eq_true hl, ρ1, B1, hp1, _, d, hp', S1.wo, RepL.cons r1 RepL.nil, ef, k.after g1⟩
theorem run_makeK {k : Nat} {C g : Addr} {fd : FuncData} {ps : List Str} {sp : Sp} {pins : List (Addr × Obj)} {σ : St} {H : Hp} {s : Shared} {Q : VK} {us : List Value} {vs : List V} (M : Mk X.K C g) (F : FnOk X.prog X.w X.K X.mg X.base CX0 k g fd ps sp) (hr : Room (k + 1) X.A) (hb : Binds X.K fd ps [])
    (hx : Passes CX0 X E0) (I : Inv X pins σ H s) (r : Vals vs us)
    (h : ∀ x dx, H x = none → H dx = none → dx ≠ x → X.K.lookup x = none → sp (.ref x :: vs) (upd (upd H dx (.own x)) x (.ins C dx [])) (fun v H2 => v = .non ∧ Q (.ref x) H2) E0) :
    wpAny (model X.prog X.w) X.A (call (.ref C) us) (EP X pins σ Q) X.xe s := by
  have kf : X.K.lookup (s.heap.objs.size + 1) = none := by
    cases q : X.K.lookup (s.heap.objs.size + 1) with
    | none => rfl
    | some o => exact absurd (Heap.lt_size (I.kIn _ _ q)) (Nat.not_lt.mpr (Nat.le_succ _))
  have hq := h _ _ (I.hok.fresh (Nat.le_succ _)) (I.hok.fresh (Nat.le_refl _)) (Nat.ne_of_lt (Nat.lt_succ_self _)) kf
  have J := Inv.made (C := C) I
  have rr : Vals (V.ref (s.heap.objs.size + 1) :: vs) (Value.ref (s.heap.objs.size + 1) :: us) := .cons rfl r
  have ll : ((Value.ref (s.heap.objs.size + 1) :: us) ++ []).length = ps.length := by
    rw [List.append_nil, ← rr.length]; exact F.len _ _ _ _ hq
  have bb := hb _ (Value.ref (s.heap.objs.size + 1) :: us) J.kIn ll
  rw [List.append_nil] at bb
  refine wpAny_call (make_map (f := g) I.kIn M.makes M.init (beq_iff_eq.mp M.fn) (codeAny_mono (F.run _ X.stack _ _ ⟨Value.ref (s.heap.objs.size + 1) :: us, []⟩ _ _ _ E0 (hr.make C us []) (J.env0.make C us []) bb rr hq) fun q s' z => ?_))
  cases q with
  | error e => exact hx pins σ _ _ e s' J z
  | ok fl =>
    cases fl with
    | ret u =>
      obtain ⟨v, H', I3, rv, ev, q3⟩ := J.after z
      subst ev
      exact ⟨rv, ⟨V.ref (s.heap.objs.size + 1), H', I3, rfl, q3⟩⟩
    | next => exact z.elim
    | brk => exact z.elim
    | cont => exact z.elim
theorem make_imp {C : Addr} {n : Nat} {F : List DV → M DV} {vs : List V} {K : PySem.W.Frag} {ρ : List Addr} {B : Addr → Prop} {hp hp' : Hs} {H : Hp} {ds : List DV} {d : DV} {Q : VK} (nc : ClsN K c C) (hl : ds.length + 1 = n) (W : WOk K ρ B hp H) (r : RepL K ρ B H ds vs)
    (e : (do let x ← allocW (.ins c []); let r ← F (x :: ds); match r with | .non => pure x | _ => failure : M DV) hp = some (d, hp')) (k : Fol K ρ B H d hp' Q) :
    ∀ x dx, H x = none → H dx = none → dx ≠ x → K.lookup x = none → spD K n F (.ref x :: vs) (upd (upd H dx (.own x)) x (.ins C dx [])) (fun v H2 => v = .non ∧ Q (.ref x) H2) E0 := by
  intro x dx hx hdx ne kf
  have e1 : F (.ref hp.length :: ds) (hp ++ [.ins c []]) = some (.non, hp') ∧ d = .ref hp.length := by
    obtain ⟨y, hp1, a1, a2⟩ := bind_some e
    cases a1
    obtain ⟨y, hp2, a3, a4⟩ := bind_some a2
    cases y with
    | non => obtain ⟨rfl, rfl⟩ := pure_some a4; exact ⟨a3, rfl⟩
    | bl _ => cases a4
    | int _ => cases a4
    | str _ => cases a4
    | tup _ => cases a4
    | lst _ => cases a4
    | ref _ => cases a4
  obtain ⟨e1, rfl⟩ := e1
  have hx' : upd H dx (.own x) x = none := by rw [upd_ne (Ne.symm ne)]; exact hx
  have g0 : Gr K ρ B H ρ B (upd H dx (.own x)) := Gr.laid hdx
  have g1 : Gr K ρ B (upd H dx (.own x)) (ρ ++ [x]) (banP B x) (upd (upd H dx (.own x)) x (.ins C dx [])) := Gr.wnew hx' kf
  have W1 : WOk K (ρ ++ [x]) (banP B x) (hp ++ [.ins c []]) (upd (upd H dx (.own x)) x (.ins C dx [])) := (W.laid hdx).wnew hx' kf (RepF.orep nc .nil upd_same)
  have rx : RepV K (ρ ++ [x]) (banP B x) (upd (upd H dx (.own x)) x (.ins C dx [])) (.ref hp.length) (.ref x) := by
    unfold RepV
    exact ⟨x, rfl, by rw [← W.len]; simp⟩
  refine ⟨?_, ρ ++ [x], banP B x, hp ++ [.ins c []], .ref hp.length :: ds, .non, hp', W1, RepL.cons rx (RepL.grow W.rb (g0.trans g1) _ _ r), e1, fun v ρ' B' H' g' W' r' => ?_⟩
  · rw [List.length_cons, ← r.length]; exact hl
  · exact ⟨r'.nonI, k _ ρ' B' H' ((g0.trans g1).trans g') W' (RepV.grow W1.rb g' _ _ rx)⟩
theorem de_make {k j n : Nat} {F : List DV → M DV} {es : List Expr} {fa : DAx} {p : Pos} (h : HasI X.prog X.w X.K X.mg X.base c j n F) (hr : Room k X.A) (hj : j + 1 ≤ k) (hx : Passes CX0 X E0) (ha : DA X (e :: es) fa) (hg : Gl X c := by rfl)
    (hdb : (c == ("__debug__" : Str)) = false := by decide) (he : starEach (e :: es) X.env = (false, eval e X.env) :: starEach es X.env := by rfl) (hpl : (backTo pos (starEach es X.env)).any (·.1) = false := by rfl) : DE X (.Call (.Name c p) (e :: es) [] pos) (eMake c n F fa) := by
  obtain ⟨C, g, fd, ps, nc, hm, M, F', hb⟩ := h.ex
  intro pins s σ H Q I q
  obtain ⟨Z, env, ρ, B, hp, d, hp', S, e, k⟩ := q
  obtain ⟨ds, hp1, e1, e2⟩ := bind_some e
  obtain ⟨_, hp2, e3, e4⟩ := bind_some e2
  obtain ⟨hl, rfl⟩ := guardM_some e3
  refine wpAny_Call_Name_kw (ld_glob I hg hm ?_ hdb)
  refine PySem.W.callWith_K (h₀ := X.base) I.ok.mod.kin M.kp (thn (ha pos pins s σ H _ I (tDA.run S e1 fun vs ρ1 B1 H1 g1 S1 r1 => make_imp (Q := Q) nc (of_decide_eq_true hl) S1.wo r1 e4 (k.after g1))) fun us s1 ⟨vs, H1, I1, r, q⟩ => ⟨I1.kIn, ?_⟩) he hpl
  exact run_makeK M F' (hr.mono hj) hb hx I1 r q
end
theorem fn_okM {P : Program} {w : World} {K : PySem.W.Frag} {mg : Str → Option Value} {base : Heap} {x qual : Str} {stm : Stmt} {g : Addr} {fd : FuncData} {N ps : List Str} {k : Nat} {body : DSx} (F : Fun K x qual stm g fd) (Sc : FnScope N ps (defScope stm))
    (h : ∀ (cdv : Value) (A : Around) (outer : List Env) (s : Shared) (H : Hp) (E : XK), Room k (A.deeper (envOfC qual (defScope stm) s.heap.objs.size g cdv)) → DSs (cxOf CX0 P w K mg base N qual (defScope stm) g cdv A outer s H E).nox (defBody stm) body) :
    FnOk P w K mg base CX0 (k + 1) g fd ps (spD K ps.length (runF N.length body)) := by
  refine F.ok Sc (fun vs H Q E h => h.1) (fun cdv A outer s H vs Q E hr sp => ?_)
  obtain ⟨hn, ρ, B, hp, ds, d, hp', W, r, e, k⟩ := sp
  obtain ⟨⟨fl, env'⟩, hp1, e1, e2⟩ := bind_some e
  refine ⟨_, h cdv A outer s H E hr, ⟨ρ, B, H⟩, _, ρ, B, hp, fl, env', hp1, sOk_start W r, e1, fun σ' ρ' B' H' g' S' => ?_⟩
  cases fl with
  | nx => obtain ⟨rfl, rfl⟩ := pure_some e2; exact k .non ρ' B' H' S'.gr S'.wo rep_non
  | rt x => obtain ⟨rfl, rfl⟩ := pure_some e2; exact fun v rv => k v ρ' B' H' S'.gr S'.wo rv
  | bk => cases e2
  | ct => cases e2
theorem meth_has {P : Program} {w : World} {K : PySem.W.Frag} {mg : Str → Option Value} {base : Heap} {c m qual : Str} {stm : Stmt} {C g : Addr} {fd : FuncData} {N ps : List Str} {k : Nat} {body : DSx} (nc : ClsN K c C) (cl : Cls K C) (me : Meth K C m g) (F : Fun K m qual stm g fd) (Sc : FnScope N ps (defScope stm))
    (hb : ∀ (kV doc pm : Value) (an : Option Addr) (cdv ct : Value) (us : List Value), us.length = ps.length → bindArgs (PySem.W.fnOf m qual (defArgs stm) (defBody stm) (defScope stm) .none kV doc pm an cdv ct) ⟨us, []⟩ = pure (ps.zip us))
    (h : ∀ (cdv : Value) (A : Around) (outer : List Env) (s : Shared) (H : Hp) (E : XK), Room k (A.deeper (envOfC qual (defScope stm) s.heap.objs.size g cdv)) → DSs (cxOf CX0 P w K mg base N qual (defScope stm) g cdv A outer s H E).nox (defBody stm) body) :
    HasM P w K mg base c m (k + 1) ps.length (runF N.length body) := ⟨C, g, fd, ps, nc, cl, me, fn_okM F Sc h, F.binds hb⟩
theorem init_has {P : Program} {w : World} {K : PySem.W.Frag} {mg : Str → Option Value} {base : Heap} {c qual : Str} {stm : Stmt} {C g : Addr} {fd : FuncData} {N ps : List Str} {k : Nat} {body : DSx} (nc : ClsN K c C) (hm : mg c = some (.ref C)) (me : Mk K C g) (F : Fun K "__init__" qual stm g fd) (Sc : FnScope N ps (defScope stm))
    (hb : ∀ (kV doc pm : Value) (an : Option Addr) (cdv ct : Value) (us : List Value), us.length = ps.length → bindArgs (PySem.W.fnOf "__init__" qual (defArgs stm) (defBody stm) (defScope stm) .none kV doc pm an cdv ct) ⟨us, []⟩ = pure (ps.zip us))
    (h : ∀ (cdv : Value) (A : Around) (outer : List Env) (s : Shared) (H : Hp) (E : XK), Room k (A.deeper (envOfC qual (defScope stm) s.heap.objs.size g cdv)) → DSs (cxOf CX0 P w K mg base N qual (defScope stm) g cdv A outer s H E).nox (defBody stm) body) :
    HasI P w K mg base c (k + 1) ps.length (runF N.length body) := ⟨C, g, fd, ps, nc, hm, me, fn_okM F Sc h, F.binds hb⟩
section
variable {X : Cx}
def sFail : DSx := fun _ => failure
theorem ds_fail {st : Stmt} : DS X st sFail := L2.PS.imp ps_never fun D σ H ⟨Z, env, ρ, B, hp, fl, env', hp', S, e, k⟩ => by cases e
def sAug (i : Nat) (op : DV → DV → M DV) (fe : DEx) : DSx := fun env => do let v ← eVar i env; let y ← fe env; let z ← op v y; pure (.nx, env.set i (.val z))
theorem aug_imp {i : Nat} {op : DV → DV → M DV} {g : Int → Int → Int} {fe : DEx} {D : Ends} {σ : St} {H : Hp} (ho : ∀ v y z hp hp', op v y hp = some (z, hp') → ∃ a b, v = .int a ∧ y = .int b ∧ z = .int (g a b) ∧ hp = hp') (h : tDS X.K (sAug i op fe) D σ H) : tAug i (tD X.K fe) (ipI g) D σ H := by
  obtain ⟨Z, env, ρ, B, hp, fl, env', hp', S, e, k⟩ := h
  obtain ⟨v, hp1, e1, e⟩ := bind_some e
  obtain ⟨y, hp2, e2, e⟩ := bind_some e
  obtain ⟨z, hp3, e3, e⟩ := bind_some e
  obtain ⟨q, rfl⟩ := pure_some e
  cases q
  obtain ⟨a, b, rfl, rfl, rfl, rfl⟩ := ho _ _ _ _ _ e3
  have hv : env[i]? = some (.val (.int a)) ∧ hp = hp1 := by
    unfold eVar at e1
    cases q : env[i]? with
    | none => rw [q] at e1; cases e1
    | some sl =>
      rw [q] at e1
      cases sl with
      | val d => obtain ⟨h1, h2⟩ := pure_some e1; exact ⟨by rw [h1], h2⟩
      | un => cases e1
      | acc _ => cases e1
  obtain ⟨hv, rfl⟩ := hv
  obtain ⟨x, hx, rx⟩ := S.slot i _ hv
  refine ⟨x, hx, tD.run S e2 fun w ρ1 B1 H1 g1 S1 r1 => ⟨a, b, rx.intI, r1.intI, k _ ρ1 B1 H1 (g1.gs S.wo.rb) (S1.set rep_int)⟩⟩
theorem addI_some {v y z : DV} {hp hp' : Hs} (h : addI v y hp = some (z, hp')) : ∃ a b, v = .int a ∧ y = .int b ∧ z = .int (a + b) ∧ hp = hp' := by
  unfold addI at h
  split at h
  · obtain ⟨rfl, rfl⟩ := pure_some h; exact ⟨_, _, rfl, rfl, rfl, rfl⟩
  · cases h
theorem ds_augadd (i : Nat) {x : Str} {e : Expr} {fe : DEx} {pos pos' : Pos} (hN : X.N.Nodup) (he : DE X e fe) (hi : X.N[i]? = some x := by rfl) (hx : Loc X.env.scope x := by first | exact Or.inl rfl | exact Or.inr rfl) (hf : X.fn x = true ∨ X.env.scope.names.lookup x = some .local := by first | exact .inl rfl | exact .inr rfl | assumption) : DS X (.AugAssign (.Name x pos') .Add e pos) (sAug i addI fe) :=
  L2.PS.imp (ps_aug hN hi hx he ip_add hf) fun D σ H q => aug_imp (fun _ _ _ _ _ h => addI_some h) q
end
end D
namespace D
open PySem PySem.Spec PyProof.Rows L2
theorem run_bind {α β : Type} (m : M α) (k : α → M β) (hp : Hs) : (m >>= k) hp = (m hp).bind fun p => k p.1 p.2 := by
  show (StateT.bind m k hp) = _
  unfold StateT.bind
  cases m hp with
  | none => rfl
  | some p => obtain ⟨a, h⟩ := p; rfl
theorem run_map {α β : Type} (f : α → β) (m : M α) (hp : Hs) : (f <$> m) hp = (m hp).map fun p => (f p.1, p.2) := by
  show (StateT.map f m hp) = _
  unfold StateT.map
  cases m hp with
  | none => rfl
  | some p => obtain ⟨a, h⟩ := p; rfl
theorem run_pure {α : Type} (a : α) (hp : Hs) : (pure a : M α) hp = some (a, hp) := rfl
theorem run_fail {α : Type} (hp : Hs) : (failure : M α) hp = none := rfl
theorem run_guard (b : Bool) (hp : Hs) : guardM b hp = if b = true then some ((), hp) else none := by cases b <;> rfl
theorem run_get (n : Nat) (hp : Hs) : getW n hp = (hp[n]?).map fun o => (o, hp) := by unfold getW; cases hp[n]? <;> rfl
theorem run_set (n : Nat) (o : OV) (hp : Hs) : setW n o hp = some ((), hp.set n o) := rfl
theorem run_new (o : OV) (hp : Hs) : allocW o hp = some (.ref hp.length, hp ++ [o]) := rfl
theorem getSet_self (hp : Hs) (k : Nat) (X : OV) (h : (hp[k]?).isSome = true) : (hp.set k X)[k]? = some X := by
  have : k < hp.length := by
    rcases Nat.lt_or_ge k hp.length with q | q
    · exact q
    · rw [List.getElem?_eq_none q] at h; cases h
  rw [List.getElem?_set_self this]
theorem getSet_ne (hp : Hs) (k n : Nat) (X : OV) (h : k ≠ n) : (hp.set k X)[n]? = hp[n]? := List.getElem?_set_ne h
theorem getApp_new (hp : Hs) (X : OV) : (hp ++ [X])[hp.length]? = some X := by simp
end D
namespace D
open PySem PySem.Spec PyProof.Rows L2
mutual
def KRep (K : PySem.W.Frag) : DV → V → Prop
  | .non, v => v = .non
  | .bl b, v => v = .bl b
  | .int i, v => v = .int i
  | .str x, v => v = .str x
  | .tup ds, v => ∃ (a : Addr) (o : Obj) (its : Array Value) (n : Nat) (xs : List V), v = .ref a ∧ K.lookup a = some o ∧ o.cls = .type "tuple" ∧ o.data = .seq its n ∧ its.size ≤ sizeLine ∧ Vals xs its.toList ∧ KRepL K ds xs
  | _, _ => False
def KRepL (K : PySem.W.Frag) : List DV → List V → Prop
  | [], xs => xs = []
  | d :: ds, xs => ∃ x r, xs = x :: r ∧ KRep K d x ∧ KRepL K ds r
end
mutual
theorem KRep.rep {K : PySem.W.Frag} {ρ : List Addr} {B : Addr → Prop} {H : Hp} (hb : ∀ a, B a → K.lookup a = none) : ∀ (d : DV) (v : V), KRep K d v → RepV K ρ B H d v
  | .non, _, h => by unfold KRep at h; unfold RepV; exact h
  | .bl _, _, h => by unfold KRep at h; unfold RepV; exact h
  | .int _, _, h => by unfold KRep at h; unfold RepV; exact h
  | .str _, _, h => by unfold KRep at h; unfold RepV; exact h
  | .lst _, _, h => by unfold KRep at h; exact h.elim
  | .ref _, _, h => by unfold KRep at h; exact h.elim
  | .tup ds, _, h => by
    unfold KRep at h; unfold RepV
    obtain ⟨a, o, its, n, xs, rfl, h1, h2, h3, h4, h5, h6⟩ := h
    exact ⟨a, xs, rfl, fun z => (by rw [hb a z] at h1; cases h1), .inr ⟨o, its, n, h1, h2, h3, h4, h5⟩, KRepL.rep hb ds xs h6⟩
theorem KRepL.rep {K : PySem.W.Frag} {ρ : List Addr} {B : Addr → Prop} {H : Hp} (hb : ∀ a, B a → K.lookup a = none) : ∀ (ds : List DV) (xs : List V), KRepL K ds xs → RepL K ρ B H ds xs
  | [], _, h => by unfold KRepL at h; unfold RepL; exact h
  | d :: ds, _, h => by
    unfold KRepL at h; unfold RepL
    obtain ⟨x, r, e, h1, h2⟩ := h
    exact ⟨x, r, e, KRep.rep hb d x h1, KRepL.rep hb ds r h2⟩
end
theorem kr_tup {K : PySem.W.Frag} {ds : List DV} {a : Addr} {od : Option Addr} {its : Array Value} {n : Nat} {sl : Array (Option Value)} {xs : List V} (h : K.lookup a = some ⟨.type "tuple", od, .seq its n, sl⟩) (hs : its.size ≤ sizeLine) (hv : Vals xs its.toList) (hl : KRepL K ds xs) : KRep K (.tup ds) (.ref a) := by
  unfold KRep; exact ⟨a, _, its, n, xs, rfl, h, rfl, rfl, hs, hv, hl⟩
theorem kr_non {K : PySem.W.Frag} : KRep K .non .non := by unfold KRep; rfl
theorem kr_int {K : PySem.W.Frag} {i : Int} : KRep K (.int i) (.int i) := by unfold KRep; rfl
theorem krl_nil {K : PySem.W.Frag} : KRepL K [] [] := by unfold KRepL; rfl
theorem krl_cons {K : PySem.W.Frag} {d : DV} {ds : List DV} {x : V} {r : List V} (h : KRep K d x) (h' : KRepL K ds r) : KRepL K (d :: ds) (x :: r) := by unfold KRepL; exact ⟨x, r, rfl, h, h'⟩
theorem de_gtup {X : Cx} {x : Str} {ds : List DV} {a : Addr} {pos : Pos} (hg : Gl X x) (hm : X.mg x = some (.ref a)) (hk : KRep X.K (.tup ds) (.ref a)) (hd : (x == ("__debug__" : Str)) = false := by decide) : DE X (.Name x pos) (eC (.tup ds)) :=
  (pe_glob (v := .ref a) hg hm rfl hd).imp fun σ H Q ⟨Z, env, ρ, B, hp, d', hp', S, e, k⟩ => by
    obtain ⟨rfl, rfl⟩ := pure_some e
    exact k _ ρ B H Gr.refl S.wo (KRep.rep S.wo.bk _ _ hk)
end D
namespace D
open PySem PySem.Spec PyProof.Rows L2
theorem getMid (hp : Hs) (x : OV) (t : Hs) : (hp ++ x :: t)[hp.length]? = some x := by simp
theorem setMid (hp : Hs) (x y : OV) (t : Hs) : (hp ++ x :: t).set hp.length y = hp ++ y :: t := by
  rw [List.set_append_right _ _ (Nat.le_refl _)]; simp
theorem small_nat {n : Nat} (h : n ≤ 1000000) : smallI (n : Int) = true := small_ok (by omega) (by omega)
theorem ixN_nat {n i : Nat} (h : i < n) : ixN n (i : Int) = some i := by unfold ixN; rw [if_pos (by omega), if_pos (by omega)]; simp
theorem sForX_data {f : DXx} {g : DGx} {body : DSx} {env : En} {hp hp1 : Hs} {ds : List DV} {r : (Fl × En) × Hs} (h : f env hp = some (nxD ds, hp1)) (h' : forX (nxD ds) (fun d env => do let env' ← g d env; body env') 100000 0 env hp1 = some r) : sForX f g body env hp = some r := by
  unfold sForX
  rw [bind_at h]; exact h'
theorem rng1_at {m : Nat} (h : m ≤ 1000000) (hp : Hs) : rng1 [.int (m : Int)] hp = some (rangeL 0 m, hp) := by
  have e : rng1 [.int (m : Int)] = pure (rangeL 0 (m : Int).toNat) := by
    simp only [rng1, small_nat h, guardM, if_true, pure_bind]
  rw [e, Int.toNat_natCast]; rfl
theorem iRg1_at {f : DAx} {env : En} {hp hp1 : Hs} {m : Nat} (h : f env hp = some ([.int (m : Int)], hp1)) (hm : m ≤ 1000000) : iRg1 f env hp = some (rangeL 0 m, hp1) := by
  unfold iRg1
  rw [bind_at h]; exact rng1_at hm hp1
theorem xLs_data {f : DEx} {env : En} {hp hp1 : Hs} {ds : List DV} (h : f env hp = some (.lst ds, hp1)) : xLs f env hp = some (nxD ds, hp1) := by
  unfold xLs
  rw [bind_at h]; rfl
end D
namespace D
open PySem PySem.Spec PyProof.Rows L2
section
variable {X : Cx}
end
end D
namespace L2
open PySem PySem.Spec PyProof.Rows
section
variable {prog : Program} {w : World} {A : Around} {E : Value → Shared → Prop} {s : Shared}
end
section
variable {X : Cx} {xn : Str} {p2 : Pos} {pins : List (Addr × Obj)} {σ : L2.St}
end
end L2
namespace D
open PySem PySem.Spec PyProof.Rows L2
section
variable {X : Cx} {xn : Str} {p2 : Pos} {f g : DEx}
end
end D
namespace TR
structure Pg where
  lv : Nat
  ks : List Int
  ps : List Int
  hi : Option Int
  sd : Option Nat
structure Sh where
  room : Nat
  pg : List Pg
  top : Nat
  rd : Int
  wr : Int
inductive Deed where
  | find (k : Int) | put (k w : Int) | cut (k : Int) | stretch (l h : Int)
def Deed.key : Deed → Int
  | .find k => k
  | .put k _ => k
  | .cut k => k
  | .stretch l _ => l
structure Wk where
  deed : Deed
  aim : Int
  goal : Nat
  place : Option Nat
  forks : List (Nat × Nat)
  newp : Option Nat
  worth : Option Int
  pairs : List (Int × Int)
  ended : Bool
inductive Row where
  | non
  | side (n t : Nat)
  | down (n t : Nat)
  | found (n : Nat) (w : Option Int)
  | put (n : Nat) (w : Option Int) (k : Option Nat)
  | cut (n : Nat) (w : Option Int)
  | read (n : Nat) (ps : List (Int × Int)) (t : Option (Nat × Int))
  | told (n : Nat) (k : Option Nat)
  | raised (n t : Nat)
def cLe (ks : List Int) (k : Int) : Nat := (ks.filter fun x => decide (x ≤ k)).length
def cLt (ks : List Int) (k : Int) : Nat := (ks.filter fun x => decide (x < k)).length
def getN (fs : List (Nat × Nat)) (k : Nat) : Option Nat := (fs.find? fun p => decide (p.1 = k)).map (·.2)
def without (p : Pg) (k : Int) : Pg := { p with ks := p.ks.take (cLt p.ks k) ++ p.ks.drop (cLe p.ks k), ps := p.ps.take (cLt p.ks k) ++ p.ps.drop (cLe p.ks k) }
end TR
namespace TR
abbrev Bg := Nat → Option Int
def leB (b : Option Int) (x : Int) : Prop := ∀ v, b = some v → v ≤ x
def leBB (b c : Option Int) : Prop := ∀ v, b = some v → ∃ u, c = some u ∧ v ≤ u
structure WOk (S : Sh) (bg : Bg) (w : Wk) : Prop where
  at_ : ∀ n : Nat, w.place = some n → ∃ p : Pg, S.pg[n]? = some p ∧ w.goal ≤ p.lv ∧ leB (bg n) w.aim
  none_ : w.place = none → ∀ l f, getN w.forks l = some f → l < w.goal
  kept : ∀ l f, getN w.forks l = some f → ∃ p : Pg, S.pg[f]? = some p ∧ p.lv = l
  above : ∀ (n : Nat) (p : Pg), w.place = some n → S.pg[n]? = some p → ∀ l f, getN w.forks l = some f → p.lv < l → leBB (bg f) (bg n)
  chain : ∀ l f l' f', getN w.forks l = some f → getN w.forks l' = some f' → w.goal ≤ l → l < l' → leBB (bg f') (bg f)
  gap : ∀ (n : Nat) (p : Pg), w.place = some n → S.pg[n]? = some p → w.goal < p.lv → ∀ l f, getN w.forks l = some f → l < w.goal ∨ p.lv < l
  full : ∀ (n : Nat) (p : Pg), w.place = some n → S.pg[n]? = some p → ∀ l' f', getN w.forks l' = some f' → ∀ l, p.lv < l → l ≤ l' → ∃ f, getN w.forks l = some f
  tell : 0 < w.goal → ∃ (k : Nat) (q : Pg), w.newp = some k ∧ S.pg[k]? = some q ∧ q.lv + 1 = w.goal ∧ bg k = some w.aim
end TR
namespace TR
section
variable {S : Sh} {bg : Bg} {n : Nat} {p P : Pg}
end
end TR
namespace TR
section
variable {S : Sh} {bg : Bg} {n : Nat} {p : Pg}
end
end TR
namespace TR
section
variable {S : Sh} {bg : Bg} {n : Nat} {p P : Pg} {w : Wk}
end
end TR
namespace TR
section
variable {S : Sh} {bg : Bg} {n : Nat} {p : Pg} {w : Wk}
end
end TR
namespace TR
def ltO : Option Int → Option Int → Bool
  | none, some _ => true
  | some v, some u => decide (v < u)
  | _, none => false
section
variable {S : Sh} {bg : Bg}
def mu (S : Sh) (bg : Bg) (n : Nat) : Nat := ((List.range S.pg.length).filter fun m => ltO (bg n) (bg m)).length
end
end TR
namespace TR
def fresh (d : Deed) : Wk := ⟨d, d.key, 0, none, [], none, none, [], false⟩
end TR
namespace D
open PySem PySem.Spec PyProof.Rows L2
def oN : Option Nat → DV
  | none => .non
  | some n => .int n
def deedD : TR.Deed → DV
  | .find k => .tup [.str "find", .int k]
  | .put k w => .tup [.str "put", .int k, .int w]
  | .cut k => .tup [.str "cut", .int k]
  | .stretch l h => .tup [.str "stretch", .int l, .int h]
def wkF (s f q : Nat) (d a g p n w e : DV) : List (Str × DV) := [("shelf", .ref s), ("deed", d), ("aim", a), ("goal", g), ("place", p), ("forks", .ref f), ("new_page", n), ("worth", w), ("pairs", .ref q), ("ended", e)]
def wkO (s f q : Nat) (w : TR.Wk) : OV := .ins "Walk" (wkF s f q (deedD w.deed) (.int w.aim) (.int w.goal) (oN w.place) (oN w.newp) (opt w.worth) (.bl w.ended))
section
variable (s f q : Nat) (d a g p n w e x : DV)
theorem wkF_shelf : List.lookup ("shelf" : Str) (wkF s f q d a g p n w e) = some (.ref s) := by rfl
theorem wkF_deed : List.lookup ("deed" : Str) (wkF s f q d a g p n w e) = some d := by rfl
theorem wkF_aim : List.lookup ("aim" : Str) (wkF s f q d a g p n w e) = some a := by rfl
theorem wkF_goal : List.lookup ("goal" : Str) (wkF s f q d a g p n w e) = some g := by rfl
theorem wkF_place : List.lookup ("place" : Str) (wkF s f q d a g p n w e) = some p := by rfl
theorem wkF_worth : List.lookup ("worth" : Str) (wkF s f q d a g p n w e) = some w := by rfl
theorem wkF_ended : List.lookup ("ended" : Str) (wkF s f q d a g p n w e) = some e := by rfl
theorem wkF_pworth : putFD ("worth" : Str) x (wkF s f q d a g p n w e) = wkF s f q d a g p n x e := by rfl
theorem wkF_pended : putFD ("ended" : Str) x (wkF s f q d a g p n w e) = wkF s f q d a g p n w x := by rfl
theorem wkF_len : (wkF s f q d a g p n w e).length = 10 := rfl
theorem wkF_n2 : List.lookup ("do_deed" : Str) (wkF s f q d a g p n w e) = none := by rfl
theorem wkF_n6 : List.lookup ("find_worth" : Str) (wkF s f q d a g p n w e) = none := by rfl
theorem wkF_n10 : List.lookup ("step" : Str) (wkF s f q d a g p n w e) = none := by rfl
theorem wkF_n11 : List.lookup ("over" : Str) (wkF s f q d a g p n w e) = none := by rfl
end
end D
namespace D
open PySem PySem.Spec PyProof.Rows L2
section
variable {c f m : Str} {o e : DEx} {fa : DAx} {env : En} {hp hp1 hp2 : Hs} {a n : Nat} {fs : List (Str × DV)} {d v : DV} {ds : List DV} {F : List DV → M DV}
theorem onI_run {α : Type} {k : Nat → List (Str × DV) → M α} (h : hp[a]? = some (.ins c fs)) : onI c (.ref a) k hp = k a fs hp := by
  show (getW a >>= _) hp = _
  rw [bind_at (getW_of h)]
  show (guardM (decide (c = c)) >>= fun _ => k a fs) hp = _
  rw [decide_eq_true rfl]; rfl
theorem fldD_at (he : e env hp = some (v, hp1)) (ho : o env hp1 = some (.ref a, hp1)) (h : hp1[a]? = some (.ins c fs)) (hl : fs.length < 1000) : sFldD c f o e env hp = some ((.nx, env), hp1.set a (.ins c (putFD f v fs))) := by
  unfold sFldD
  rw [bind_at he, bind_at ho]
  unfold setF
  have : onI c (.ref a) (fun n fs => do guardM (decide (fs.length < 1000)); setW n (.ins c (putFD f v fs))) hp1 = some ((), hp1.set a (.ins c (putFD f v fs))) := by
    rw [onI_run h, decide_eq_true hl]; rfl
  rw [bind_at this]; rfl
theorem fld_at (ho : o env hp = some (.ref a, hp1)) (h : hp1[a]? = some (.ins c fs)) (hf : fs.lookup f = some d) : eFld c f o env hp = some (d, hp1) := by
  unfold eFld
  rw [bind_at ho]
  unfold getF
  rw [onI_run h, hf]; rfl
theorem meth_at (ho : o env hp = some (.ref a, hp)) (h : hp[a]? = some (.ins c fs)) (hm : fs.lookup m = none) (ha : fa env hp = some (ds, hp1)) (hn : ds.length + 1 = n) (hF : F (.ref a :: ds) hp1 = some (d, hp2)) : eMeth c m n F o fa env hp = some (d, hp2) := by
  unfold eMeth
  rw [bind_at ho]
  have : onI c (.ref a) (fun _ fs => guardM (fs.lookup m).isNone) hp = some ((), hp) := by rw [onI_run h, hm]; rfl
  rw [bind_at this, bind_at ha, decide_eq_true hn]
  show (guardM true >>= fun _ => F (.ref a :: ds)) hp1 = _
  exact hF
theorem a0_at : aNil env hp = some ([], hp) := rfl
theorem a1_at (h : e env hp = some (v, hp1)) : aCons e aNil env hp = some ([v], hp1) := by unfold aCons; rw [bind_at h]; rfl
theorem a2_at {e' : DEx} {v' : DV} (h : e env hp = some (v, hp1)) (h' : e' env hp1 = some (v', hp2)) : aCons e (aCons e' aNil) env hp = some ([v, v'], hp2) := by
  have := a1_at h'
  unfold aCons at this ⊢; rw [bind_at h, bind_at this]; rfl
theorem a3_at {e' e'' : DEx} {v' v'' : DV} {hp3 : Hs} (h : e env hp = some (v, hp1)) (h' : e' env hp1 = some (v', hp2)) (h'' : e'' env hp2 = some (v'', hp3)) : aCons e (aCons e' (aCons e'' aNil)) env hp = some ([v, v', v''], hp3) := by
  have := a2_at h' h''
  unfold aCons at this ⊢; rw [bind_at h, bind_at this]; rfl
theorem var_at {i : Nat} (h : env[i]? = some (.val d)) : eVar i env hp = some (d, hp) := by unfold eVar; rw [h]; rfl
theorem call_at {k : Nat} (ha : fa env hp = some (ds, hp1)) (hk : ds.length = k) (hF : F ds hp1 = some (d, hp2)) : eCall k F fa env hp = some (d, hp2) := by
  unfold eCall; rw [bind_at ha, decide_eq_true hk]; exact hF
theorem ifT_at {c : DTx} {f g : DSx} (h : c env hp = some (true, hp1)) : sIf c f g env hp = f env hp1 := by rw [sIf_at h]; rfl
theorem ifF_at {c : DTx} {f g : DSx} (h : c env hp = some (false, hp1)) : sIf c f g env hp = g env hp1 := by rw [sIf_at h]; rfl
theorem nil_at : sNil env hp = some ((.nx, env), hp) := rfl
theorem ixG_lst {i : Nat} (h : hp[a]? = some (.lst ds)) (hd : ds[i]? = some d) : ixG (.ref a) (.int i) hp = some (d, hp) := by
  show (getW a >>= _) hp = _
  rw [bind_at (getW_of h)]
  show (asI (.int (i : Int)) >>= fun i => optM (atI ds i)) hp = _
  simp only [asI, pure_bind, atI_nat hd]; rfl
end
theorem wl {s f q : Nat} {d a g p n w e : DV} : (wkF s f q d a g p n w e).length < 1000 := by rw [wkF_len]; decide
theorem tup_ix {xs : List DV} {i : Nat} {d : DV} (h : xs[i]? = some d) (hp : Hs) : ixG (.tup xs) (.int i) hp = some (d, hp) := by
  show ixD (.tup xs) (.int i) hp = _
  simp only [ixD, atI_nat h]; rfl
theorem deed_key (d : TR.Deed) (hp : Hs) : ixG (deedD d) (.int 1) hp = some (.int d.key, hp) := by cases d <;> exact tup_ix (i := 1) rfl hp
end D
namespace D
open PySem PySem.Spec PyProof.Rows L2
section
variable {e e' e'' e3 e4 : DEx} {fa : DAx} {env : En} {hp hp1 hp2 hp3 hp4 hp5 : Hs} {v v' v'' v3 v4 d : DV} {ds : List DV}
theorem tup_at (ha : fa env hp = some (ds, hp1)) (hs : ds.length ≤ 100000) : eTup fa env hp = some (.tup ds, hp1) := by
  unfold eTup
  rw [bind_at ha]
  have : short ds = true := decide_eq_true hs
  rw [this]; rfl
theorem a4_at (h : e env hp = some (v, hp1)) (h' : e' env hp1 = some (v', hp2)) (h'' : e'' env hp2 = some (v'', hp3)) (h3 : e3 env hp3 = some (v3, hp4)) : aCons e (aCons e' (aCons e'' (aCons e3 aNil))) env hp = some ([v, v', v'', v3], hp4) := by
  have := a3_at h' h'' h3
  unfold aCons at this ⊢; rw [bind_at h, bind_at this]; rfl
theorem a5_at (h : e env hp = some (v, hp1)) (h' : e' env hp1 = some (v', hp2)) (h'' : e'' env hp2 = some (v'', hp3)) (h3 : e3 env hp3 = some (v3, hp4)) (h4 : e4 env hp4 = some (v4, hp5)) : aCons e (aCons e' (aCons e'' (aCons e3 (aCons e4 aNil)))) env hp = some ([v, v', v'', v3, v4], hp5) := by
  have := a4_at h' h'' h3 h4
  unfold aCons at this ⊢; rw [bind_at h, bind_at this]; rfl
end
theorem okP_str {x : Str} (h : PyData.strOk x = true) : okP (.str x) = true := by simp [okP, noRef, toP, SeqAt.shaped, PyData.canLay0, PyData.depth, h]
theorem eqS {x y : Str} (hp : Hs) (h1 : PyData.strOk x = true) (h2 : PyData.strOk y = true) {b : Bool} (h : (x == y) = b) : eqG (.str x) (.str y) hp = some (.bl b, hp) := by
  unfold eqG
  have e : eqvG (.str x) (.str y) hp = some (x == y, hp) := by
    rw [eqvG_of (drf_str 39 hp x) (drf_str 39 hp y) (okP_str h1) (okP_str h2)]; rfl
  rw [bind_at e, h]; rfl
section
variable {c c' : DTx} {e e' : DEx} {env : En} {hp hp1 : Hs} {b : Bool}
theorem eOr_F (h : c env hp = some (false, hp1)) : eOr c c' env hp = c' env hp1 := by unfold eOr; rw [bind_at h]; rfl
theorem eAnd_T (h : c env hp = some (true, hp1)) : eAnd c c' env hp = c' env hp1 := by unfold eAnd; rw [bind_at h]; rfl
theorem eIf_T (h : c env hp = some (true, hp1)) : eIf c e e' env hp = e env hp1 := by unfold eIf; rw [bind_at h]; rfl
end
end D
namespace D
open PySem PySem.Spec PyProof.Rows L2
section
variable {f g : DEx} {fa : DAx} {env : En} {hp hp1 hp2 : Hs} {d x y : DV} {ds : List DV} {F : List DV → M DV}
theorem blt_at (h : fa env hp = some (ds, hp1)) (hF : F ds hp1 = some (d, hp2)) : eBlt F fa env hp = some (d, hp2) := by unfold eBlt; rw [bind_at h]; exact hF
theorem lenG_ref {n : Nat} (h : hp[n]? = some (.lst ds)) : lenG [.ref n] hp = some (.int ds.length, hp) := by
  show (getW n >>= _) hp = _
  rw [bind_at (getW_of h)]; rfl
theorem eqI (i j : Int) (hp : Hs) : eqG (.int i) (.int j) hp = some (.bl (i == j), hp) := by
  unfold eqG; rw [bind_at (eqvG_int i j hp)]; rfl
theorem neBB (b : Bool) (hp : Hs) : neG (.bl b) (.bl b) hp = some (.bl false, hp) := by
  have e := eqvG_of (drf_bl 39 hp b) (drf_bl 39 hp b) (okP_bl b) (okP_bl b)
  unfold neG; rw [bind_at e]; cases b <;> rfl
end
theorem xOf_at {f : DIx} {env : En} {hp hp1 : Hs} {ds : List DV} (h : f env hp = some (ds, hp1)) : xOf f env hp = some (nxD ds, hp1) := by unfold xOf; rw [bind_at h]; rfl
end D
namespace D
open PySem PySem.Spec PyProof.Rows L2
section
variable {c : DTx} {b : DSx} {n : Nat} {env env1 : En} {hp hp1 hp2 : Hs}
end
def nD (r : List Nat) : List DV := r.map fun n : Nat => DV.int (n : Int)
theorem append_at {o e : DEx} {env : En} {hp : Hs} {a : Nat} {ds : List DV} {d : DV} (ho : o env hp = some (.ref a, hp)) (h : hp[a]? = some (.lst ds)) (he : e env hp = some (d, hp)) (hl : ds.length < 100000) : eMth "list" mAppend o (aCons e aNil) env hp = some (.non, hp.set a (.lst (ds ++ [d]))) := by
  unfold eMth
  rw [bind_at ho]
  have e2 : kindG "list" (.ref a) hp = some ((), hp) := by
    show (getW a >>= _) hp = _
    rw [bind_at (getW_of h)]; rfl
  rw [bind_at e2, bind_at (a1_at he)]
  show (getW a >>= _) hp = _
  rw [bind_at (getW_of h)]
  show (guardM (decide (ds.length < lim)) >>= fun _ => setW a (.lst (ds ++ [d])) >>= fun _ => pure DV.non) hp = _
  rw [show decide (ds.length < lim) = true from decide_eq_true hl]; rfl
end D
namespace D
open PySem PySem.Spec PyProof.Rows L2
theorem runF_nx {n : Nat} {body : DSx} {ds : List DV} {env : En} {hp hp1 : Hs} (h : body (ds.map .val ++ List.replicate (n - ds.length) .un) hp = some ((.nx, env), hp1)) : runF n body ds hp = some (.non, hp1) := by
  unfold runF
  rw [bind_at h]; rfl
theorem putFD_le (f : Str) (d : DV) : ∀ fs : List (Str × DV), (putFD f d fs).length ≤ fs.length + 1
  | [] => Nat.le_refl _
  | (g, x) :: r => by
    unfold putFD
    split
    · simp
    · simpa using putFD_le f d r
theorem putFD_lt {f : Str} {d : DV} {fs : List (Str × DV)} {m : Nat} (h : fs.length ≤ m) : (putFD f d fs).length ≤ m + 1 := Nat.le_trans (putFD_le f d fs) (Nat.succ_le_succ h)
end D
namespace D
open PySem PySem.Spec PyProof.Rows L2
section
variable {X : Cx} {e : Expr} {f : DEx} {pos : Pos}
end
end D
namespace D
open PySem PySem.Spec PyProof.Rows L2
theorem compX_map {t : DV → M Bool} {f : DV → M DV} {g : DV → DV} {hp : Hs} (ds : List DV) (ht : ∀ d ∈ ds, t d hp = some (true, hp)) (hf : ∀ d ∈ ds, f d hp = some (g d, hp)) (hl : ds.length < 100000) : compX (nxD ds) t f 100000 0 hp = some (ds.map g, hp) := by
  suffices h : ∀ (m i n : Nat), m + i = ds.length → m < n → compX (nxD ds) t f n i hp = some ((ds.drop i).map g, hp) by simpa using h ds.length 0 100000 rfl hl
  intro m
  induction m with
  | zero =>
    intro i n e hn'
    obtain ⟨n, rfl⟩ : ∃ k, n = k + 1 := ⟨n - 1, by omega⟩
    have : i = ds.length := by omega
    subst this
    have e1 := nxD_at ds ds.length (Nat.le_refl _) hp
    rw [show ds[ds.length]? = none by simp] at e1
    rw [compX, bind_at e1, List.drop_length]; rfl
  | succ m ih =>
    intro i n e hn'
    obtain ⟨n, rfl⟩ : ∃ k, n = k + 1 := ⟨n - 1, by omega⟩
    have hlt : i < ds.length := by omega
    have e1 := nxD_at ds i (by omega) hp
    rw [List.getElem?_eq_getElem hlt] at e1
    rw [compX, bind_at e1]
    simp only
    rw [bind_at (ht ds[i] (List.getElem_mem hlt)), List.drop_eq_getElem_cons hlt]
    simp only [if_true]
    rw [bind_at (hf ds[i] (List.getElem_mem hlt)), bind_at (ih (i + 1) n (by omega) (by omega))]; rfl
section
variable {env : En} {hp hp1 hp2 hp3 hp4 hp5 hp6 hp7 : Hs} {e e' e'' e3 e4 e5 e6 : DEx} {v v' v'' v3 v4 v5 v6 : DV}
end
end D
namespace L2
open PySem PySem.Spec PyProof.Rows
section
variable {X : Cx} {tg : Expr}
end
end L2
namespace D
open PySem PySem.Spec PyProof.Rows L2
section
variable {X : Cx} {tg : Expr} {pos : Pos}
end
end D
namespace PySem
section
variable {prog : Program} {w : World} {A : Around} {E : Value → Shared → Prop} {s : Shared}
end
end PySem
namespace L2
open PySem PySem.Spec PyProof.Rows
section
variable {X : Cx}
end
end L2
namespace D
open PySem PySem.Spec PyProof.Rows L2
open AutoListH (joined_fits)
theorem list_mulW (l : Addr) (items : Array Value) (n : Nat) (sl : Array (Option Value)) (x : Int) (u : Tok) (hc0 : ¬(!Builtin.List.listFitsIndex x) = true) (hc1 : ¬items.size * x.toNat > (2 ^ 63 - 1) / 8) (hc2 : ¬Builtin.List.listTooLong (items.size * x.toNat) = true) :
    Meets (Builtin.«list.__mul__» ⟨[.ref l, .int x u], []⟩) (fun _ R s => s.heap.get? l = some { cls := .type "list", dict := none, data := .seq items n, slots := sl } ∧ R (.ok (.ret (Value.ref s.heap.objs.size))) { s with heap := s.heap.push { cls := Value.type "list", data := Data.seq (List.foldl (fun x1 x2 => x1 ++ x2) #[] (List.replicate (if items.isEmpty = true then 0 else x.toNat) items)) }, toks := s.toks }) :=
  .of_wp fun prog w A R s h => by
    obtain ⟨hp, g, d, tk, os⟩ := s; obtain ⟨hl, h⟩ := h
    have hsz := joined_fits hc2
    wp_walk; refine wpAny_ite_false (decide_eq_false (Nat.not_lt.mpr hsz)) ?_; wp_walk; exact ⟨_, rfl, h⟩
theorem int_rmulW (a : Int) (t : Tok) (l : Addr) (items : Array Value) (n : Nat) (sl : Array (Option Value)) :
    Meets (Builtin.«int.__rmul__» ⟨[.int a t, .ref l], []⟩) (fun _ R s => s.heap.get? l = some { cls := .type "list", dict := none, data := .seq items n, slots := sl } ∧ R (.ok (.ret Value.notImplemented)) s) :=
  .of_wp fun prog w A R s h => by obtain ⟨hp, g, d, tk, os⟩ := s; obtain ⟨hl, h⟩ := h; wp_walk; exact ⟨_, rfl, h⟩
theorem fold_one (v : Value) : ∀ (n : Nat) (a : Array Value), (List.replicate n #[v]).foldl (fun x1 x2 => x1 ++ x2) a = a ++ (List.replicate n v).toArray
  | 0, a => by simp
  | n + 1, a => by
    rw [List.replicate_succ, List.foldl_cons, fold_one v n, List.replicate_succ]
    apply Array.ext'
    simp
section
variable {X : Cx} {tg e a b c : Expr} {f fa fb : DEx} {pos : Pos}
theorem rd_mulL : OpR X (binaryOp .Mult) (fun x y H Q => ∃ l z n, x = .ref l ∧ y = .int n ∧ SqL X.K H l [z] ∧ 0 ≤ n ∧ n.toNat ≤ 100000 ∧ ∀ p, H p = none → Q (.ref p) (upd H p (.lst (List.replicate n.toNat z)))) := by
  intro pins s σ H x y v u Q I rx ry h
  obtain ⟨l, z, n, rfl, rfl, hl, h0, h1, q⟩ := h
  cases rx
  obtain ⟨t, rfl⟩ := ry
  obtain ⟨its, r1, ⟨⟨k1, dd1, da1, sl1⟩, n1, e1, c1, d1, s1⟩, _⟩ := I.list hl
  simp only at c1 d1 s1
  subst c1 d1 s1
  cases r1 with
  | cons r rr =>
    cases rr
    rename_i w
    have hz : (([w] : List Value).toArray.size) * n.toNat = n.toNat := by simp
    refine wpAny_binaryOp_repeat_ref (T := "list") (U := "int") (by decide) ⟨_, e1, rfl⟩ (fun s' => typeIs_int s' n t) noFill_list_mul F.fills_int_mul F.slot_int_rmul repeat_list F.slot_int_index.lookup
      (call_meets F.slot_int_rmul (typeIs_int s n t) F.entry_int_rmul (F.args_int_rmul_2 _ _) (int_rmulW n t l _ n1 sl1)
        ⟨e1, rfl, ⟨_, e1, rfl⟩, call_meets F.slot_list_mul ⟨_, e1, rfl⟩ F.entry_list_mul (F.args_list_mul_2 _ _)
          (list_mulW l _ n1 sl1 n t (by simp [Builtin.List.listFitsIndex]; omega) (by rw [hz]; omega) (by rw [hz]; simp [Builtin.List.listTooLong, sizeLine]; omega))
          ⟨e1, ?_⟩⟩)
    have ef : List.foldl (fun x1 x2 => x1 ++ x2) #[] (List.replicate (if ([w] : List Value).toArray.isEmpty = true then 0 else n.toNat) [w].toArray) = (List.replicate n.toNat w).toArray := by
      rw [if_neg (by simp)]
      have := fold_one w n.toNat #[]
      simpa using this
    rw [ef]
    have vr : Vals (List.replicate n.toNat z) (List.replicate n.toNat w) := by
      generalize n.toNat = m
      induction m with
      | zero => exact .nil
      | succ m ih => exact .cons r ih
    exact ⟨.ref _, _, I.lnew (t' := s.toks) vr (by rw [List.length_replicate]; exact Nat.le_trans h1 (by decide)), rfl, q _ I.fresh⟩
theorem repL_rep {K : PySem.W.Frag} {ρ : List Addr} {B : Addr → Prop} {H : Hp} {d : DV} {z : V} (r : RepV K ρ B H d z) : ∀ n : Nat, RepL K ρ B H (List.replicate n d) (List.replicate n z)
  | 0 => RepL.nil
  | n + 1 => by unfold List.replicate RepL; exact ⟨z, _, rfl, r, repL_rep r n⟩
end
end D
namespace D
open PySem PySem.Spec PyProof.Rows L2
section
variable {X : Cx} {tg e a b c : Expr} {f fa fb : DEx} {pos : Pos}
end
end D
namespace TP
def qn (n m : Nat) : Nat := (max 1 n + m - 1) / m
abbrev Rw := List (Int × Int)
end TP
namespace D
open PySem PySem.Spec PyProof.Rows L2
section
variable {env : En} {hp hp1 hp2 hp3 : Hs} {f g h : DEx} {ds : List DV} {d : DV}
theorem lenR_at {n : Nat} (hf : f env hp = some (.ref n, hp)) (hn : hp[n]? = some (.lst ds)) : eBlt lenG (aCons f aNil) env hp = some (.int ds.length, hp) := blt_at (a1_at hf) (lenG_ref hn)
end
end D
namespace TR
section
variable {S : Sh} {bg : Bg} {n : Nat} {p P : Pg} {k v : Int} {F : Int → Option Int}
end
end TR
namespace TR
section
variable {S S' : Sh} {bg : Bg} {n : Nat} {p P : Pg} {w w' : Wk} {F : Int → Option Int} {r : Row}
end
end TR
namespace TR
section
variable {S S' : Sh} {bg : Bg} {n : Nat} {p P : Pg} {w w' : Wk} {r : Row} {ws : List Wk} {i : Nat}
end
end TR
namespace TP
open TR
structure Lv where
  rows : Rw
  m : Nat
  fork : Bool
  lv : Nat
  first : Nat
section
variable {room : Nat} {L : Lv} {k : Nat}
end
end TP
namespace TP
open TR
section
variable {room : Nat} {L : Lv} {pg : List Pg} {bg : Bg}
end
end TP
namespace TP
open TR
section
variable {room : Nat} {L0 L : Lv} {pg : List Pg} {bg : Bg}
end
section
variable {room : Nat} {L0 L : Lv} {pg : List Pg} {bg : Bg} {n : Nat} {p : Pg} {key : Int}
end
end TP
namespace D
open PySem PySem.Spec PyProof.Rows L2
section
variable {prog : Program} {w : World} {A : Around} {E : Value → Shared → Prop} {s : Shared}
end
section
variable {prog : Program} {w : World} {K : Type} [DecidableEq K] {knd : KeyKind prog w K} {A : Around} {R : Result → Shared → Prop}
end
section
variable {prog : Program} {w : World} {K : Type} [DecidableEq K] {knd : KeyKind prog w K} {A : Around} {E : Value → Shared → Prop} {s : Shared}
end
section
variable {X : Cx}
def lsG : DV → M (List DV)
  | .lst ds => pure ds
  | .ref n => do
    match ← getW n with
    | .lst ds => pure ds
    | _ => failure
  | _ => failure
theorem lsG_rep {d : DV} {ds : List DV} {hp hp' : Hs} {K : PySem.W.Frag} {ρ : List Addr} {B : Addr → Prop} {H : Hp} {v : V} (W : WOk K ρ B hp H) (r : RepV K ρ B H d v) (h : lsG d hp = some (ds, hp')) : hp = hp' ∧ ∃ p xs, v = .ref p ∧ SqL K H p xs ∧ RepL K ρ B H ds xs := by
  cases d with
  | lst xs =>
    obtain ⟨rfl, rfl⟩ := pure_some h
    obtain ⟨a, ys, rfl, _, sq, l⟩ := r.lstI
    exact ⟨rfl, a, ys, rfl, sq, l⟩
  | ref n =>
    obtain ⟨o, hp1, e1, e2⟩ := bind_some (show (getW n >>= fun o => (match o with | .lst ds => pure ds | _ => failure : M (List DV))) hp = some (ds, hp') from h)
    obtain ⟨e3, rfl⟩ := getW_some e1
    cases o with
    | lst zs =>
      obtain ⟨rfl, rfl⟩ := pure_some e2
      obtain ⟨a, rfl, _, ys, h1, l1⟩ := RepV.refW W r e3
      exact ⟨rfl, a, ys, rfl, SqL.of h1, l1⟩
    | dic _ => cases e2
    | ins _ _ => cases e2
  | non => cases h
  | bl _ => cases h
  | int _ => cases h
  | str _ => cases h
  | tup _ => cases h
def opM (o : Option α) : M α := match o with
  | some a => pure a
  | none => failure
theorem opM_some {o : Option α} {a : α} {hp hp' : Hs} (h : opM o hp = some (a, hp')) : o = some a ∧ hp = hp' := by
  cases o with
  | none => cases h
  | some z => obtain ⟨rfl, rfl⟩ := pure_some h; exact ⟨rfl, rfl⟩
end
end D
namespace D
open PySem PySem.Spec PyProof.Rows L2
def blM : List DV → Option (List Bool)
  | [] => some []
  | .bl b :: r => (blM r).map (b :: ·)
  | _ => none
def allF : List DV → M DV := one1 fun d => do
  let ds ← lsG d
  let bs ← opM (blM ds)
  pure (.bl (bs.all id))
section
variable {prog : Program} {w : World} {A : Around} {E : Value → Shared → Prop} {s : Shared}
theorem range_all (bs : List Bool) : (List.range bs.length).all (fun i => bs.getD i false) = bs.all id := by
  induction bs with
  | nil => rfl
  | cons b bs ih =>
    rw [List.length_cons, List.range_succ_eq_map, List.all_cons, List.all_map, List.all_cons, ← ih]
    rfl
theorem call_all_list {l : Addr} {items : Array Value} {bs : List Bool} {Q : Value → Shared → Prop} (hh : A.handled = none) (hl : s.heap.IsList l items) (hlen : items.size = bs.length) (hb : ∀ (i : Nat) (v : Value), items[i]? = some v → v = .bool (bs.getD i false))
    (h : ∀ h' tk, (∀ b o, s.heap.get? b = some o → h'.get? b = some o) → Q (.bool (bs.all id)) { s with heap := h', toks := tk }) : wpAny (model prog w) A (call (.builtin "all") [.ref l]) Q E s := by
  refine call_all_walk (wpAny_pyIter_list hl ?_)
  have hne : l ≠ s.heap.objs.size := fun e => by
    obtain ⟨o, ho, _⟩ := hl
    exact Nat.lt_irrefl _ (e ▸ Heap.lt_size ho)
  refine ⟨s.heap.objs.size, _, _, _, _, _, fun i => bs.getD i false, rfl, Walks.list (by exact hh) s.heap.objs.size l hne items, ?_, fun i v s' Q' E' hP hQ => ?_, fun h' tk hk => ?_⟩
  · exact ⟨⟨_, Heap.get?_push_size _ rfl, rfl, rfl⟩, hl.push _⟩
  · have : v = .bool (bs.getD i false) := hb i v hP
    subst this
    exact wpAny_pure hQ
  · rw [hlen, range_all]
    refine h h' tk fun b o e => hk b o (fun z => ?_) (Heap.get?_push_of_some _ e)
    have : b = s.heap.objs.size := by simpa using z
    exact Nat.lt_irrefl _ (this ▸ Heap.lt_size e)
end
section
variable {X : Cx}
theorem blM_rep {K : PySem.W.Frag} {ρ : List Addr} {B : Addr → Prop} {H : Hp} : ∀ {ds : List DV} {bs : List Bool} {ys : List V} {its : List Value}, blM ds = some bs → RepL K ρ B H ds ys → Vals ys its → its.length = bs.length ∧ ∀ (i : Nat) (v : Value), its[i]? = some v → v = .bool (bs.getD i false) := by
  intro ds
  induction ds with
  | nil =>
    intro bs ys its h r v
    cases h
    unfold RepL at r; subst r
    cases v
    exact ⟨rfl, fun i v h => by simp at h⟩
  | cons d ds ih =>
    intro bs ys its h r v
    unfold RepL at r
    obtain ⟨y, ys', rfl, r1, r2⟩ := r
    cases v with
    | @cons _ u _ us v1 v2 =>
    cases d <;> first | (simp [blM] at h; done) | skip
    rename_i b
    have h : (blM ds).map (b :: ·) = some bs := h
    obtain ⟨bs', h1, rfl⟩ := Option.map_eq_some_iff.mp h
    obtain ⟨a1, a2⟩ := ih h1 r2 v2
    unfold RepV at r1
    subst r1
    cases v1
    refine ⟨by simp [a1], fun i v hv => ?_⟩
    cases i with
    | zero => cases hv; rfl
    | succ i => exact a2 i v hv
theorem c_all (hc : X.calm = true) : CallR X (.builtin "all") (tPn X.K allF) := by
  intro pins s σ H xs us Q I r h
  obtain ⟨ρ, B, hp, ds, d, hp', W, rl, e, k⟩ := h
  obtain ⟨x, rfl, e⟩ := one1_some e
  obtain ⟨zs, hp1, e1, e2⟩ := bind_some e
  obtain ⟨bs, hp2, e3, e4⟩ := bind_some e2
  obtain ⟨e5, rfl⟩ := opM_some e3
  obtain ⟨rfl, rfl⟩ := pure_some e4
  obtain ⟨v, rfl, rv⟩ := rl.oneI
  obtain ⟨rfl, p, ys, rfl, sq, l⟩ := lsG_rep W rv e1
  obtain ⟨u, rfl, rx⟩ := vals1 r
  cases rx
  obtain ⟨its, r', pl, hz⟩ := I.list sq
  obtain ⟨a1, a2⟩ := blM_rep e5 l r'
  refine call_all_list (bs := bs) (I.ok.hd hc) pl.isList (by simpa using a1) (fun i v h => a2 i v (by simpa using h)) fun h' tk kp => ?_
  exact ⟨.bl (bs.all id), H, I.kept (t' := tk) kp, rfl, k _ ρ B H Gr.refl W (by unfold RepV; rfl)⟩
end
end D
namespace L2
open PySem PySem.Spec PyProof.Rows
section
variable {X : Cx} {pins : List (Addr × Obj)} {σ : L2.St}
end
section
variable {X : Cx}
end
end L2
namespace D
open PySem PySem.Spec PyProof.Rows L2
section
variable {X : Cx} {f g : DEx}
end
end D
namespace L2
open PySem PySem.Spec PyProof.Rows
section
variable {X : Cx}
end
end L2
namespace D
open PySem PySem.Spec PyProof.Rows L2
section
variable {X : Cx} {a : Expr}
end
end D
namespace D
open PySem PySem.Spec PyProof.Rows L2
section
variable {X : Cx} {e : Expr} {f : DEx} {pos : Pos}
end
end D
namespace D
open PySem PySem.Spec PyProof.Rows L2
structure UF (K : PySem.W.Frag) (mg : Str → Option Value) (x : Str) (st : Stmt) : Prop where
  ex : ∃ g fd, Fun K x x st g fd ∧ mg x = some (.ref g)
structure UC (K : PySem.W.Frag) (c : Str) : Prop where
  ex : ∀ C, ClsN K c C → Cls K C
structure UM (K : PySem.W.Frag) (c m q : Str) (st : Stmt) : Prop where
  ex : ∃ C g fd, Fun K m q st g fd ∧ ClsN K c C ∧ Cls K C ∧ Meth K C m g
structure UI (K : PySem.W.Frag) (mg : Str → Option Value) (c q : Str) (st : Stmt) : Prop where
  ex : ∃ C g fd, Fun K "__init__" q st g fd ∧ ClsN K c C ∧ mg c = some (.ref C) ∧ Mk K C g
structure UG (mg : Str → Option Value) (x : Str) (i : Int) : Prop where
  ex : ∃ t, mg x = some (.int i t)
structure UT (K : PySem.W.Frag) (mg : Str → Option Value) (x : Str) (d : DV) : Prop where
  ex : ∃ a, mg x = some (.ref a) ∧ KRep K d (.ref a)
section
variable {K : PySem.W.Frag} {h : Heap} {mg : Str → Option Value} {f C : Addr} {x c m q : Str} {st : Stmt} {oc : Value} {od an : Option Addr} {osl : Array (Option Value)} {kV doc pm cdv ct : Value} {i : Int} {t : Tok} {d : DV} {a : Addr}
theorem uf (X : K.In h) (G : h.Ns mainGlobals mg) (n : PySem.W.nsIn K mainGlobals x = some (some (.ref f))) (l : K.lookup f = some ⟨oc, od, .func (PySem.W.fnOf x x (defArgs st) (defBody st) (defScope st) .none kV doc pm an cdv ct), osl⟩) (e : PySem.W.codeIn K cdv x = true) (k : PySem.W.keepIn K (.ref f) = true) : UF K mg x st := ⟨_, _, fun_mk l e k, PySem.W.mg_of X G n⟩
theorem uc (X : K.In h) (n : PySem.W.nsIn K mainGlobals c = some (some (.ref C))) (p : PySem.W.plainGet K C Str.empty = true) (e : PySem.W.hasDictIn K C = true) (o : PySem.W.plainOver K C = true) (s : PySem.W.findIn K (.ref C) "__setattr__" = some (some (.builtin "object.__setattr__"))) : UC K c := ⟨fun C' n' => by cases ClsN.uniq (show ClsN K c C from n) n'; exact ⟨p, e, o, s⟩⟩
theorem um (X : K.In h) (u : UC K c) (n : PySem.W.nsIn K mainGlobals c = some (some (.ref C))) (a : PySem.W.findIn K (.ref C) m = some (some (.ref f))) (b : PySem.W.isFn K (.ref f) = true) (l : K.lookup f = some ⟨oc, od, .func (PySem.W.fnOf m q (defArgs st) (defBody st) (defScope st) .none kV doc pm an cdv ct), osl⟩) (e : PySem.W.codeIn K cdv q = true) (k : PySem.W.keepIn K (.ref f) = true) : UM K c m q st := ⟨_, _, _, fun_mk l e k, n, u.ex _ n, a, b, k⟩
theorem ui (X : K.In h) (G : h.Ns mainGlobals mg) (n : PySem.W.nsIn K mainGlobals c = some (some (.ref C))) (a : PySem.W.findIn K (.ref C) "__init__" = some (some (.ref f))) (b : PySem.W.isFn K (.ref f) = true) (l : K.lookup f = some ⟨oc, od, .func (PySem.W.fnOf "__init__" q (defArgs st) (defBody st) (defScope st) .none kV doc pm an cdv ct), osl⟩) (e : PySem.W.codeIn K cdv q = true) (k : PySem.W.keepIn K (.ref f) = true) (v : PySem.W.makesIn K C = true) (z : PySem.W.keepIn K (.ref C) = true) : UI K mg c q st := ⟨_, _, _, fun_mk l e k, n, PySem.W.mg_of X G n, v, a, b, z⟩
theorem uk (X : K.In h) (u : UC K c) (n : PySem.W.nsIn K mainGlobals c = some (some (.ref C))) (a : PySem.W.findIn K (.ref C) x = some none) : FldK K c x := ⟨C, n, u.ex _ n, a⟩
theorem ug (X : K.In h) (G : h.Ns mainGlobals mg) (n : PySem.W.nsIn K mainGlobals x = some (some (.int i t))) : UG mg x i := ⟨_, PySem.W.mg_of X G n⟩
theorem ut (X : K.In h) (G : h.Ns mainGlobals mg) (n : PySem.W.nsIn K mainGlobals x = some (some (.ref a))) (r : KRep K d (.ref a)) : UT K mg x d := ⟨_, PySem.W.mg_of X G n, r⟩
theorem sc_of {N ps : List Str} {s : Scope} (h : (s.kind == .function && !s.isCoroutine && !s.isGenerator && decide N.Nodup && decide (N.take ps.length = ps) && ps.all (fun x => decide (s.names.lookup x = some .local) || decide (s.names.lookup x = some .cell)) && s.names.all fun y => decide (y.2 ≠ .free)) = true) : FnScope N ps s := by
  simp only [Bool.and_eq_true, Bool.not_eq_true', decide_eq_true_eq, List.all_eq_true, Bool.or_eq_true] at h
  obtain ⟨⟨⟨⟨⟨⟨a, b⟩, c⟩, d⟩, e⟩, f⟩, g⟩ := h
  refine ⟨?_, b, c, d, e, f, fun y hy => by have := g y hy; simpa using this⟩
  revert a; cases s.kind <;> first | (intro _; rfl) | (intro z; exact absurd z (by decide))
end
section
variable {P : Program} {w : World} {K : PySem.W.Frag} {mg : Str → Option Value} {base : Heap} {x c m q : Str} {st : Stmt} {N ps : List Str} {k : Nat} {body : DSx}
def Bn (ps : List Str) (x q : Str) (st : Stmt) : Prop := ∀ (kV doc pm : Value) (an : Option Addr) (cdv ct : Value) (us : List Value), us.length = ps.length → bindArgs (PySem.W.fnOf x q (defArgs st) (defBody st) (defScope st) .none kV doc pm an cdv ct) ⟨us, []⟩ = pure (ps.zip us)
def Bd (P : Program) (w : World) (K : PySem.W.Frag) (mg : Str → Option Value) (base : Heap) (N : List Str) (k : Nat) (q : Str) (st : Stmt) (body : DSx) : Prop := ∀ (g : Addr) (cdv : Value) (A : Around) (outer : List Env) (s : Shared) (H : Hp) (E : XK), Room k (A.deeper (envOfC q (defScope st) s.heap.objs.size g cdv)) → DSs (cxOf CX0 P w K mg base N q (defScope st) g cdv A outer s H E).nox (defBody st) body
theorem hf (u : UF K mg x st) (Sc : FnScope N ps (defScope st)) (h : Bd P w K mg base N k x st body) (hb : Bn ps x x st := by intro _ _ _ _ _ _ us hl; rcases us with _ | ⟨_, _ | ⟨_, _ | ⟨_, _ | ⟨_, _ | ⟨_, _ | ⟨_, _⟩⟩⟩⟩⟩⟩ <;> first | rfl | cases hl) : Has P w K mg base x (k + 1) ps.length (runF N.length body) := let ⟨_, _, F, hm⟩ := u.ex; fn_has F Sc hm hb (h _)
theorem hM (u : UM K c m q st) (Sc : FnScope N ps (defScope st)) (h : Bd P w K mg base N k q st body) (hb : Bn ps m q st := by intro _ _ _ _ _ _ us hl; rcases us with _ | ⟨_, _ | ⟨_, _ | ⟨_, _ | ⟨_, _ | ⟨_, _ | ⟨_, _⟩⟩⟩⟩⟩⟩ <;> first | rfl | cases hl) : HasM P w K mg base c m (k + 1) ps.length (runF N.length body) := let ⟨_, _, _, F, nc, cl, me⟩ := u.ex; meth_has nc cl me F Sc hb (h _)
theorem hI (u : UI K mg c q st) (Sc : FnScope N ps (defScope st)) (h : Bd P w K mg base N k q st body) (hb : Bn ps "__init__" q st := by intro _ _ _ _ _ _ us hl; rcases us with _ | ⟨_, _ | ⟨_, _ | ⟨_, _ | ⟨_, _ | ⟨_, _ | ⟨_, _⟩⟩⟩⟩⟩⟩ <;> first | rfl | cases hl) : HasI P w K mg base c (k + 1) ps.length (runF N.length body) := let ⟨_, _, _, F, nc, hm, me⟩ := u.ex; init_has nc hm me F Sc hb (h _)
end
end D
namespace L2
open PySem PySem.Spec PyProof.Rows
section
variable {X : Cx} {elts : List Expr} {kt : Nat} {p2 : Pos}
end
end L2
namespace D
open PySem PySem.Spec PyProof.Rows L2
section
variable {X : Cx} {elts : List Expr} {kt : Nat} {p2 : Pos} {f g : DEx}
end
section
variable {X : Cx} {e : Expr} {f : DEx} {pos : Pos}
end
end D
namespace L2
open PySem PySem.Spec PyProof.Rows
def CXE (P : Program) (w : World) : CXT := fun outer H s E e s' =>
  ∃ (a : Addr) (cls : Value) (t : Addr) (H' : Hp) (B : Heap), e = .ref a ∧ s'.os = s.os ∧ AllBare s'.gens ∧ Heap.FlyingW B outer a cls (.ref t) s'.heap ∧ HOk P w H' B ∧ Un (frs outer) [] H H' s.heap s'.heap ∧
    (∀ b o, s.heap.get? b = some o → H b = none → b ∉ frs outer → B.get? b = some o) ∧ (∀ b o, s.heap.get? b = some o → b ∉ frs outer → ∃ o', B.get? b = some o') ∧ E cls none H'
section
variable {X : Cx} {pins : List (Addr × Obj)} {σ : St} {H : Hp} {s s' : Shared} {E : XK} {e : Addr} {cls : Value} {vs : List Value} {M : Model} {EE : Value → Shared → Prop}
theorem old_ne (I : Inv X pins σ H s) {b : Addr} {o : Obj} (h : X.s₀.heap.get? b = some o) (hf : b ∉ X.fs) : b ∉ frs X.stack := fun z => by
  rcases List.mem_cons.mp (I.stkSub b z) with q | q
  · have := Nat.lt_of_lt_of_le (Heap.lt_size h) I.ok.above
    rw [q] at this; exact Nat.lt_irrefl _ this
  · exact hf q
theorem xe_made (I : Inv X pins σ H s) (hX : X.stack = X.env :: X.outer) (hf : X.env.frame = some X.env.locals) (hex : X.ex = []) {h1 : Heap} (hx : Heap.MadeExcOf s.heap h1 e cls vs) (q : E cls none H) :
    wpAny M X.A (leaving X.env (.ref e)) (fun _ s'' => CXE X.prog X.w X.outer X.H₀ X.s₀ E (.ref e) s'') EE { s with heap := h1 } := by
  have inx : ∀ b, b ∉ X.ex := fun b z => by rw [hex] at z; cases z
  have st : ∀ b o, s.heap.get? b = some o → b ∉ frs X.stack → (PySem.W.hideAll s.heap (frs X.stack)).get? b = some o := fun b o z n => PySem.W.hideAll_get _ z n
  refine wpAny_leaves_madeW (s := { s with heap := h1 }) (base := PySem.W.hideAll s.heap (frs X.stack)) (h := s.heap) (I.ok.frames.trans (by rw [hX])) hf (fun b o z => PySem.W.of_hideAll _ z) (by
    have := PySem.W.funFrames_hide (as := frs X.stack) I.stack fun env he b hb => List.mem_filterMap.mpr ⟨env, he, hb⟩
    rwa [hX] at this ⊢) hx fun h' t fl tup tn up => ?_
  have keep : ∀ b o, X.s₀.heap.get? b = some o → X.H₀ b = none → b ∉ frs X.outer → (PySem.W.hideAll s.heap (frs X.stack)).get? b = some o := fun b o z n hb => st b o (I.base.keep b o z n hb (inx b)) (old_ne I z hb)
  have there : ∀ b o, X.s₀.heap.get? b = some o → b ∉ frs X.outer → ∃ o', (PySem.W.hideAll s.heap (frs X.stack)).get? b = some o' := fun b o z hb => by
    obtain ⟨o', z'⟩ := I.base.there b o z (inx b)
    exact ⟨o', st b o' z' (old_ne I z hb)⟩
  have slot : ∀ b o, X.s₀.heap.get? b = some o → X.H₀ b = none → b ∈ frs X.outer → ∃ sl, h'.get? b = some { o with slots := sl } := fun b o z n hb => by
    obtain ⟨sl, z'⟩ := I.base.slot b o z n hb (inx b)
    obtain ⟨_, o2, z2, nd⟩ := I.ok.funs.mem hb
    rw [z] at z2; cases z2
    obtain ⟨s2, z3⟩ := up b { o with slots := sl } (hx.keeps b _ z') nd
    exact ⟨s2, z3⟩
  refine ⟨e, cls, t, H, _, rfl, I.os, I.bare, fl, fun a o ha => (I.hok a o ha).stay (fun b u hb z => st b u z fun m => ?_) (fun _ z => z) (fun _ _ z => z), ⟨fun b o z n hb _ => fl.1 b o (keep b o z n hb), fun b o z n hb _ => slot b o z n hb, fun b o z n _ => I.base.free b o z n (inx b), fun b o z _ => ?_, I.base.tups, I.base.frzs, I.base.tbls⟩, keep, there, q⟩
  · have := I.stkFree b m
    rcases hb with rfl | hb
    · rw [ha] at this; cases this
    · rw [hb] at this; cases this
  · by_cases hb : b ∈ frs X.outer
    · obtain ⟨sl, z'⟩ := slot b o z (I.ok.frf b hb) hb
      exact ⟨_, z'⟩
    · obtain ⟨o', z'⟩ := there b o z hb
      exact ⟨o', fl.1 b o' z'⟩
end
def ExIn (K : PySem.W.Frag) (C : Addr) : Prop := PySem.W.excIn K C [.type "ValueError", .type "Exception", .type "BaseException", .type "object"] "ValueError.__new__" = true
theorem own_obj {K : PySem.W.Frag} {h : Heap} {C : Addr} {bmB : List Value} {newId : String} (X : K.In h) (q : PySem.W.excIn K C bmB newId = true) : ∃ bm N nm q bs hdct sn sub ab col dd k0 k1 k2 k3 k5 mN, h.get? C = some (excClassObj nm q C N bs bm hdct sn sub ab col dd k0 k1 k2 k3 k5 newId) ∧ h.Ns N mN ∧ mN "__init__" = none ∧ OwnTail h bmB bm := by
  unfold PySem.W.excIn at q
  split at q
  · rename_i dd cd sl ho
    split at q
    · rename_i C' bm k0 k1 k2 k3 n k5 hm hs
      simp only [Bool.and_eq_true, beq_iff_eq, Bool.not_eq_true'] at q
      obtain ⟨⟨⟨⟨⟨rfl, rfl⟩, hdel⟩, ht⟩, hok⟩, hni⟩ := q
      obtain ⟨nm, bs, mro, ns, qn, hd, sn, sub, ab, col, del⟩ := cd
      dsimp only at hm hdel hok hni
      subst hm hdel
      have hsl : sl = #[k0, k1, k2, k3, some (.builtin n), k5] := by
        obtain ⟨l⟩ := sl
        simp only at hs
        rw [hs]
      subst hsl
      exact ⟨bm, ns, nm, qn, bs, hd, sn, sub, ab, col, dd, k0, k1, k2, k3, k5, _, X _ _ ho, .of_isNs (PySem.W.isNs_of_in X hok), PySem.W.nsMap_none_of_in X hok hni, PySem.W.tail_of_in X ht⟩
    · cases q
  · cases q
section
variable {X : Cx} {c : Str} {C : Addr} {np cpos pos p2 : Pos} {msg : Str} {j : Nat} {R : Hp → Prop}
theorem ps_raise (hc : X.calm = true) (hg : Gl X c) (hm : X.mg c = some (.ref C)) (hC : ExIn X.K C) (hR : ∀ pins σ H s, Inv X pins σ H s → R H → ∀ h' e vs, Heap.MadeExcOf s.heap h' e (.ref C) vs → X.xe (.ref e) { s with heap := h' })
    (he : starEach [.Constant (.str msg) j p2] X.env = (false, eval (.Constant (.str msg) j p2) X.env) :: starEach [] X.env := by rfl) (hpl : (backTo cpos (starEach [.Constant (.str msg) j p2] X.env)).any (·.1) = false := by rfl) (hd : (c == ("__debug__" : Str)) = false := by decide) :
    PS X (.Raise (some (.Call (.Name c np) [.Constant (.str msg) j p2] [] cpos)) none pos) (fun _ _ H => R H) := by
  intro pins s σ H D I h
  obtain ⟨tl, N, nm, q, bs, hdct, sn, sub, ab, col, dd, k0, k1, k2, k3, k5, mN, hCo, hNo, hni, T⟩ := own_obj I.ok.mod.kin hC
  have FB := PySem.F.excBase_ValueError
  refine wpAny_Raise_call_subT (C := C) (nm := nm) (q := q) (N := N) (bs := bs) (bm := tl) (hdct := hdct) (sn := sn) (sub := sub) (ab := ab) (col := col) (dd := dd) (k0 := k0) (k1 := k1) (k2 := k2) (k3 := k3) (k5 := k5) FB (mN := mN) (T.hasType FB.hasBase) (I.ok.hd hc) hpl hni (ld_glob I hg hm ⟨rfl, ?_⟩ hd)
  have A := (pa_cons (te := tC (.str msg)) pe_str pa_nil he : PA X [.Constant (.str msg) j p2] _) cpos pins s σ H (fun vs H1 => vs = [.str msg] ∧ H1 = H) I ⟨rfl, rfl⟩
  rw [he] at A ⊢
  refine Calls.evalArgs_plain (wpAny_mono A (fun us s2 z => ?_) fun _ _ z => z)
  obtain ⟨vs, H1, I1, r, rfl, rfl⟩ := z
  have hl : us.length = 1 := by rw [← r.length]; rfl
  exact ⟨rfl, by rw [hl]; decide, I1.bk _ _ hCo, hNo.keeps I1.bk, T.keeps I1.bk, fun h' e hx => hR pins σ _ s2 I1 h h' e us hx⟩
end
end L2
namespace L2
open PySem PySem.Spec PyProof.Rows PySem.W PySem.Calls PySem.Builtin PySem.Builtin.ObjectAttr PySem.Builtin.Getset_descriptor
structure KEx (K : Frag) (D : Addr) : Prop where
  ga : findIn K (.ref D) "__getattribute__" = some (some (.builtin "BaseException.__getattribute__"))
  gt : findIn K (.ref D) "__getattr__" = some none
  sb : subIn K (.ref D) (.type "BaseException") = some true
  cl : (clsIn K D).isSome = true
  ha : findIn K (.ref D) "__class__" = some (some (.builtin "object.__class__"))
  hn : specialIn K (.builtin "object.__class__") "__get__" = some (some (.builtin "getset_descriptor.__get__"))
  htk : takesIn K (.builtin "object.__class__") = some true
  hm : mroIn K D (.type "object") = some true
def OfCls (x D : Addr) (h : Heap) : Prop := ∃ ox, h.get? x = some ox ∧ ox.cls = .ref D
section
variable {prog : Program} {w : World} {A : Around} {E : Value → Shared → Prop} {s : Shared} {K : Frag} {x D : Addr}
theorem OfCls.type {M : Model} {h : Heap} (I : OfCls x D h) : Looks M h (typeOf (.ref x)) (.ref D) := by
  obtain ⟨ox, e, c⟩ := I
  exact c ▸ (Looks.ld e).andThen .now
theorem look_data {M : Model} {h : Heap} {name : Str} {a g : Value} (X : K.In h) (ha : findIn K (.ref D) name = some (some a)) (hg : specialIn K a "__get__" = some (some g)) (ht : takesIn K a = some true) : Looks M h (find (.ref x) (.ref D) name) (.bind g a) := by
  have L1 := looks_findIn (M := M) X ha
  have L2 : Looks M h (getOf (some a)) (some g) := looks_specialIn X hg
  have L3 := looks_takesIn (M := M) X ht
  exact L1.andThen (L2.andThen ((show Looks M h (dataDescriptor? (some a) (some g)) (some (g, a)) from L3.andThen .now).andThen (Looks.tag .now)))
theorem ga_check {M : Model} {nameV : Value} {Q : Unit → Shared → Prop} (X : K.In s.heap) (I : OfCls x D s.heap) (sb : subIn K (.ref D) (.type "BaseException") = some true) (hq : Q () s) : wpAny M A (checkBuiltinCall "BaseException.__getattribute__" ⟨[.ref x, nameV], []⟩) Q E s := by
  obtain ⟨hh, g, d, t, os⟩ := s
  have hk : builtinKind "BaseException.__getattribute__" = some .slot := by decide +kernel
  have hsplit : splitId "BaseException.__getattribute__" = some ("BaseException", "__getattribute__") := by decide +kernel
  have L0 := I.type (M := M)
  have L1 := looks_subIn (M := M) X sb
  have ha := F.args_bexc_ga (.ref x) nameV
  simp only [checkBuiltinCall, hk, hsplit]
  refine wpAny_bind ?_
  unfold isInstance
  repeat lk
  exact hq
theorem ex_own {name : Str} {g a : Value} {tk : Tok} {P : Value → Shared → Prop} (X : K.In s.heap) (I : OfCls x D s.heap) (hf : Looks (model prog w) s.heap (find (.ref x) (.ref D) name) (.bind g a))
    (h : wpAny (model prog w) A (call g [a, .ref x, .ref D]) P E s) :
    wpAny (model prog w) A (Builtin.«object.__getattribute__» ⟨[.ref x, .str name tk], []⟩) (fun fin s' => match fin with | .done (.ret v) => P v s' | _ => False) E s := by
  obtain ⟨hh, gg, d, t, os⟩ := s
  have L0 := I.type (M := model prog w)
  have L1 := hf
  unfold Builtin.«object.__getattribute__»
  refine wpAny_bind (wpAny_pure (wpAny_bind (wpAny_pure (wpAny_bind (L0.at (wpAny_bind (L1.at ?_)))))))
  show wpAny _ _ (holding [a] (call g [a, .ref x, .ref D]) >>= ret) _ _ _
  exact wpAny_bind (wpAny_holding (wpAny_mono h (fun v s' z => wpAny_pure z) fun _ _ z => z))
theorem ex_open {name : Str} {Q : Option Value → Shared → Prop} (X : K.In s.heap) (I : OfCls x D s.heap) (ga : findIn K (.ref D) "__getattribute__" = some (some (.builtin "BaseException.__getattribute__"))) (gt : findIn K (.ref D) "__getattr__" = some none) (sb : subIn K (.ref D) (.type "BaseException") = some true)
    (h : wpAny (model prog w) A.in1 (Builtin.«object.__getattribute__» ⟨[.ref x, .str name s.toks], []⟩)
      (fun fin s' => match fin with | .done (.ret v) => wpAny (model prog w) A (handedOut v) (fun v s'' => Q (some v) s'') (fun _ _ => False) s' | _ => False) (fun _ _ => False) { s with toks := s.toks + 1 }) :
    wpAny (model prog w) A (getAttr? (.ref x) name) Q E s := by
  obtain ⟨hh, g, d, t, os⟩ := s
  have L0 := I.type (M := model prog w)
  have L1 := looks_findIn (M := model prog w) X ga
  have L2 := looks_findIn (M := model prog w) X gt
  have hx2 : (Value.builtin "BaseException.__getattribute__" == Value.builtin "object.__getattribute__") = false := by decide +kernel
  have hx1 : (onTheHeap (Value.ref D) && Value.builtin "BaseException.__getattribute__" == Value.builtin "object.__getattribute__") = false := by rw [hx2]; rfl
  have f3 := F.attr_ValueError.ga.bind (.ref x)
  unfold getAttr? getAttrBy? getAttrBy
  refine wpAny_bind (wpAny_mkText (wpAny_bind (wpAny_attempt (wpAny_holding (wpAny_bind (L0.at (wpAny_bind (L1.at ?_))))))))
  show wpAny _ _ (if _ then _ else _) _ _ _
  rw [hx1]
  show wpAny _ _ (getAttrByItsOwn _ _ _ _ _ _) _ _ _
  unfold getAttrByItsOwn hookBefore
  refine wpAny_bind (L2.at (wpAny_bind (wpAny_attempt (wpAny_holding ?_))))
  show wpAny _ _ (boundAndCalled _ _ _) _ _ _
  unfold boundAndCalled
  rw [f3]
  refine wpAny_bind (wpAny_pure ?_)
  refine wpAny_call (codeAny_call_builtin F.attr_ValueError.ga.plain F.entry_bexc_ga (ga_check X I sb (wpAny_mono h (fun fin s' z => ?_) fun _ _ z => z.elim)))
  rcases fin with (_ | _ | _ | _) | _ <;> first | exact wpAny_mono z (fun v s'' hv => wpAny_pure hv) (fun _ _ z => z.elim) | exact z.elim
theorem ex_get {tp : Value} {R : Result → Shared → Prop} (X : K.In s.heap) (I : OfCls x D s.heap) (hm : mroIn K D (.type "object") = some true)
    (h : R (.ok (.ret (.ref D))) s) : codeAny (model prog w) A (.call (.builtin "getset_descriptor.__get__") ⟨[.builtin "object.__class__", .ref x, tp], []⟩) R s := by
  obtain ⟨hh, g, dr, t, os⟩ := s
  have L0 := I.type (M := model prog w)
  have L1 := looks_mroIn (M := model prog w) X hm
  refine codeAny_call_builtin KF.slot_gs.plain KF.entry_gs (KF.slot_gs.check _ _ _ _ _ _ _ _ KF.type_class (KF.args_gs _ _ _) ?_)
  unfold Builtin.«getset_descriptor.__get__» descrGet
  rw [dga_obj]
  refine wpAny_bind (wpAny_pure ?_)
  unfold descrGetter descrCheckInstance descrNameAndClass isInstance
  simp only [KF.owner_class]
  repeat lk
  refine ⟨Code.quiet_builtin _ (by decide +kernel), codeAny_builtin KF.entry_class ?_⟩
  unfold Builtin.«object.__class__» shownTypeOf
  repeat lk
  exact h
theorem kitx_exc (k : KEx K D) : KitX K (.ref x) (.ref D) (OfCls x D) where
  ty := fun _ _ _ I => I.type
  it := fun _ _ X _ => by
    obtain ⟨cdD, hcD⟩ := Option.isSome_iff_exists.mp k.cl
    unfold clsIn at hcD
    split at hcD
    · rename_i c' d' cd' sl' ho
      intro A' Q' E' s' k q
      unfold isType loadHead
      exact wpAny_bind (wpAny_loadPart (k _ _ (X _ _ ho)) (wpAny_pure q))
    · cases hcD
  ne := fun h tp dd its n sl X htp => by
    obtain ⟨cdD, hcD⟩ := Option.isSome_iff_exists.mp k.cl
    refine Bool.eq_false_iff.mpr fun q => ?_
    have e : D = tp := Value.ref.inj (beq_iff_eq.mp q)
    subst e
    unfold clsIn at hcD
    split at hcD
    · rename_i c' d' cd' sl' ho
      have z := (X _ _ ho).symm.trans htp
      cases z
    · cases hcD
  ca := fun {_ _ _ _ _ s} X I h => ex_open X I k.ga k.gt k.sb (ex_own (s := { s with toks := s.toks + 1 }) X I (look_data X k.ha k.hn k.htk)
    (wpAny_call (ex_get (s := { s with toks := s.toks + 1 }) X I k.hm (handed_on rfl h))))
end
end L2
namespace L2
open PySem PySem.Spec PyProof.Rows
theorem ObjOk.there {P : Program} {w : World} {H : Hp} {h : Heap} {a : Addr} {o : HO} (x : ObjOk P w H h a o) : ∃ u, h.get? a = some u := by
  cases o with
  | lst xs => obtain ⟨_, _, _, _, e⟩ := x; exact ⟨_, e⟩
  | tup xs => obtain ⟨_, _, _, _, e, _⟩ := x; exact ⟨_, e⟩
  | dK kvs => obtain ⟨_, _, _, _, o, _, _, e, _⟩ := x; exact ⟨_, e⟩
  | dT kvs => obtain ⟨_, _, _, _, o, _, _, e, _⟩ := x; exact ⟨_, e⟩
  | set S n => obtain ⟨o, _, _, _, e, _⟩ := x; exact ⟨_, e⟩
  | ins C dx fs => obtain ⟨_, _, _, e, _⟩ := x; exact ⟨_, e⟩
  | own y => exact x
  | xd fs => obtain ⟨_, ⟨_, _, _, e, _⟩, _⟩ := x; exact ⟨_, e⟩
  | rng lo hi => obtain ⟨_, _, _, e⟩ := x; exact ⟨_, e⟩
  | frz ob u => obtain ⟨e, _⟩ := x; exact ⟨_, e⟩
  | tbl ps => exact ⟨_, x⟩
  | met f y => exact ⟨_, x⟩
  | ext φ => obtain ⟨_, e, _⟩ := x; exact e
abbrev Cx.hand (X : Cx) (a : Addr) (oe : Obj) : Cx := { X with A := X.A.mark (some (.ref a)), calm := false, pn := (a, oe) :: X.pn, xe := fun _ _ => False }
section
variable {X : Cx} {pins : List (Addr × Obj)} {σ : St} {H H' : Hp} {s s' : Shared}
theorem Inv.land (I : Inv X pins σ H s) {B h5 : Heap} (os : s'.os = s.os) (bare : AllBare s'.gens) (hok : HOk X.prog X.w H' B) (un : Un (frs X.stack) [] H H' s.heap s'.heap)
    (kB : ∀ b o, s.heap.get? b = some o → H b = none → b ∉ frs X.stack → B.get? b = some o) (tB : ∀ b o, s.heap.get? b = some o → b ∉ frs X.stack → ∃ o', B.get? b = some o') (st : B.StaysIn h5) (up : s'.heap.UpToSlots h5) : Inv X pins σ H' { s' with heap := h5 } := by
  have slot : ∀ b o, s.heap.get? b = some o → H b = none → b ∈ frs X.stack → ∃ sl, h5.get? b = some { o with slots := sl } := fun b o z n hb => by
    obtain ⟨sl, z'⟩ := un.slot b o z n hb (by simp)
    obtain ⟨_, o2, z2, nd⟩ := I.stack.mem hb
    rw [z] at z2; cases z2
    obtain ⟨s2, z4⟩ := up b { o with slots := sl } z' nd
    exact ⟨s2, z4⟩
  refine I.call' (s' := { s' with heap := h5 }) (ch := []) os ⟨fun b o z n hb _ => st b o (kB b o z n hb), fun b o z n hb _ => slot b o z n hb, un.free, fun b o z _ => ?_, un.tups, un.frzs, un.tbls⟩ (hok.kept st) bare (fun b z => by cases z)
  by_cases hb : b ∈ frs X.stack
  · obtain ⟨sl, z'⟩ := slot b o z (I.stkFree b hb) hb
    exact ⟨_, z'⟩
  · obtain ⟨o', z'⟩ := tB b o z hb
    exact ⟨o', st b o' z'⟩
theorem Inv.hand {a : Addr} {oe : Obj} (I : Inv X pins σ H s) (ha : s.heap.get? a = some oe) (hn : H a = none) (hl : a ≠ X.env.locals) (hf : a ∉ X.fs) (hc : ∀ v, oe.data ≠ .cell v) : Inv (X.hand a oe) pins σ H s :=
  ⟨⟨I.ok.mod, I.ok.kind, I.ok.glob, I.ok.blt, I.ok.above, I.ok.inj, I.ok.has, I.ok.cab, (fun z => by cases z), I.ok.frames, I.ok.stk, I.ok.exf, I.ok.bs, I.ok.bsz, I.ok.noex, I.ok.exfs, I.ok.funs, I.ok.frf⟩, I.os, I.bare, I.base, I.loc, I.cell, I.free, I.freeC, fun p hp => by
    rcases List.mem_cons.mp hp with rfl | hp
    · exact ⟨ha, hn, hl, hf, hc⟩
    · exact I.pin p hp, I.hok, I.len⟩
theorem Inv.unhand {a : Addr} {oe : Obj} (I : Inv (X.hand a oe) pins σ H s) (ok : X.Ok) : Inv X pins σ H s :=
  ⟨ok, I.os, I.bare, I.base, I.loc, I.cell, I.free, I.freeC, fun p hp => I.pin p (List.mem_cons_of_mem _ hp), I.hok, I.len⟩
theorem gone {M : Model} {A : Around} {E : Value → Shared → Prop} {i : Nat} {n : Str} {pos : Pos} {Q : Unit → Shared → Prop} (I : Inv X pins σ H s) (hN : X.N.Nodup) (hi : X.N[i]? = some n) (hk : X.env.kindOf n = some .local)
    (h : ∀ s', Inv X pins (σ.set i none) H s' → Q () s') : wpAny M A (do bindName X.env n .none; unbindBehindTheSuite X.env n pos) Q E s := by
  obtain ⟨m, hn, hl⟩ := id I.loc
  have cne := I.cne
  obtain ⟨oL, _, _, hoL, _⟩ := id hn
  refine wpAny_nameGoes_keeps hk hn (by rw [I.ok.kind]; rfl) fun h' v hn' hs => ?_
  refine h _ ⟨I.ok, I.os, I.bare, ⟨fun b o e n hb hx => ?_, fun b o e n hb hx => ?_, I.base.free, fun b o e hx => ?_, I.base.tups, I.base.frzs, I.base.tbls⟩, ⟨_, hn', fun j y v' e1 e2 e3 => ?_⟩, fun y c e => ?_, I.free, I.freeC, fun p hp => ?_, fun b ob e => ?_, by simpa using I.len⟩
  · exact (hs.2 b (Nat.ne_of_lt (Nat.lt_of_lt_of_le (Heap.lt_size e) I.ok.above))).trans (I.base.keep b o e n hb hx)
  · obtain ⟨sl, e1⟩ := I.base.slot b o e n hb hx
    exact ⟨sl, (hs.2 b (Nat.ne_of_lt (Nat.lt_of_lt_of_le (Heap.lt_size e) I.ok.above))).trans e1⟩
  · obtain ⟨o', e1⟩ := I.base.there b o e hx
    exact ⟨o', (hs.2 b (Nat.ne_of_lt (Nat.lt_of_lt_of_le (Heap.lt_size e) I.ok.above))).trans e1⟩
  · by_cases hj : j = i
    · subst hj
      have hiσ : j < σ.length := by rw [I.len]; exact (List.getElem?_eq_some_iff.mp hi).1
      rw [List.getElem?_set_self hiσ] at e2
      cases e2
    · rw [List.getElem?_set_ne (Ne.symm hj)] at e2
      obtain ⟨u', r', q⟩ := hl j y v' e1 e2 e3
      refine ⟨u', r', ?_⟩
      rcases q with ⟨k, e⟩ | ⟨k, c, e, z⟩
      · refine .inl ⟨k, ?_⟩
        have : y ≠ n := fun e => hj (nodup_ix hN e1 (e ▸ hi))
        simp [this, e]
      · exact .inr ⟨k, c, e, z.sameBut hs (cne y c e)⟩
  · obtain ⟨w', z⟩ := I.cell y c e
    exact ⟨w', z.sameBut hs (cne y c e)⟩
  · obtain ⟨e, n, ne, nf, d⟩ := I.pin p hp
    exact ⟨(hs.2 p.1 ne).trans e, n, ne, nf, d⟩
  · refine (I.hok b ob e).stay (fun c w' hc q => (hs.2 c ?_).trans q) (fun _ q => q) fun _ _ q => q
    rintro rfl
    have := I.free
    rcases hc with rfl | hc
    · rw [this] at e; cases e
    · rw [this] at hc; cases hc
end
section
variable {X : Cx} {CX : CXT} {k : Nat} {f C SC : Addr} {fd : FuncData} {ps : List Str} {sp : Sp} {x sc n : Str} {p pos cpos epos hpos np : Pos} {e : Expr} {es : List Expr} {t : TA} {i : Nat} {b₀ : Stmt} {suite : List Stmt} {tS : Addr → TS}
def RunsX (X : Cx) (c : Expr) (T : St → Hp → VK → XK → Prop) : Prop := ∀ (pins : List (Addr × Obj)) (σ : St) (H : Hp) (s : Shared) (Q : VK) (E : XK) (xe : Value → Shared → Prop), Inv X pins σ H s → T σ H Q E → (∀ H1 s1 v s', Inv X pins σ H1 s1 → CXE X.prog X.w X.stack H1 s1 E v s' → xe v s') → wpAny (model X.prog X.w) X.A (eval c X.env) (EP X pins σ Q) xe s
theorem runX {pins : List (Addr × Obj)} {σ : St} {H1 : Hp} {s1 : Shared} {Q : VK} {E : XK} {xe : Value → Shared → Prop} {us : List Value} {vs : List V} (F : FnOk X.prog X.w X.K X.mg X.base (CXE X.prog X.w) k f fd ps sp) (hr : Room k X.A) (hb : Binds X.K fd ps []) (I1 : Inv X pins σ H1 s1) (r : Vals vs us) (q : sp vs H1 Q E)
    (hx : ∀ H1 s1 v s', Inv X pins σ H1 s1 → CXE X.prog X.w X.stack H1 s1 E v s' → xe v s') : wpAny (model X.prog X.w) X.A (call (.ref f) us) (EP X pins σ Q) xe s1 := by
  have hl : us.length = ps.length := by rw [← r.length]; exact F.len _ _ _ _ q
  have hb' := hb s1 us I1.kIn (by rw [List.append_nil]; exact hl)
  rw [List.append_nil] at hb'
  refine wpAny_call (codeAny_mono (F.run X.A X.stack s1 H1 ⟨us, []⟩ us vs Q E hr I1.env0 hb' r q) fun r s' hq => ?_)
  cases r with
  | error e => exact hx H1 s1 e s' I1 hq
  | ok fl =>
    cases fl with
    | ret u => exact I1.after hq
    | next => exact False.elim hq
    | brk => exact False.elim hq
    | cont => exact False.elim hq
theorem rx_meth {pl : Sem Bool} {o : Expr} {m : Str} {apos : Pos} {ta : TE} (he : PE X.nox o ta) (c : Cls X.K C) (hm : Meth X.K C m f) (F : FnOk X.prog X.w X.K X.mg X.base (CXE X.prog X.w) k f fd ps sp) (hr : Room k X.A) (hb : Binds X.K fd ps []) (ha : PA X.nox (e :: es) t)
    (hst : starEach (e :: es) X.env = (false, eval e X.env) :: starEach es X.env := by rfl) (hpl : (backTo pos (starEach es X.env)).any (·.1) = false := by rfl)
    (ht : eval (.Call (.Attribute o m apos) (e :: es) [] pos) X.env = (do
      let ov ← eval o X.env
      standAt apos.atName
      let (f, first) ← holding [ov] (getMethod ov m pl)
      callWith pos f first (backTo pos (starEach (e :: es) X.env)) (backToKw pos (keywordEach [] X.env))) := by rfl) :
    RunsX X (.Call (.Attribute o m apos) (e :: es) [] pos) (fun σ H Q E => tMeth C m sp [] E ta t σ H Q) := by
  intro pins σ H s Q E xe I h hx
  refine PySem.W.methodCall_KW (pl := pl) (wpAny_mono (he pins s σ H _ (I.wish _) h) (fun u s1 z => ?_) fun _ _ z => z.elim) ht
  obtain ⟨x, H1, I1, rx, a, dx, fs, ex, ea, l, q⟩ := z
  have I1 := I1.unwish
  subst ex
  obtain rfl : u = Value.ref a := rx
  refine getmeth_ok I1 ea c hm l ?_
  refine PySem.W.callWith_K (first := [.ref a]) (h₀ := X.base) I.ok.mod.kin hm.kp (wpAny_mono (ha pos pins s1 σ H1 _ (I1.wish _) q) (fun us s2 z => ?_) fun _ _ z => z.elim) hst hpl
  obtain ⟨vs, H2, I2, r, q2⟩ := z
  have I2 := I2.unwish
  rw [List.append_nil] at q2
  exact ⟨I2.kIn, runX (us := .ref a :: us) (vs := .ref a :: vs) F hr hb I2 (.cons rfl r) q2 hx⟩
theorem ps_try {c : Expr} {T : St → Hp → VK → XK → Prop} (hc : RunsX X c T)
    (hsg : Gl X sc) (hsm : X.mg sc = some (.ref SC)) (hex : PySem.W.exmOne X.K (.ref C) (.ref SC) = some true) (hN : X.N.Nodup) (hi : X.N[i]? = some n) (hl : X.env.kindOf n = some .local) (hX : X.stack = X.env :: X.outer) (hf : X.env.frame = some X.env.locals)
    (hS : ∀ a oe, oe.cls = .ref C → PSs (X.hand a oe) (b₀ :: suite) (tS a))
    (hsd : (sc == ("__debug__" : Str)) = false := by decide) (hsw : swapsWith c none epos.line X.env = pure false := by rfl) :
    PS X (.Try [.Expr c epos] [.ExceptHandler (some (.Name sc np)) (some n) (b₀ :: suite) hpos] [] [] pos)
      (fun D σ H => T σ H (fun _ _ => False) fun cls _ H' => cls = .ref C ∧ ∀ a, H' a = none → tS a { nx := fun σ' H'' => D.nx (σ'.set i none) H'', rt := fun _ _ => False } (σ.set i (some (.ref a))) H') := by
  intro pins s σ H D I h
  refine wpAny_Try_except (wpAny_execs_cons (wpAny_Expr_any (wpAny_mono (hc pins σ H s _ _ _ I h (fun H1 s1 v s' I1 cx => ?_)) (fun v s1 z => ?_) fun _ _ z => z) I.quiet hsw))
  rotate_left
  · obtain ⟨_, _, _, _, z⟩ := z
    exact z.elim
  obtain ⟨a, cls, tt, H', B, rfl, os, bare, fl, hok, un, kB, tB, rfl, hE⟩ := cx
  rw [hX] at fl
  refine wpAny_looks_onW (I1.ok.frames.trans (by rw [hX])) hf fl fun h4 held4 up4 => ?_
  refine wpAny_landsW held4 fun h5 fl5 up5 => ?_
  have Ha : H' a = none := by
    cases q : H' a with
    | none => rfl
    | some o =>
      obtain ⟨u, z⟩ := (hok a o q).there
      rw [fl5.2.1] at z; cases z
  have nofr : ∀ {h : Heap}, Heap.FlyingW B (X.env :: X.outer) a (.ref C) (.ref tt) h → s'.heap.UpToSlots h → a ∉ frs X.stack := fun {h} fx up z => by
    obtain ⟨oe, ws, hoe, _, hoed, _⟩ := fx.first
    have fr := fl.2.2.1
    rw [← hX] at fr
    obtain ⟨_, o2, z2, nd⟩ := fr.mem z
    obtain ⟨sl, z3⟩ := up a o2 z2 nd
    rw [hoe] at z3
    cases z3
    exact nd _ hoed
  have hand : ∀ {h : Heap} (fx : Heap.FlyingW B (X.env :: X.outer) a (.ref C) (.ref tt) h) (up : s'.heap.UpToSlots h), ∃ oe, oe.cls = .ref C ∧ Inv (X.hand a oe) pins σ H' { s' with heap := h } := fun {h} fx up => by
    obtain ⟨oe, ws, hoe, hoec, hoed, _⟩ := fx.first
    have nf := nofr fx up
    refine ⟨oe, hoec, (I1.land os bare hok un kB tB fx.1 up).hand hoe Ha (fun q => nf ?_) (fun q => nf ?_) fun v q => by rw [hoed] at q; cases q⟩
    · rw [hX]
      exact List.mem_filterMap.mpr ⟨X.env, by simp, by rw [hf, q]⟩
    · rw [hX]
      obtain ⟨env, m1, m2⟩ := List.mem_filterMap.mp q
      exact List.mem_filterMap.mpr ⟨env, List.mem_cons_of_mem _ m1, m2⟩
  obtain ⟨oe5, oc5, I5⟩ := hand fl5 (up4.trans up5)
  have ty5 : PySem.W.Looks (model X.prog X.w) h5 (typeOf (.ref a)) (.ref C) := OfCls.type fl5.there
  refine wpAny_handleBy_cons (codeAny_handlers_test (ld_glob (X := X.hand a oe5) I5 hsg hsm ?_ hsd)) (by intro q; cases q)
  refine (PySem.W.exm_one I5.kIn ty5 hex).at ?_
  refine codeAny_handlers_suite_as ?_
  refine lands_againW fl5 fun h6 fl6 up6 => ?_
  obtain ⟨oe, oc, I6⟩ := hand fl6 ((up4.trans up5).trans up6)
  refine store_ok (X := X.hand a oe) I6 hN hi (.inl hl) (v := .ref a) rfl (fun s7 I7 => ?_) (.inr hl)
  refine wpAny_mono (hS a oe oc pins s7 _ H' _ I7 (hE a Ha)) (fun fl s8 hs => ?_) fun _ _ z => z.elim
  cases fl with
  | next =>
    obtain ⟨σ', H'', I8, q⟩ := hs
    exact gone (I8.unhand I.ok) hN hi hl fun s9 I9 => ⟨_, _, I9, q⟩
  | ret u => obtain ⟨_, _, _, _, _, z⟩ := hs; exact z.elim
  | brk => obtain ⟨_, _, _, z⟩ := hs; exact z.elim
  | cont => obtain ⟨_, _, _, z⟩ := hs; exact z.elim
end
end L2
namespace D
open PySem PySem.Spec PyProof.Rows L2
abbrev DRx := En → Hs → Option (Str × Hs)
def tR (K : PySem.W.Frag) (E : XK) (g : DRx) : St → Hp → Prop := fun σ H => ∃ Z env ρ B hp c hp', SOk K Z env σ ρ B hp H ∧ g env hp = some (c, hp') ∧ ∀ C ρ' B' H', ClsN K c C → Gr K Z.ρ Z.B Z.H ρ' B' H' → WOk K ρ' B' hp' H' → E (.ref C) none H'
def RE (X : Cx) (E : XK) (e : Expr) (g : DRx) : Prop := PE X e (fun σ H _ => tR X.K E g σ H)
def RS (X : Cx) (E : XK) (st : Stmt) (g : DRx) : Prop := PS X st (fun _ σ H => tR X.K E g σ H)
def RSs (X : Cx) (E : XK) (st : List Stmt) (g : DRx) : Prop := PSs X st (fun _ σ H => tR X.K E g σ H)
def spR (K : PySem.W.Frag) (n : Nat) (G : List DV → Hs → Option (Str × Hs)) : Sp := fun vs H _ E => vs.length = n ∧ ∃ ρ B hp ds c hp', WOk K ρ B hp H ∧ RepL K ρ B H ds vs ∧ G ds hp = some (c, hp') ∧ ∀ C ρ' B' H', ClsN K c C → Gr K ρ B H ρ' B' H' → WOk K ρ' B' hp' H' → E (.ref C) none H'
structure HasRM (P : Program) (w : World) (K : PySem.W.Frag) (mg : Str → Option Value) (base : Heap) (c m : Str) (k n : Nat) (G : List DV → Hs → Option (Str × Hs)) : Prop where
  ex : ∃ (C f : Addr) (fd : FuncData) (ps : List Str), ClsN K c C ∧ Cls K C ∧ Meth K C m f ∧ FnOk P w K mg base (CXE P w) k f fd ps (spR K n G) ∧ Binds K fd ps []
def runR (n : Nat) (g : DRx) : List DV → Hs → Option (Str × Hs) := fun ds hp => g (ds.map .val ++ List.replicate (n - ds.length) .un) hp
def gOf {α : Type} (m : M α) (k : α → Hs → Option (Str × Hs)) : Hs → Option (Str × Hs) := fun hp => (m hp).bind fun r => k r.1 r.2
theorem gOf_some {α : Type} {m : M α} {k : α → Hs → Option (Str × Hs)} {hp : Hs} {r : Str × Hs} (h : gOf m k hp = some r) : ∃ x hp1, m hp = some (x, hp1) ∧ k x hp1 = some r := by
  unfold gOf at h
  cases e : m hp with
  | none => rw [e] at h; cases h
  | some q => rw [e] at h; exact ⟨q.1, q.2, rfl, h⟩
theorem gOf_at {α : Type} {m : M α} {k : α → Hs → Option (Str × Hs)} {hp hp1 : Hs} {x : α} (h : m hp = some (x, hp1)) : gOf m k hp = k x hp1 := by unfold gOf; rw [h]; rfl
section
variable {X : Cx} {E : XK} {e o : Expr} {es : List Expr} {st : Stmt} {rest : List Stmt} {g g' : DRx} {f : DSx} {pos apos p : Pos} {c m : Str} {fo : DEx} {fa : DAx}
theorem rss_first (h : RS X E st g) : RSs X E (st :: rest) g := L2.PSs.imp (pss_cons h (u := fun _ _ _ => False) fun _ _ _ _ _ _ z => z.elim) fun _ _ _ q => q
def gIf (c : DTx) (g g' : DRx) : DRx := fun env => gOf (c env) fun b => if b = true then g env else g' env
theorem rs_if {ce : Expr} {a b : List Stmt} {t : DTx} (hc : DT X ce t) (ha : RSs X E a g) (hb : RSs X E b g') : RS X E (.If ce a b pos) (gIf t g g') := L2.PS.imp (ps_if hc ha hb) fun D σ H q => by
  obtain ⟨Z, env, ρ, B, hp, c, hp', S, e, k⟩ := q
  obtain ⟨d, hp1, e1, e2⟩ := gOf_some e
  refine ⟨Z, env, ρ, B, hp, d, hp1, S, e1, fun ρ1 B1 H1 g1 W1 => ?_⟩
  have S1 := S.grow g1 W1
  cases d with
  | true => exact ⟨Z, env, ρ1, B1, hp1, c, hp', S1, e2, k⟩
  | false => exact ⟨Z, env, ρ1, B1, hp1, c, hp', S1, e2, k⟩
def gNo : DRx := fun _ _ => none
theorem rss_no {l : List Stmt} : RSs X E l gNo := fun _ _ _ _ _ _ q => by
  obtain ⟨Z, env, ρ, B, hp, c, hp', S, e, k⟩ := q
  cases e
def gMeth (c m : Str) (n : Nat) (G : List DV → Hs → Option (Str × Hs)) (fo : DEx) (fa : DAx) : DRx := fun env => gOf (fo env) fun x => gOf (onI c x fun _ fs => guardM (fs.lookup m).isNone) fun _ => gOf (fa env) fun ds hp => if ds.length + 1 = n then G (x :: ds) hp else none
theorem re_meth {k j n : Nat} {G : List DV → Hs → Option (Str × Hs)} {pl : Sem Bool} (h : HasRM X.prog X.w X.K X.mg X.base c m j n G) (hr : Room k X.A) (hj : j ≤ k) (hx : Passes (CXE X.prog X.w) X E) (ho : DE X o fo) (ha : DA X (e :: es) fa)
    (hst : starEach (e :: es) X.env = (false, eval e X.env) :: starEach es X.env := by rfl) (hpl : (backTo pos (starEach es X.env)).any (·.1) = false := by rfl)
    (ht : eval (.Call (.Attribute o m apos) (e :: es) [] pos) X.env = (do
      let ov ← eval o X.env
      standAt apos.atName
      let (f, first) ← holding [ov] (getMethod ov m pl)
      callWith pos f first (backTo pos (starEach (e :: es) X.env)) (backToKw pos (keywordEach [] X.env))) := by rfl) : RE X E (.Call (.Attribute o m apos) (e :: es) [] pos) (gMeth c m n G fo fa) := by
  obtain ⟨C, g, fd, ps, nc, cl, hm, F', hb⟩ := h.ex
  refine L2.PE.imp (pe_meth (pl := pl) ho cl hm F' (hr.mono hj) hb .nil hx ha hst hpl ht) fun σ H Q q => ?_
  obtain ⟨Z, env, ρ, B, hp, cc, hp', S, e, k⟩ := q
  obtain ⟨x, hp1, e1, e⟩ := gOf_some e
  obtain ⟨_, hp2, e2, e⟩ := gOf_some e
  obtain ⟨ds, hp3, e3, ef⟩ := gOf_some e
  split at ef
  · rename_i hl
    refine tD.run S e1 fun v ρ1 B1 H1 g1 S1 r1 => ?_
    obtain ⟨i, fs, rfl, w1, w2⟩ := onI_some e2
    obtain ⟨hn, rfl⟩ := guardM_some w2
    obtain ⟨a, rfl, _, ro⟩ := RepV.refW S1.wo r1 w1
    obtain ⟨C', dx, xs, nc', ea, rf⟩ := ro.ins
    obtain rfl := nc'.uniq nc
    have hx : xs.lookup m = none := by
      rcases rf.look m with ⟨_, z⟩ | ⟨_, _, z, _, _⟩
      · exact z
      · rw [z] at hn; cases hn
    refine ⟨a, dx, xs, rfl, ea, hx, tDA.run S1 e3 fun vs ρ2 B2 H2 g2 S2 r2 => ?_⟩
    refine ⟨?_, ρ2, B2, hp3, _, cc, hp', S2.wo, ?_, ef, fun C2 ρ3 B3 H3 nc3 g3 W3 => k C2 ρ3 B3 H3 nc3 (S2.gr.trans g3) W3⟩
    · rw [List.append_nil, List.length_cons, ← r2.length]; exact hl
    · rw [List.append_nil]; exact RepL.cons (RepV.grow S1.wo.rb g2 _ _ r1) r2
  · cases ef
end
end D
namespace D
open PySem PySem.Spec PyProof.Rows L2
section
variable {X : Cx} {E : XK} {c : Str} {C : Addr} {np cpos pos p2 : Pos} {msg : Str} {j : Nat}
def gRaise (c : Str) : DRx := fun _ hp => some (c, hp)
structure UX (K : PySem.W.Frag) (mg : Str → Option Value) (c : Str) : Prop where
  ex : ∃ C, ClsN K c C ∧ mg c = some (.ref C) ∧ ExIn K C
theorem rs_raise {P : Program} {w : World} {K : PySem.W.Frag} {mg : Str → Option Value} {base : Heap} {N : List Str} {q : Str} {sc : Scope} {f : Addr} {cd : Value} {A : Around} {outer : List Env} {s : Shared} {H : Hp} {E : XK} (u : UX K mg c) (hg : Gl (cxOf (CXE P w) P w K mg base N q sc f cd A outer s H E) c := by rfl)
    (he : starEach [.Constant (.str msg) j p2] (cxOf (CXE P w) P w K mg base N q sc f cd A outer s H E).env = (false, eval (.Constant (.str msg) j p2) (cxOf (CXE P w) P w K mg base N q sc f cd A outer s H E).env) :: starEach [] (cxOf (CXE P w) P w K mg base N q sc f cd A outer s H E).env := by rfl) (hpl : (backTo cpos (starEach [.Constant (.str msg) j p2] (cxOf (CXE P w) P w K mg base N q sc f cd A outer s H E).env)).any (·.1) = false := by rfl) (hd : (c == ("__debug__" : Str)) = false := by decide) :
    RS (cxOf (CXE P w) P w K mg base N q sc f cd A outer s H E) E (.Raise (some (.Call (.Name c np) [.Constant (.str msg) j p2] [] cpos)) none pos) (gRaise c) := by
  obtain ⟨C, nc, hm, hC⟩ := u.ex
  refine L2.PS.imp (ps_raise (R := fun H => E (.ref C) none H) rfl hg hm hC (fun pins σ H s I q h' e vs hx => xe_made I rfl rfl rfl hx q) he hpl hd) fun D σ H q => ?_
  obtain ⟨Z, env, ρ, B, hp, cc, hp', S, e, k⟩ := q
  cases e
  exact k C ρ B H nc S.gr S.wo
end
section
variable {P : Program} {w : World} {K : PySem.W.Frag} {mg : Str → Option Value} {base : Heap} {x c m q : Str} {st : Stmt} {N ps : List Str} {k : Nat} {g : DRx}
def BdR (P : Program) (w : World) (K : PySem.W.Frag) (mg : Str → Option Value) (base : Heap) (N : List Str) (k : Nat) (q : Str) (st : Stmt) (g : DRx) : Prop := ∀ (f : Addr) (cdv : Value) (A : Around) (outer : List Env) (s : Shared) (H : Hp) (E : XK), Room k (A.deeper (envOfC q (defScope st) s.heap.objs.size f cdv)) → RSs (cxOf (CXE P w) P w K mg base N q (defScope st) f cdv A outer s H E) E (defBody st) g
theorem fnR {f : Addr} {fd : FuncData} (F : Fun K x q st f fd) (Sc : FnScope N ps (defScope st)) (h : BdR P w K mg base N k q st g) : FnOk P w K mg base (CXE P w) (k + 1) f fd ps (spR K ps.length (runR N.length g)) := by
  obtain ⟨oc, od, kV, doc, pm, an, cdv, ct, osl, rfl, lk, hcd⟩ := F.ex
  refine fn_of lk hcd Sc (fun vs H Q E h => h.1) fun A outer s H vs Q E hr sp => ⟨_, h f cdv A outer s H E hr, ?_⟩
  obtain ⟨hn, ρ, B, hp, ds, c, hp', W, r, e, k⟩ := sp
  exact ⟨⟨ρ, B, H⟩, _, ρ, B, hp, c, hp', sOk_start W r, e, k⟩
theorem hMR (u : UM K c m q st) (Sc : FnScope N ps (defScope st)) (h : BdR P w K mg base N k q st g) (hb : Bn ps m q st := by intro _ _ _ _ _ _ us hl; rcases us with _ | ⟨_, _ | ⟨_, _ | ⟨_, _ | ⟨_, _ | ⟨_, _ | ⟨_, _⟩⟩⟩⟩⟩⟩ <;> first | rfl | cases hl) : HasRM P w K mg base c m (k + 1) ps.length (runR N.length g) := by
  obtain ⟨C, f, fd, F, nc, cl, me⟩ := u.ex
  exact ⟨C, f, fd, ps, nc, cl, me, fnR F Sc h, F.binds hb⟩
end
theorem SOk.un {K : PySem.W.Frag} {Z : Ent} {env : En} {σ : St} {ρ : List Addr} {B : Addr → Prop} {hp : Hs} {H : Hp} {i : Nat} {v : Option V} (S : SOk K Z env σ ρ B hp H) : SOk K Z (env.set i .un) (σ.set i v) ρ B hp H where
  gr := S.gr
  zb := S.zb
  wo := S.wo
  slot := fun j e h => by
    by_cases hj : j = i
    · subst hj
      have hl : j < env.length := by have := (List.getElem?_eq_some_iff.mp h).1; simpa using this
      rw [List.getElem?_set_self hl] at h; cases h
    · rw [List.getElem?_set_ne (Ne.symm hj)] at h ⊢
      exact S.slot j e h
  accs := fun j ds h => by
    by_cases hj : j = i
    · subst hj
      have hl : j < env.length := by have := (List.getElem?_eq_some_iff.mp h).1; simpa using this
      rw [List.getElem?_set_self hl] at h; cases h
    · rw [List.getElem?_set_ne (Ne.symm hj)] at h ⊢
      exact S.accs j ds h
  adis := fun j l ds es a h1 h2 h3 h4 => by
    have nj : j ≠ i := fun q => by
      subst q
      have hl : j < env.length := by have := (List.getElem?_eq_some_iff.mp h1).1; simpa using this
      rw [List.getElem?_set_self hl] at h1; cases h1
    have nl : l ≠ i := fun q => by
      subst q
      have hl : l < env.length := by have := (List.getElem?_eq_some_iff.mp h2).1; simpa using this
      rw [List.getElem?_set_self hl] at h2; cases h2
    rw [List.getElem?_set_ne (Ne.symm nj)] at h1 h3
    rw [List.getElem?_set_ne (Ne.symm nl)] at h2 h4
    exact S.adis j l ds es a h1 h2 h3 h4
  len := by simpa using S.len
structure UY (K : PySem.W.Frag) (mg : Str → Option Value) (c sc a1 b1 b2 b3 b4 : Str) : Prop where
  ex : ∃ C SC A1 B1 B2 B3 B4, ClsN K c C ∧ KEx K C ∧ mg sc = some (.ref SC) ∧ mg a1 = some (.ref A1) ∧ mg b1 = some (.ref B1) ∧ mg b2 = some (.ref B2) ∧ mg b3 = some (.ref B3) ∧ mg b4 = some (.ref B4) ∧ PySem.W.exmOne K (.ref C) (.ref SC) = some true ∧
    PySem.W.kitOne K (.ref C) (.ref A1) = some true ∧ PySem.W.kitOne K (.ref C) (.type "ValueError") = some true ∧ PySem.W.kitAny K (.ref C) [.ref B1, .ref B2, .ref B3, .ref B4] = some false
section
variable {K : PySem.W.Frag} {h : Heap} {mg : Str → Option Value} {c sc a1 b1 b2 b3 b4 : Str} {C SC A1 B1 B2 B3 B4 : Addr}
theorem ux (X : K.In h) (G : h.Ns mainGlobals mg) (n : PySem.W.nsIn K mainGlobals c = some (some (.ref C))) (e : PySem.W.excIn K C [.type "ValueError", .type "Exception", .type "BaseException", .type "object"] "ValueError.__new__" = true) : UX K mg c := ⟨C, n, PySem.W.mg_of X G n, e⟩
theorem uy (X : K.In h) (G : h.Ns mainGlobals mg) (n : PySem.W.nsIn K mainGlobals c = some (some (.ref C))) (n0 : PySem.W.nsIn K mainGlobals sc = some (some (.ref SC))) (n1 : PySem.W.nsIn K mainGlobals a1 = some (some (.ref A1))) (m1 : PySem.W.nsIn K mainGlobals b1 = some (some (.ref B1))) (m2 : PySem.W.nsIn K mainGlobals b2 = some (some (.ref B2))) (m3 : PySem.W.nsIn K mainGlobals b3 = some (some (.ref B3))) (m4 : PySem.W.nsIn K mainGlobals b4 = some (some (.ref B4)))
    (ga : PySem.W.findIn K (.ref C) "__getattribute__" = some (some (.builtin "BaseException.__getattribute__"))) (gt : PySem.W.findIn K (.ref C) "__getattr__" = some none) (sb : PySem.W.subIn K (.ref C) (.type "BaseException") = some true) (ha : PySem.W.findIn K (.ref C) "__class__" = some (some (.builtin "object.__class__"))) (hn : PySem.W.specialIn K (.builtin "object.__class__") "__get__" = some (some (.builtin "getset_descriptor.__get__"))) (htk : PySem.W.takesIn K (.builtin "object.__class__") = some true) (hm : PySem.W.mroIn K C (.type "object") = some true)
    (ex : PySem.W.exmOne K (.ref C) (.ref SC) = some true) (k1 : PySem.W.kitOne K (.ref C) (.ref A1) = some true) (k2 : PySem.W.kitOne K (.ref C) (.type "ValueError") = some true) (k3 : PySem.W.kitAny K (.ref C) [.ref B1, .ref B2, .ref B3, .ref B4] = some false) : UY K mg c sc a1 b1 b2 b3 b4 :=
  ⟨C, SC, A1, B1, B2, B3, B4, n, ⟨ga, gt, sb, (by
    unfold PySem.W.mroIn at hm
    cases q : PySem.W.clsIn K C with
    | none => rw [q] at hm; cases hm
    | some _ => rfl), ha, hn, htk, hm⟩, PySem.W.mg_of X G n0, PySem.W.mg_of X G n1, PySem.W.mg_of X G m1, PySem.W.mg_of X G m2, PySem.W.mg_of X G m3, PySem.W.mg_of X G m4, ex, k1, k2, k3⟩
end
section
variable {X : Cx} {a C : Addr} {oe : Obj}
theorem c_isiE (kx : KEx X.K C) (hc : oe.cls = .ref C) : CallR (X.hand a oe) (.builtin "isinstance") (fun xs H Q => ∃ v u b, xs = [.ref a, v] ∧ RelV v u ∧ PySem.W.kitOne X.K (.ref C) u = some b ∧ (∀ u', RelV v u' → u' = u) ∧ Q (.bl b) H) := by
  intro pins s σ H xs us Q I r h
  obtain ⟨v, u, b, rfl, rv, kit, uq, q⟩ := h
  obtain ⟨u1, u2, rfl, r1, r2⟩ := vals2 r
  cases r1
  obtain rfl := uq _ r2
  have of : OfCls a C s.heap := ⟨oe, (I.pin (a, oe) (by simp)).1, hc⟩
  exact PySem.W.kia_one (kitx_exc kx) I.kIn of kit (fun z => nomatch z) fun tk => ⟨.bl _, H, I.tok _, rfl, q⟩
theorem c_isiT (kx : KEx X.K C) (hc : oe.cls = .ref C) : CallR (X.hand a oe) (.builtin "isinstance") (fun xs H Q => ∃ tp B1 B2 B3 B4, xs = [.ref a, .ref tp] ∧ SqT X.K H tp [.ref B1, .ref B2, .ref B3, .ref B4] ∧ PySem.W.kitAny X.K (.ref C) [.ref B1, .ref B2, .ref B3, .ref B4] = some false ∧ Q (.bl false) H) := by
  intro pins s σ H xs us Q I r h
  obtain ⟨tp, B1, B2, B3, B4, rfl, st, kit, q⟩ := h
  obtain ⟨u1, u2, rfl, r1, r2⟩ := vals2 r
  cases r1; cases r2
  obtain ⟨its, rv, ⟨o, e1, e2, m, e3⟩, _⟩ := I.tuple st
  cases rv with
  | cons z1 rv =>
  cases rv with
  | cons z2 rv =>
  cases rv with
  | cons z3 rv =>
  cases rv with
  | cons z4 rv =>
  cases rv
  cases z1; cases z2; cases z3; cases z4
  obtain ⟨oc, od, oda, os⟩ := o
  cases e2; cases e3
  have of : OfCls a C s.heap := ⟨oe, (I.pin (a, oe) (by simp)).1, hc⟩
  exact PySem.W.kia_tup (kitx_exc kx) I.kIn of e1 kit (fun z => nomatch z) fun tk => ⟨.bl _, H, I.tok _, rfl, q⟩
end
def sTry (g : DRx) (c : Str) (i r o : Nat) : DSx := fun env hp => (g env hp).bind fun z => if z.1 = c ∧ i < env.length then some ((.nx, (((env.set i .un).set r (.val (.bl true))).set o (.val (.bl false))).set i .un), z.2) else none
end D
namespace D
open PySem PySem.Spec PyProof.Rows L2
section
variable {X : Cx} {E : XK} {l : List Stmt} {g g' : DRx}
end
section
variable {X : Cx} {c sc a1 b1 b2 b3 b4 x n nr no : Str} {e : Expr} {es : List Expr} {fa : DAx} {p pos cpos epos hpos np p1 p2 p3 p4 p5 p6 p7 p8 p9 p10 p11 p12 p13 p14 p15 p16 p17 p18 p19 q1 q2 : Pos} {kt : Nat}
def RX (X : Cx) (e : Expr) (g : DRx) : Prop := RunsX X e (fun σ H _ E => ∃ Z env ρ B hp c hp', SOk X.K Z env σ ρ B hp H ∧ g env hp = some (c, hp') ∧ ∀ C ρ' B' H', ClsN X.K c C → Gr X.K ρ B H ρ' B' H' → WOk X.K ρ' B' hp' H' → E (.ref C) none H')
theorem RunsX.imp {X : Cx} {e : Expr} {T T' : St → Hp → VK → XK → Prop} (h : RunsX X e T) (k : ∀ σ H Q E, T' σ H Q E → T σ H Q E) : RunsX X e T' := fun pins σ H s Q E xe I q => h pins σ H s Q E xe I (k _ _ _ _ q)
theorem xx_meth {k j n : Nat} {G : List DV → Hs → Option (Str × Hs)} {pl : Sem Bool} {o : Expr} {fo : DEx} {m : Str} {apos : Pos} (h : HasRM X.prog X.w X.K X.mg X.base c m j n G) (hr : Room k X.A) (hj : j ≤ k) (ho : DE X.nox o fo) (ha : DA X.nox (e :: es) fa)
    (hst : starEach (e :: es) X.env = (false, eval e X.env) :: starEach es X.env := by rfl) (hpl : (backTo pos (starEach es X.env)).any (·.1) = false := by rfl)
    (ht : eval (.Call (.Attribute o m apos) (e :: es) [] pos) X.env = (do
      let ov ← eval o X.env
      standAt apos.atName
      let (f, first) ← holding [ov] (getMethod ov m pl)
      callWith pos f first (backTo pos (starEach (e :: es) X.env)) (backToKw pos (keywordEach [] X.env))) := by rfl) : RX X (.Call (.Attribute o m apos) (e :: es) [] pos) (gMeth c m n G fo fa) := by
  obtain ⟨C, g, fd, ps, nc, cl, hm, F', hb⟩ := h.ex
  refine RunsX.imp (rx_meth (pl := pl) ho cl hm F' (hr.mono hj) hb ha hst hpl ht) fun σ H Q E q => ?_
  obtain ⟨Z, env, ρ, B, hp, cc, hp', S, e, k⟩ := q
  obtain ⟨x, hp1, e1, e⟩ := gOf_some e
  obtain ⟨_, hp2, e2, e⟩ := gOf_some e
  obtain ⟨ds, hp3, e3, ef⟩ := gOf_some e
  split at ef
  · rename_i hl
    refine tD.run S e1 fun v ρ1 B1 H1 g1 S1 r1 => ?_
    obtain ⟨i, fs, rfl, w1, w2⟩ := onI_some e2
    obtain ⟨hn, rfl⟩ := guardM_some w2
    obtain ⟨a, rfl, _, ro⟩ := RepV.refW S1.wo r1 w1
    obtain ⟨C', dx, xs, nc', ea, rf⟩ := ro.ins
    obtain rfl := nc'.uniq nc
    have hx : xs.lookup m = none := by
      rcases rf.look m with ⟨_, z⟩ | ⟨_, _, z, _, _⟩
      · exact z
      · rw [z] at hn; cases hn
    refine ⟨a, dx, xs, rfl, ea, hx, tDA.run S1 e3 fun vs ρ2 B2 H2 g2 S2 r2 => ?_⟩
    refine ⟨?_, ρ2, B2, hp3, _, cc, hp', S2.wo, ?_, ef, fun C2 ρ3 B3 H3 nc3 g3 W3 => k C2 ρ3 B3 H3 nc3 ((g1.trans g2).trans g3) W3⟩
    · rw [List.append_nil, List.length_cons, ← r2.length]; exact hl
    · rw [List.append_nil]; exact RepL.cons (RepV.grow S1.wo.rb g2 _ _ r1) r2
  · cases ef
theorem ds_try (i r o : Nat) {b : Expr} {g : DRx} (h : RX X b g) (u : UY X.K X.mg c sc a1 b1 b2 b3 b4) (zi : X.mg "isinstance" = none) (zv : X.mg "ValueError" = none) (hN : X.N.Nodup)
    (hi : X.N[i]? = some n := by rfl) (hri : X.N[r]? = some nr := by rfl) (hoi : X.N[o]? = some no := by rfl) (hl : X.env.kindOf n = some .local := by rfl) (hlr : X.env.kindOf nr = some .local := by rfl) (hlo : X.env.kindOf no = some .local := by rfl)
    (ne1 : r ≠ i := by decide) (ne2 : o ≠ i := by decide) (hX : X.stack = X.env :: X.outer := by rfl) (hf : X.env.frame = some X.env.locals := by rfl)
    (g0 : Gl X sc := by rfl) (g1 : Gl X a1 := by rfl) (gv : Gl X "ValueError" := by rfl) (gi : Gl X "isinstance" := by rfl) (gb1 : Gl X b1 := by rfl) (gb2 : Gl X b2 := by rfl) (gb3 : Gl X b3 := by rfl) (gb4 : Gl X b4 := by rfl)
    (d1 : (sc == ("__debug__" : Str)) = false := by decide) (d2 : (a1 == ("__debug__" : Str)) = false := by decide) (d3 : (b1 == ("__debug__" : Str)) = false := by decide) (d4 : (b2 == ("__debug__" : Str)) = false := by decide) (d5 : (b3 == ("__debug__" : Str)) = false := by decide) (d6 : (b4 == ("__debug__" : Str)) = false := by decide) (d7 : (n == ("__debug__" : Str)) = false := by decide) (d8 : (n == ("__classdict__" : Str)) = false := by decide)
    (hsw : swapsWith b none epos.line X.env = pure false := by rfl)
    (hs1 : swapsWith (.BoolOp .And [.Call (.Name "isinstance" p1) [.Name n p2, .Name a1 p3] [] p4, .Call (.Name "isinstance" p5) [.Name n p6, .Name "ValueError" p7] [] p8] p9) (some (.Name nr p10)) p11.line X.env = pure false := by rfl)
    (hs2 : swapsWith (.Call (.Name "isinstance" p12) [.Name n p13, .Tuple [.Name b1 p14, .Name b2 p15, .Name b3 p16, .Name b4 p17] kt p18] [] p19) (some (.Name no hpos)) np.line X.env = pure false := by rfl) :
    DS X (.Try [.Expr b epos] [.ExceptHandler (some (.Name sc pos)) (some n) [.Assign [.Name nr p10] (.BoolOp .And [.Call (.Name "isinstance" p1) [.Name n p2, .Name a1 p3] [] p4, .Call (.Name "isinstance" p5) [.Name n p6, .Name "ValueError" p7] [] p8] p9) p11, .Assign [.Name no hpos] (.Call (.Name "isinstance" p12) [.Name n p13, .Tuple [.Name b1 p14, .Name b2 p15, .Name b3 p16, .Name b4 p17] kt p18] [] p19) np] q1] [] [] q2) (sTry g c i r o) := by
  obtain ⟨C, SC, A1, B1, B2, B3, B4, nc, kx, m0, m1, n1, n2, n3, n4, ex, k1, k2, k3⟩ := u.ex
  let tS : Addr → TS := fun a D σ H => σ[i]? = some (some (.ref a)) ∧ ∀ p, H p = none → D.nx ((σ.set r (some (.bl true))).set o (some (.bl false))) (upd H p (.tup [.ref B1, .ref B2, .ref B3, .ref B4]))
  have hS : ∀ a oe, oe.cls = .ref C → PSs (X.hand a oe) [.Assign [.Name nr p10] (.BoolOp .And [.Call (.Name "isinstance" p1) [.Name n p2, .Name a1 p3] [] p4, .Call (.Name "isinstance" p5) [.Name n p6, .Name "ValueError" p7] [] p8] p9) p11, .Assign [.Name no hpos] (.Call (.Name "isinstance" p12) [.Name n p13, .Tuple [.Name b1 p14, .Name b2 p15, .Name b3 p16, .Name b4 p17] kt p18] [] p19) np] (tS a) := fun a oe hc => by
    have v : ∀ {q : Pos}, PE (X.hand a oe) (.Name n q) (tVar i) := fun {q} => pe_var hi (.inl hl) d7 d8
    refine L2.PSs.imp (pss_cons (ps_set (i := r) hN hri (.inl hlr) (pe_and (pe_callB (c_isiE kx hc) gi zi boot_isinstance (pa_cons v (pa_cons (pe_glob g1 m1 (v := .ref A1) rfl d2) pa_nil)) (by decide) (by decide)) (pe_one (pe_callB (c_isiE kx hc) gi zi boot_isinstance (pa_cons v (pa_cons (pe_bltn (v := .ty "ValueError") gv zv PyProof.Rows.Boot.«ValueError» rfl) pa_nil)) (by decide) (by decide)))) hs1 (.inr hlr))
      (pss_one (ps_set (i := o) hN hoi (.inl hlo) (pe_callB (c_isiT kx hc) gi zi boot_isinstance (pa_cons v (pa_cons (pe_tup (pa_cons (pe_glob gb1 n1 (v := .ref B1) rfl d3) (pa_cons (pe_glob gb2 n2 (v := .ref B2) rfl d4) (pa_cons (pe_glob gb3 n3 (v := .ref B3) rfl d5) (pa_cons (pe_glob gb4 n4 (v := .ref B4) rfl d6) pa_nil))))) pa_nil)) (by decide) (by decide)) hs2 (.inr hlo)))) fun D σ H q => ?_
    obtain ⟨hσ, k⟩ := q
    refine ⟨.ref a, hσ, .ref A1, .ref A1, true, rfl, rfl, k1, fun _ h => h, true, rfl, iteT ⟨.ref a, hσ, .ty "ValueError", .type "ValueError", true, rfl, rfl, k2, fun _ h => h, ?_⟩⟩
    refine ⟨.ref a, by rw [List.getElem?_set_ne ne1]; exact hσ, show 4 ≤ sizeLine by decide, fun p hp => ⟨p, B1, B2, B3, B4, rfl, SqT.of upd_same, k3, k p hp⟩⟩
  refine L2.PS.imp (ps_try (tS := tS) h g0 m0 ex hN hi hl hX hf hS d1 hsw) fun D σ H q => ?_
  obtain ⟨Z, env, ρ, B, hp, fl, env', hp', S, e, k⟩ := q
  obtain ⟨⟨c', hp2⟩, e0, e9⟩ := Option.bind_eq_some_iff.mp e
  split at e9
  · rename_i hc
    obtain ⟨rfl, hil⟩ := hc
    cases e9
    refine ⟨Z, env, ρ, B, hp, _, _, S, e0, fun C' ρ2 B2' H2 nc2 g2 W2 => ⟨by rw [nc2.uniq nc], fun a ha => ⟨List.getElem?_set_self (by rw [S.len]; exact hil), fun p hp0 => ?_⟩⟩⟩
    have S3 := (S.grow g2 W2).grow (Gr.laid (o := .tup [.ref B1, .ref B2, .ref B3, .ref B4]) hp0) (W2.laid hp0)
    exact k _ ρ2 B2' _ ((g2.trans (Gr.laid hp0)).gs S.wo.rb) (((S3.un (i := i) (v := some (.ref a))).set (i := r) rep_bl).set (i := o) rep_bl).un
  · cases e9
end
end D
namespace D
open PySem PySem.Spec PyProof.Rows L2
section
variable {X : Cx}
def mulN : DV → DV → M DV
  | .lst [d], .int n => do guardM (decide (0 ≤ n ∧ n.toNat ≤ 100000)); allocW (.lst (List.replicate n.toNat d))
  | _, _ => failure
theorem p_mulN : P2 X (binaryOp .Mult) mulN := by
  intro pins s σ H x y v u Q I rx ry h
  obtain ⟨ρ, B, hp, dx, dy, d, hp', W, r1, r2, e, k⟩ := h
  unfold mulN at e
  split at e
  · rename_i d0 n
    obtain ⟨_, hp1, e1, e2⟩ := bind_some e
    obtain ⟨hs, rfl⟩ := guardM_some e1
    cases e2
    obtain ⟨h0, h1⟩ := of_decide_eq_true hs
    obtain ⟨l, vs, rfl, nb, sq, rl⟩ := r1.lstI
    obtain ⟨z, rfl, rz⟩ := rl.oneI
    refine thn (rd_mulL pins s σ H _ _ v u (fun v H' => KFree X.K H' → Q v H') I rx ry ⟨l, z, n, rfl, r2.intI, sq, h0, h1, fol_new W (repL_rep rz _) k⟩) fun v s' z => ?_
    obtain ⟨x, H', I', rx', q'⟩ := z
    exact ⟨x, H', I', rx', q' (Inv.kfree I')⟩
  · cases e
def best (is : List Int) : Int := is.getD (argBest (fun i j => decide (is.getD i 0 > is.getD j 0)) (is.length - 1)) 0
theorem argBest_le (bt : Nat → Nat → Bool) : ∀ n, argBest bt n ≤ n
  | 0 => Nat.le_refl _
  | n + 1 => by
    unfold argBest
    split
    · exact Nat.le_refl _
    · exact Nat.le_succ_of_le (argBest_le bt n)
theorem argBest_max (is : List Int) : ∀ n j, j ≤ n → is.getD j 0 ≤ is.getD (argBest (fun i j => decide (is.getD i 0 > is.getD j 0)) n) 0
  | 0, j, h => by obtain rfl : j = 0 := by omega
                  exact Int.le_refl _
  | n + 1, j, h => by
    unfold argBest
    split
    · rename_i q
      have q := of_decide_eq_true q
      by_cases e : j = n + 1
      · rw [e]; exact Int.le_refl _
      · have := argBest_max is n j (by omega)
        omega
    · rename_i q
      have q : ¬ (is.getD (n + 1) 0 > is.getD (argBest (fun i j => decide (is.getD i 0 > is.getD j 0)) n) 0) := fun z => q (decide_eq_true z)
      by_cases e : j = n + 1
      · subst e; omega
      · exact argBest_max is n j (by omega)
theorem best_ge {is : List Int} {x : Int} (h : x ∈ is) : x ≤ best is := by
  obtain ⟨j, hj, rfl⟩ := List.getElem_of_mem h
  have := argBest_max is (is.length - 1) j (by omega)
  rw [List.getD_eq_getElem?_getD, List.getElem?_eq_getElem hj] at this
  exact this
theorem best_mem {is : List Int} (h : is ≠ []) : best is ∈ is := by
  have hl : 0 < is.length := List.length_pos_iff.mpr h
  have := argBest_le (fun i j => decide (is.getD i 0 > is.getD j 0)) (is.length - 1)
  unfold best
  rw [List.getD_eq_getElem?_getD, List.getElem?_eq_getElem (by omega)]
  exact List.getElem_mem _
def inM : List DV → Option (List Int)
  | [] => some []
  | .int b :: r => (inM r).map (b :: ·)
  | _ => none
theorem inM_map : ∀ is : List Int, inM (is.map .int) = some is
  | [] => rfl
  | i :: r => by rw [List.map_cons, inM, inM_map r]; rfl
def maxW : List DV → M DV := one1 fun d => do
  let ds ← lsG d
  let is ← opM (inM ds)
  guardM (decide (is ≠ []))
  pure (.int (best is))
end
section
variable {prog : Program} {w : World} {A : Around} {E : Value → Shared → Prop} {s : Shared}
theorem call_max_ints {l : Addr} {items : Array Value} {is : List Int} {Q : Value → Shared → Prop} (hh : A.handled = none) (hl : s.heap.IsList l items) (hlen : items.size = is.length) (hne : is ≠ []) (hb : ∀ (i : Nat) (v : Value), items[i]? = some v → ∃ t, v = .int (is.getD i 0) t)
    (h : ∀ t h' tk, (∀ b o, s.heap.get? b = some o → h'.get? b = some o) → Q (.int (best is) t) { s with heap := h', toks := tk }) : wpAny (model prog w) A (call (.builtin "max") [.ref l]) Q E s := by
  refine call_max_walk (wpAny_pyIter_list hl ?_)
  have hlt : l < s.heap.objs.size := by obtain ⟨_, e, _⟩ := hl; exact Heap.lt_size e
  refine ⟨s.heap.objs.size, _, _, _, _, _, _, rfl, Walks.list (by exact hh) s.heap.objs.size l (Nat.ne_of_lt hlt) items, ⟨⟨_, Heap.get?_push_size _ rfl, rfl, rfl⟩, hl.push _⟩, fun b hb => ?_, by rw [hlen]; exact List.length_pos_iff.mpr hne, CmpOf.ints_gt (fun i => is.getD i 0) hb, fun v h' tk hP hk => ?_⟩
  · show b < (s.heap.push _).objs.size
    rw [Heap.size_push]
    rcases List.mem_cons.mp hb with rfl | hb
    · exact Nat.lt_succ_self _
    · rcases List.mem_cons.mp hb with rfl | hb
      · exact Nat.lt_succ_of_lt hlt
      · cases hb
  · rw [hlen] at hP
    obtain ⟨t, rfl⟩ := hb _ _ hP
    exact h t h' tk (old_kept hk)
end
section
variable {X : Cx}
theorem inM_rep {K : PySem.W.Frag} {ρ : List Addr} {B : Addr → Prop} {H : Hp} : ∀ {ds : List DV} {bs : List Int} {ys : List V} {its : List Value}, inM ds = some bs → RepL K ρ B H ds ys → Vals ys its → its.length = bs.length ∧ ∀ (i : Nat) (v : Value), its[i]? = some v → ∃ t, v = .int (bs.getD i 0) t := by
  intro ds
  induction ds with
  | nil =>
    intro bs ys its h r v
    cases h
    unfold RepL at r; subst r
    cases v
    exact ⟨rfl, fun i v h => by simp at h⟩
  | cons d ds ih =>
    intro bs ys its h r v
    unfold RepL at r
    obtain ⟨y, ys', rfl, r1, r2⟩ := r
    cases v with
    | @cons _ u _ us v1 v2 =>
    cases d <;> first | (simp [inM] at h; done) | skip
    rename_i b
    have h : (inM ds).map (b :: ·) = some bs := h
    obtain ⟨bs', h1, rfl⟩ := Option.map_eq_some_iff.mp h
    obtain ⟨a1, a2⟩ := ih h1 r2 v2
    unfold RepV at r1
    subst r1
    obtain ⟨t, rfl⟩ := v1
    refine ⟨by simp [a1], fun i v hv => ?_⟩
    cases i with
    | zero => cases hv; exact ⟨t, rfl⟩
    | succ i => exact a2 i v hv
theorem c_maxW (hc : X.calm = true) : CallR X (.builtin "max") (tPn X.K maxW) := by
  intro pins s σ H xs us Q I r h
  obtain ⟨ρ, B, hp, ds, d, hp', W, rl, e, k⟩ := h
  obtain ⟨x, rfl, e⟩ := one1_some e
  obtain ⟨zs, hp1, e1, e2⟩ := bind_some e
  obtain ⟨is, hp2, e3, e4⟩ := bind_some e2
  obtain ⟨e5, rfl⟩ := opM_some e3
  obtain ⟨_, hp3, e6, e7⟩ := bind_some e4
  obtain ⟨hn, rfl⟩ := guardM_some e6
  obtain ⟨rfl, rfl⟩ := pure_some e7
  obtain ⟨v, rfl, rv⟩ := rl.oneI
  obtain ⟨rfl, p, ys, rfl, sq, l⟩ := lsG_rep W rv e1
  obtain ⟨u, rfl, rx⟩ := vals1 r
  cases rx
  obtain ⟨its, r', pl, hz⟩ := I.list sq
  obtain ⟨a1, a2⟩ := inM_rep e5 l r'
  refine call_max_ints (is := is) (I.ok.hd hc) pl.isList (by simpa using a1) (of_decide_eq_true hn) (fun i v h => a2 i v (by simpa using h)) fun t h' tk kp => ?_
  exact ⟨.int (best is), H, I.kept (t' := tk) kp, ⟨t, rfl⟩, k _ ρ B H Gr.refl W rep_int⟩
end
end D
namespace D
open PySem PySem.Spec PyProof.Rows L2
def bitsOk (x : Int) : Prop := Builtin.Int.intBits x ≤ 1048576
instance (x : Int) : Decidable (bitsOk x) := inferInstanceAs (Decidable (_ ≤ _))
theorem bitsOk_le {x y : Int} (h : x.natAbs ≤ y.natAbs) (hy : bitsOk y) : bitsOk x := PySem.intBits_le_of_natAbs h hy
section
variable {X : Cx}
def cMulB (i j : Int) : Bool := decide (bitsOk i ∧ bitsOk j)
def mulB : DV → DV → M DV := int2 cMulB fun i j => .int (i * j)
theorem op_mulB : OpR X (binaryOp .Mult) (rI (fun i j => bitsOk i ∧ bitsOk j) fun i j => .int (i * j)) := opI fun _ _ _ _ _ _ _ hc q => mul_int q (.of_bits hc.1 hc.2)
theorem p_mulB : P2 X (binaryOp .Mult) mulB := p2_int op_mulB fun i j h => of_decide_eq_true h
end
theorem weight_mem : ∀ (ns : List Int) (x : Int), x ∈ ns → Builtin.Int.intBits x ≤ PySem.W.WData.weightAll (ns.map PySem.W.WData.int)
  | n :: r, x, h => by
    rw [List.map_cons]
    unfold PySem.W.WData.weightAll
    rcases List.mem_cons.mp h with rfl | h
    · exact Nat.le_trans (Nat.le_of_eq (show Builtin.Int.intBits x = PySem.W.WData.weight (.int x) by unfold PySem.W.WData.weight; rfl)) (by omega)
    · have := weight_mem r x h
      omega
theorem bits_of {ns : List Int} (h : PySem.W.WData.layableAll [PySem.W.WData.list (ns.map PySem.W.WData.int)] = true) : ∀ x ∈ ns, bitsOk x := fun x hx => by
  have h1 : PySem.W.WData.layable (.list (ns.map PySem.W.WData.int)) = true := by
    unfold PySem.W.WData.layableAll at h
    simpa using h
  unfold PySem.W.WData.layable at h1
  have h2 := of_decide_eq_true (Bool.and_eq_true_iff.mp h1).2
  unfold PySem.W.WData.weight at h2
  exact Nat.le_trans (weight_mem ns x hx) h2
end D
namespace L2
open PySem PySem.Spec PyProof.Rows PySem.W
theorem walk_ofB {l : PySem.W.OpenLaw} {n k : Nat} {q : Program} {loose : List Str} {XP : (Str → Option Value) → Heap → Prop} {YP : World → Heap → Prop} {d : DefRec} {K : Params → PySem.W.Frag} {CX : World → CXT} {sp : World → Sp} {x : Str}
    (hn : l.most = some n) (hn2 : n ≤ sizeLine) (hdf : d.params.defaults = []) (hr : Room k callerA)
    (hY : ∀ (w : World) (h : Heap), YP w h → (K w.params).In h)
    (F : ∀ (w : World) (mg : Str → Option Value) (fa : Addr) (h : Heap), (K w.params).In h → h.Ns mainGlobals mg → mg d.name = some (.ref fa) →
      ∃ fd : FuncData, (∀ (s : Shared) (u : Value), BindsTo s fd ⟨[u], []⟩ [(x, u)]) ∧
        ∀ base : Heap, (K w.params).In base → base.Ns mainGlobals mg → FnOk l.prog w (K w.params) mg base (CX w) k fa fd [x] (sp w))
    (hsp : ∀ (w : World) (H : Hp) (a : Addr) (ns : List Int), ns.length ≤ n → (∀ x ∈ ns, D.bitsOk x) → Only H → SqL (K w.params) H a (ns.map V.int) → sp w [.ref a] H (fun v _ => v = .bl true) fun _ _ _ => False)
    (hCX : ∀ (w : World) (H : Hp) (s : Shared) (e : Value) (s' : Shared), CX w [] H s (fun _ _ _ => False) e s' → False) :
    PySem.W.WalkO q loose XP YP l.row.toRowW d [] (fun f vs => PySem.call f vs) := by
  intro w s₀ s₁ mg mb G Y fa o pm cd doc dV kV ho hd hcd hD hmg hg args vals as hpre hlay hrd hwl hlo
  obtain rfl : dV = .none := Dflts.none hD hdf
  obtain rfl : kV = .none := Dflts.noKw hD
  obtain ⟨a, vs, ns, rfl, rfl, hobj, hints, hlen⟩ := Att.script_of hn hpre hwl
  have KX := hY w _ Y
  obtain ⟨fd, hb, hF⟩ := F w mg fa _ KX G.T.g hmg
  refine enter_call (codeAny_mono (law_call KX G.T.g G.T.b G.T.builtins G.T.nolimit hg hobj hints (Nat.le_trans hlen hn2) hr hF hb (fun H hO hS => hsp w H a ns hlen (D.bits_of hlay) hO hS) fun H e s' => hCX w H s₁ e s') fun r s' hq => ?_)
  obtain ⟨rfl, h2, h3, h4⟩ := hq
  exact ⟨.inl ⟨.bool true, .bool true, [], rfl, fun _ => rfl, .bool true, Att.post_true l _, fun _ => ⟨List.Pairwise.nil, fun _ hm => (nomatch hm)⟩⟩, h2, h3, h4⟩
end L2
namespace K31
open PySem PySem.Spec PyProof.Rows L2 D
def top (i : Nat) : Stmt := PySem.Challenge.pw_sidelink_k31_hands_and_no_hand.main.body.getD i (.Pass ⟨0, 0, 0, 0⟩)
abbrev s_Weaver_idle : Stmt := inClass (top 30) 8
def C_Weaver_idle_1 : DEx := eCompX false (xLs (eFld "Weaver" "held" (eVar 0))) [] (tAll) (eBin isD (eVar 0) (eC .non))
def b_Weaver_idle : DSx := sRet (eAndV (eBin eqG (eFld "Weaver" "taken" (eVar 0)) (eBlt lenG (aCons (eFld "Weaver" "deeds" (eVar 0)) (aNil)))) (eBlt allF (aCons (C_Weaver_idle_1) (aNil))))
def F_Weaver_idle : List DV → M DV := runF 1 b_Weaver_idle
abbrev s_Walk___init__ : Stmt := inClass (top 28) 0
def b_Walk___init__ : DSx := sSeq (sFldD "Walk" "shelf" (eVar 0) (eVar 1)) (sSeq (sFldD "Walk" "deed" (eVar 0) (eVar 2)) (sSeq (sFldD "Walk" "aim" (eVar 0) (eBin ixG (eVar 2) (eC (.int 1)))) (sSeq (sFldD "Walk" "goal" (eVar 0) (eC (.int 0))) (sSeq (sFldD "Walk" "place" (eVar 0) (eC .non)) (sSeq (sFldD "Walk" "forks" (eVar 0) (eNewD0)) (sSeq (sFldD "Walk" "new_page" (eVar 0) (eC .non)) (sSeq (sFldD "Walk" "worth" (eVar 0) (eC .non)) (sSeq (sFldD "Walk" "pairs" (eVar 0) (eNewL (aNil))) (sFldD "Walk" "ended" (eVar 0) (eC (.bl false)))))))))))
def F_Walk___init__ : List DV → M DV := runF 3 b_Walk___init__
abbrev s_Weaver_take_deed : Stmt := inClass (top 30) 3
def b_Weaver_take_deed : DSx := sSeq (sSet 2 (eFld "Weaver" "taken" (eVar 0))) (sSeq (sAsg (eTup (aCons (eVar 2) (aCons (eMake "Walk" 3 F_Walk___init__ (aCons (eFld "Weaver" "shelf" (eVar 0)) (aCons (eBin ixG (eFld "Weaver" "deeds" (eVar 0)) (eVar 2)) (aNil)))) (aNil)))) (gSb (eFld "Weaver" "held" (eVar 0)) (eVar 1))) (sSeq (sFldA "Weaver" "taken" addI (eVar 0) (eC (.int 1))) (sRet (eTup (aCons (eC (.str "take")) (aCons (eVar 1) (aCons (eVar 2) (aNil))))))))
def F_Weaver_take_deed : List DV → M DV := runF 3 b_Weaver_take_deed
abbrev s_Walk_over : Stmt := inClass (top 28) 1
def b_Walk_over : DSx := sRet (eFld "Walk" "ended" (eVar 0))
def F_Walk_over : List DV → M DV := runF 1 b_Walk_over
abbrev s_count_not_above : Stmt := top 23
def C_count_not_above_1 : DEx := eCompX false (xOf (iTp (eVar 0))) [1] (eB (eBin leD (eVar 0) (eVar 1))) (eVar 0)
def b_count_not_above : DSx := sRet (eBlt lenG (aCons (C_count_not_above_1) (aNil)))
def F_count_not_above : List DV → M DV := runF 2 b_count_not_above
abbrev s_count_below : Stmt := top 22
def C_count_below_1 : DEx := eCompX false (xOf (iTp (eVar 0))) [1] (eB (eBin ltD (eVar 0) (eVar 1))) (eVar 0)
def b_count_below : DSx := sRet (eBlt lenG (aCons (C_count_below_1) (aNil)))
def F_count_below : List DV → M DV := runF 2 b_count_below
abbrev s_worth_of : Stmt := top 16
def b_worth_of : DSx := sSeq (sSet 2 (eBin ixD (eVar 0) (eC (.int 1)))) (sSeq (sSet 3 (eCall 2 F_count_below (aCons (eVar 2) (aCons (eVar 1) (aNil))))) (sSeq (sIf (eB (eBin eqD (eVar 3) (eCall 2 F_count_not_above (aCons (eVar 2) (aCons (eVar 1) (aNil)))))) (sRet (eC .non)) (sNil)) (sRet (eBin ixD (eBin ixD (eVar 0) (eC (.int 2))) (eVar 3)))))
def F_worth_of : List DV → M DV := runF 4 b_worth_of
abbrev s_Walk_find_worth : Stmt := inClass (top 28) 6
def b_Walk_find_worth : DSx := sSeq (sFldD "Walk" "worth" (eVar 0) (eCall 2 F_worth_of (aCons (eVar 2) (aCons (eFld "Walk" "aim" (eVar 0)) (aNil))))) (sSeq (sFldD "Walk" "ended" (eVar 0) (eC (.bl true))) (sRet (eTup (aCons (eC (.str "found")) (aCons (eVar 1) (aCons (eFld "Walk" "worth" (eVar 0)) (aNil)))))))
def F_Walk_find_worth : List DV → M DV := runF 3 b_Walk_find_worth
abbrev s_Walk_do_deed : Stmt := inClass (top 28) 5
def b_Walk_do_deed : DSx := sSeq (sSet 3 (eBin ixG (eFld "Walk" "deed" (eVar 0)) (eC (.int 0)))) (sSeq (sIf (eB (eBin eqG (eVar 3) (eC (.str "find")))) (sRet (eMeth "Walk" "find_worth" 3 F_Walk_find_worth (eVar 0) (aCons (eVar 1) (aCons (eVar 2) (aNil))))) (sNil)) (sSeq (sIf (eB (eBin eqG (eVar 3) (eC (.str "put")))) (sFail) (sNil)) (sSeq (sIf (eB (eBin eqG (eVar 3) (eC (.str "cut")))) (sFail) (sNil)) (sFail))))
def F_Walk_do_deed : List DV → M DV := runF 4 b_Walk_do_deed
abbrev s_beyond : Stmt := top 14
def b_beyond : DSx := sSeq (sSet 2 (eBin ixD (eVar 0) (eC (.int 3)))) (sRet (eAndV (eBin isnD (eVar 2) (eC .non)) (eBin geD (eVar 1) (eVar 2))))
def F_beyond : List DV → M DV := runF 3 b_beyond
abbrev s_Shelf_check_number : Stmt := inClass (top 33) 12
def b_Shelf_check_number : DSx := sIf (eNot (eB (eChain leD ltD (eC (.int 0)) (eVar 1) (eBlt lenG (aCons (eFld "Shelf" "kept" (eVar 0)) (aNil)))))) (sFail) (sNil)
def F_Shelf_check_number : List DV → M DV := runF 2 b_Shelf_check_number
abbrev s_Shelf_read : Stmt := inClass (top 33) 1
def b_Shelf_read : DSx := sSeq (sDrop (eMeth "Shelf" "check_number" 2 F_Shelf_check_number (eVar 0) (aCons (eVar 1) (aNil)))) (sSeq (sFldA "Shelf" "read_count" addI (eVar 0) (eC (.int 1))) (sRet (eBin ixG (eFld "Shelf" "kept" (eVar 0)) (eVar 1))))
def F_Shelf_read : List DV → M DV := runF 2 b_Shelf_read
abbrev s_Shelf_root : Stmt := inClass (top 33) 4
def b_Shelf_root : DSx := sRet (eFld "Shelf" "top" (eVar 0))
def F_Shelf_root : List DV → M DV := runF 1 b_Shelf_root
abbrev s_Walk_step : Stmt := inClass (top 28) 3
def b_Walk_step : DSx := sSeq (sIf (eB (eFld "Walk" "ended" (eVar 0))) (sFail) (sNil)) (sSeq (sSet 1 (eIf (eB (eBin isD (eFld "Walk" "place" (eVar 0)) (eC .non))) (eMeth "Shelf" "root" 1 F_Shelf_root (eFld "Walk" "shelf" (eVar 0)) aNil) (eFld "Walk" "place" (eVar 0)))) (sSeq (sSet 2 (eMeth "Shelf" "read" 2 F_Shelf_read (eFld "Walk" "shelf" (eVar 0)) (aCons (eVar 1) (aNil)))) (sSeq (sIf (eAnd (eB (eBin isD (eFld "Walk" "place" (eVar 0)) (eC .non))) (eB (eBin ltD (eBin ixG (eVar 2) (eC (.int 0))) (eFld "Walk" "goal" (eVar 0))))) (sFail) (sNil)) (sSeq (sIf (eB (eCall 2 F_beyond (aCons (eVar 2) (aCons (eFld "Walk" "aim" (eVar 0)) (aNil))))) (sFail) (sNil)) (sSeq (sIf (eB (eBin gtD (eBin ixG (eVar 2) (eC (.int 0))) (eFld "Walk" "goal" (eVar 0)))) (sSeq (sFail) (sFail)) (sNil)) (sSeq (sIf (eB (eBin gtD (eFld "Walk" "goal" (eVar 0)) (eC (.int 0)))) (sFail) (sNil)) (sRet (eMeth "Walk" "do_deed" 3 F_Walk_do_deed (eVar 0) (aCons (eVar 1) (aCons (eVar 2) (aNil)))))))))))
def F_Walk_step : List DV → M DV := runF 3 b_Walk_step
abbrev s_Weaver_step_walk : Stmt := inClass (top 30) 4
def b_Weaver_step_walk : DSx := sSeq (sSet 2 (eBin ixG (eFld "Weaver" "held" (eVar 0)) (eVar 1))) (sSeq (sSet 3 (eBin ixG (eVar 2) (eC (.int 1)))) (sSeq (sSet 4 (eMeth "Walk" "step" 1 F_Walk_step (eVar 3) aNil)) (sSeq (sIf (eB (eMeth "Walk" "over" 1 F_Walk_over (eVar 3) aNil)) (sSeq (sAsg (eC .non) (gSb (eFld "Weaver" "held" (eVar 0)) (eVar 1))) (sDrop (eMth "list" mAppend (eFld "Weaver" "done" (eVar 0)) (aCons (eVar 2) (aNil))))) (sNil)) (sRet (eBin addD (eTup (aCons (eBin ixG (eVar 4) (eC (.int 0))) (aCons (eVar 1) (aCons (eBin ixG (eVar 2) (eC (.int 0))) (aNil))))) (eSl (eVar 4) (oSome (eC (.int 1))) (oNone)))))))
def F_Weaver_step_walk : List DV → M DV := runF 5 b_Weaver_step_walk
abbrev s_Weaver_move : Stmt := inClass (top 30) 2
def b_Weaver_move : DSx := sSeq (sIf (eNot (eB (eChain leD ltD (eC (.int 0)) (eVar 1) (eBlt lenG (aCons (eFld "Weaver" "held" (eVar 0)) (aNil)))))) (sFail) (sNil)) (sSeq (sIf (eB (eBin isnD (eBin ixG (eFld "Weaver" "held" (eVar 0)) (eVar 1)) (eC .non))) (sRet (eMeth "Weaver" "step_walk" 2 F_Weaver_step_walk (eVar 0) (aCons (eVar 1) (aNil)))) (sNil)) (sSeq (sIf (eB (eBin ltD (eFld "Weaver" "taken" (eVar 0)) (eBlt lenG (aCons (eFld "Weaver" "deeds" (eVar 0)) (aNil))))) (sRet (eMeth "Weaver" "take_deed" 2 F_Weaver_take_deed (eVar 0) (aCons (eVar 1) (aNil)))) (sNil)) (sRet (eTup (aCons (eC (.str "rest")) (aCons (eVar 1) (aNil)))))))
def F_Weaver_move : List DV → M DV := runF 2 b_Weaver_move
def G_Weaver_move : List DV → Hs → Option (Str × Hs) := runR 2 (gIf (eNot (eB (eChain leD ltD (eC (.int 0)) (eVar 1) (eBlt lenG (aCons (eFld "Weaver" "held" (eVar 0)) (aNil)))))) (gRaise "NoHand") (gNo))
abbrev s_law_whole : Stmt := top 39
def b_law_whole : DSx := sRet (eAndV (eIsi "int" (eVar 0)) (eNotV (eIsi "bool" (eVar 0))))
def F_law_whole : List DV → M DV := runF 1 b_law_whole
abbrev s_law_same : Stmt := top 40
def l_law_same_1 (self : List DV → M DV) : DSx := sIf (eNot (eB (eCall 2 self (aCons (eVar 2) (aCons (eVar 3) (aNil)))))) (sRet (eC (.bl false))) (sNil)
def L_law_same_1 (self : List DV → M DV) : DSx := sFor (iZip (eVar 0) (eVar 1)) (gT [2, 3]) (l_law_same_1 self)
def b_law_same (self : List DV → M DV) : DSx := sSeq (sIf (eOr (eB (eIsi "tuple" (eVar 1))) (eB (eIsi "list" (eVar 1)))) (sSeq (sIf (eOr (eB (eBin neD (eIsi "tuple" (eVar 0)) (eIsi "tuple" (eVar 1)))) (eB (eBin neD (eIsi "list" (eVar 0)) (eIsi "list" (eVar 1))))) (sRet (eC (.bl false))) (sNil)) (sSeq (sIf (eB (eBin neD (eBlt lenF (aCons (eVar 0) (aNil))) (eBlt lenF (aCons (eVar 1) (aNil))))) (sRet (eC (.bl false))) (sNil)) (sSeq (L_law_same_1 self) (sRet (eC (.bl true)))))) (sNil)) (sSeq (sIf (eB (eBin isD (eVar 1) (eC .non))) (sRet (eBin isD (eVar 0) (eC .non))) (sNil)) (sSeq (sIf (eB (eIsi "str" (eVar 1))) (sRet (eAndV (eIsi "str" (eVar 0)) (eBin eqD (eVar 0) (eVar 1)))) (sNil)) (sRet (eAndV (eCall 1 F_law_whole (aCons (eVar 0) (aNil))) (eBin eqD (eVar 0) (eVar 1))))))
def F_law_same : Nat → List DV → M DV
  | 0 => fun _ => failure
  | n + 1 => runF 4 (b_law_same (F_law_same n))
abbrev s_law_refused : Stmt := top 41
def b_law_refused : DSx := sSeq (sSet 2 (eC (.bl false))) (sSeq (sSet 3 (eC (.bl false))) (sSeq (sTry (gMeth "Weaver" "move" 2 G_Weaver_move (eVar 0) (aCons (eVar 1) (aNil))) "NoHand" 4 2 3) (sRet (eAndV (eVar 2) (eNotV (eVar 3))))))
def F_law_refused : List DV → M DV := runF 5 b_law_refused
abbrev s_Weaver_hand_in : Stmt := inClass (top 30) 1
def b_Weaver_hand_in : DSx := sSeq (sDrop (eMth "list" mAppend (eFld "Weaver" "deeds" (eVar 0)) (aCons (eVar 1) (aNil)))) (sRet (eBin subD (eBlt lenG (aCons (eFld "Weaver" "deeds" (eVar 0)) (aNil))) (eC (.int 1))))
def F_Weaver_hand_in : List DV → M DV := runF 2 b_Weaver_hand_in
abbrev s_law_key : Stmt := top 36
def b_law_key : DSx := sSeq (sSet 1 (eBin divD (eVar 0) (eC (.int 6)))) (sSeq (sIf (eB (eBin eqD (eBin modD (eVar 0) (eC (.int 6))) (eC (.int 0)))) (sRet (eBin subD (eBin modD (eBin mulB (eVar 1) (eBin powD (eC (.int 1000000007)) (eC (.int 3)))) (eBin addD (eBin mulD (eC (.int 2)) (eBin powD (eC (.int 10)) (eC (.int 30)))) (eC (.int 1)))) (eBin powD (eC (.int 10)) (eC (.int 30))))) (sNil)) (sSeq (sIf (eB (eBin eqD (eBin modD (eVar 0) (eC (.int 6))) (eC (.int 1)))) (sRet (eBin ixD (eLst (aCons (eBin powD (eC (.int 10)) (eC (.int 30))) (aCons (eNeg (eBin powD (eC (.int 10)) (eC (.int 30)))) (aCons (eBin subD (eBin powD (eC (.int 10)) (eC (.int 30))) (eC (.int 1))) (aCons (eBin subD (eC (.int 1)) (eBin powD (eC (.int 10)) (eC (.int 30)))) (aNil)))))) (eBin modD (eVar 1) (eC (.int 4))))) (sNil)) (sRet (eBin subD (eBin modD (eVar 1) (eC (.int 17))) (eC (.int 5))))))
def F_law_key : List DV → M DV := runF 2 b_law_key
abbrev s_Weaver___init__ : Stmt := inClass (top 30) 0
def b_Weaver___init__ : DSx := sSeq (sFldD "Weaver" "shelf" (eVar 0) (eVar 1)) (sSeq (sFldD "Weaver" "deeds" (eVar 0) (eNewL (aNil))) (sSeq (sFldD "Weaver" "taken" (eVar 0) (eC (.int 0))) (sSeq (sFldD "Weaver" "held" (eVar 0) (eBin mulN (eLst (aCons (eC .non) (aNil))) (eVar 2))) (sFldD "Weaver" "done" (eVar 0) (eNewL (aNil))))))
def F_Weaver___init__ : List DV → M DV := runF 3 b_Weaver___init__
abbrev s_Shelf___init__ : Stmt := inClass (top 33) 0
def b_Shelf___init__ : DSx := sSeq (sFldD "Shelf" "page_room" (eVar 0) (eVar 1)) (sSeq (sFldD "Shelf" "kept" (eVar 0) (eNewL (aCons (eC (.tup [.int 0, .tup [], .tup [], .non, .non])) (aNil)))) (sSeq (sFldD "Shelf" "top" (eVar 0) (eC (.int 0))) (sSeq (sFldD "Shelf" "read_count" (eVar 0) (eC (.int 0))) (sFldD "Shelf" "write_count" (eVar 0) (eC (.int 0))))))
def F_Shelf___init__ : List DV → M DV := runF 2 b_Shelf___init__
abbrev s_law_cell_at : Stmt := top 35
def b_law_cell_at : DSx := sSeq (sIf (eB (eBin ltD (eVar 1) (eBlt lenF (aCons (eVar 0) (aNil))))) (sRet (eBin ixD (eVar 0) (eVar 1))) (sNil)) (sRet (eC (.int 0)))
def F_law_cell_at : List DV → M DV := runF 2 b_law_cell_at
abbrev s_law : Stmt := top 42
def l_law_1 : DSx := sSeq (sIf (eB (eBin eqG (eBin modD (eVar 1) (eC (.int 3))) (eC (.int 0)))) (sSeq (sIf (eNot (eB (eCall 2 (F_law_same 6) (aCons (eMeth "Weaver" "hand_in" 2 F_Weaver_hand_in (eVar 3) (aCons (eTup (aCons (eC (.str "find")) (aCons (eCall 1 F_law_key (aCons (eBin divD (eVar 1) (eC (.int 3))) (aNil))) (aNil)))) (aNil))) (aCons (eVar 4) (aNil)))))) (sRet (eC (.bl false))) (sNil)) (sAug 4 addI (eC (.int 1)))) (sNil)) (sSeq (sIf (eB (eBin eqG (eBin modD (eBin divD (eVar 1) (eC (.int 3))) (eC (.int 4))) (eC (.int 1)))) (sSeq (sSet 10 (eLst (aCons (eBin subD (eNeg (eC (.int 1))) (eBin modD (eBin divD (eVar 1) (eC (.int 24))) (eBin powD (eC (.int 10)) (eC (.int 60))))) (aCons (eBin addD (eVar 2) (eBin modD (eBin divD (eVar 1) (eC (.int 24))) (eBin powD (eC (.int 10)) (eC (.int 60))))) (aCons (eVar 2) (aCons (eNeg (eC (.int 1))) (aNil))))))) (sIf (eNot (eB (eCall 2 F_law_refused (aCons (eVar 3) (aCons (eBin ixG (eVar 10) (eBin modD (eBin divD (eVar 1) (eC (.int 12))) (eC (.int 4)))) (aNil)))))) (sRet (eC (.bl false))) (sNil))) (sNil)) (sSeq (sSet 7 (eBin modD (eBin divD (eVar 1) (eC (.int 5))) (eVar 2))) (sSeq (sSet 8 (eTup (aCons (eC (.str "rest")) (aCons (eVar 7) (aNil))))) (sSeq (sIf (eB (eBin geD (eBin ixG (eVar 6) (eVar 7)) (eC (.int 0)))) (sSeq (sSet 8 (eTup (aCons (eC (.str "found")) (aCons (eVar 7) (aCons (eBin ixG (eVar 6) (eVar 7)) (aCons (eC (.int 0)) (aCons (eC .non) (aNil)))))))) (sAsg (eNeg (eC (.int 1))) (gSb (eVar 6) (eVar 7)))) (sIf (eB (eBin ltD (eVar 5) (eVar 4))) (sSeq (sSet 8 (eTup (aCons (eC (.str "take")) (aCons (eVar 7) (aCons (eVar 5) (aNil)))))) (sSeq (sAsg (eVar 5) (gSb (eVar 6) (eVar 7))) (sAug 5 addI (eC (.int 1))))) (sNil))) (sSeq (sIf (eNot (eB (eCall 2 (F_law_same 6) (aCons (eMeth "Weaver" "move" 2 F_Weaver_move (eVar 3) (aCons (eVar 7) (aNil))) (aCons (eVar 8) (aNil)))))) (sRet (eC (.bl false))) (sNil)) (sSeq (sSet 9 (eAndV (eBin eqG (eVar 5) (eVar 4)) (eBin ltD (eBlt maxW (aCons (eVar 6) (aNil))) (eC (.int 0))))) (sIf (eOr (eNot (eB (eIsi "bool" (eMeth "Weaver" "idle" 1 F_Weaver_idle (eVar 3) aNil)))) (eB (eBin neG (eMeth "Weaver" "idle" 1 F_Weaver_idle (eVar 3) aNil) (eVar 9)))) (sRet (eC (.bl false))) (sNil))))))))
def L_law_1 : DSx := sForX (xLs (eVar 0)) (gN 1) (l_law_1)
def C_law_1 : DEx := eCompX true (xOf (iRg1 (aCons (eVar 2) (aNil)))) [] (tAll) (eNeg (eC (.int 1)))
def b_law : DSx := sSeq (sSet 1 (eCall 2 F_law_cell_at (aCons (eVar 0) (aCons (eC (.int 0)) (aNil))))) (sSeq (sSet 2 (eBin addD (eC (.int 1)) (eBin modD (eVar 1) (eC (.int 8))))) (sSeq (sSet 3 (eMake "Weaver" 3 F_Weaver___init__ (aCons (eMake "Shelf" 2 F_Shelf___init__ (aCons (eBin addD (eC (.int 2)) (eBin modD (eBin divD (eVar 1) (eC (.int 8))) (eC (.int 7)))) (aNil))) (aCons (eVar 2) (aNil))))) (sSeq (sSet 4 (eC (.int 0))) (sSeq (sSet 5 (eC (.int 0))) (sSeq (sSet 6 (C_law_1)) (sSeq (L_law_1) (sRet (eC (.bl true)))))))))
def F_law : List DV → M DV := runF 11 b_law
structure Al (K : PySem.W.Frag) (mg : Str → Option Value) : Prop where
  z0 : mg "len" = none
  z1 : mg "all" = none
  z2 : mg "isinstance" = none
  z3 : mg "int" = none
  z4 : mg "bool" = none
  z5 : mg "str" = none
  z6 : mg "tuple" = none
  z7 : mg "list" = none
  z8 : mg "zip" = none
  z9 : mg "ValueError" = none
  z10 : mg "max" = none
  z11 : mg "range" = none
  g0 : UG mg "PARTS" 2
  g1 : UG mg "KEYS" 1
  g2 : UG mg "HIGH" 3
  g3 : UG mg "LEVEL" 0
  t0 : UT K mg "EMPTY_LEAF" (.tup [.int 0, .tup [], .tup [], .non, .non])
  k0 : FldK K "Weaver" "taken"
  k1 : FldK K "Weaver" "deeds"
  k2 : FldK K "Weaver" "held"
  k3 : FldK K "Walk" "ended"
  k4 : FldK K "Walk" "pairs"
  k5 : FldK K "Walk" "worth"
  k6 : FldK K "Walk" "new_page"
  k7 : FldK K "Walk" "forks"
  k8 : FldK K "Walk" "place"
  k9 : FldK K "Walk" "goal"
  k10 : FldK K "Walk" "aim"
  k11 : FldK K "Walk" "deed"
  k12 : FldK K "Walk" "shelf"
  k13 : FldK K "Weaver" "shelf"
  k14 : FldK K "Shelf" "kept"
  k15 : FldK K "Shelf" "read_count"
  k16 : FldK K "Shelf" "top"
  k17 : FldK K "Weaver" "done"
  k18 : FldK K "Shelf" "write_count"
  k19 : FldK K "Shelf" "page_room"
  u0 : UM K "Weaver" "idle" "Weaver.idle" s_Weaver_idle
  u1 : UI K mg "Walk" "Walk.__init__" s_Walk___init__
  u2 : UM K "Weaver" "take_deed" "Weaver.take_deed" s_Weaver_take_deed
  u3 : UM K "Walk" "over" "Walk.over" s_Walk_over
  u4 : UF K mg "count_not_above" s_count_not_above
  u5 : UF K mg "count_below" s_count_below
  u6 : UF K mg "worth_of" s_worth_of
  u7 : UM K "Walk" "find_worth" "Walk.find_worth" s_Walk_find_worth
  u8 : UM K "Walk" "do_deed" "Walk.do_deed" s_Walk_do_deed
  u9 : UF K mg "beyond" s_beyond
  u10 : UM K "Shelf" "check_number" "Shelf.check_number" s_Shelf_check_number
  u11 : UM K "Shelf" "read" "Shelf.read" s_Shelf_read
  u12 : UM K "Shelf" "root" "Shelf.root" s_Shelf_root
  u13 : UM K "Walk" "step" "Walk.step" s_Walk_step
  u14 : UM K "Weaver" "step_walk" "Weaver.step_walk" s_Weaver_step_walk
  u15 : UM K "Weaver" "move" "Weaver.move" s_Weaver_move
  u16 : UF K mg "_law_whole" s_law_whole
  u17 : UF K mg "_law_same" s_law_same
  u18 : UF K mg "_law_refused" s_law_refused
  u19 : UM K "Weaver" "hand_in" "Weaver.hand_in" s_Weaver_hand_in
  u20 : UF K mg "_law_key" s_law_key
  u21 : UI K mg "Weaver" "Weaver.__init__" s_Weaver___init__
  u22 : UI K mg "Shelf" "Shelf.__init__" s_Shelf___init__
  u23 : UF K mg "_law_cell_at" s_law_cell_at
  x0 : UX K mg "NoHand"
  y0 : UY K mg "NoHand" "NoHand" "SideError" "Busy" "NoDeed" "NoPage" "NoRow"
theorem sc_Weaver_idle : FnScope ["self"] ["self"] (defScope s_Weaver_idle) := sc_of (by decide +kernel)
theorem sc_Walk___init__ : FnScope ["self", "shelf", "deed"] ["self", "shelf", "deed"] (defScope s_Walk___init__) := sc_of (by decide +kernel)
theorem sc_Weaver_take_deed : FnScope ["self", "hand", "number"] ["self", "hand"] (defScope s_Weaver_take_deed) := sc_of (by decide +kernel)
theorem sc_Walk_over : FnScope ["self"] ["self"] (defScope s_Walk_over) := sc_of (by decide +kernel)
theorem sc_count_not_above : FnScope ["keys", "key"] ["keys", "key"] (defScope s_count_not_above) := sc_of (by decide +kernel)
theorem sc_count_below : FnScope ["keys", "key"] ["keys", "key"] (defScope s_count_below) := sc_of (by decide +kernel)
theorem sc_worth_of : FnScope ["page", "key", "keys", "place"] ["page", "key"] (defScope s_worth_of) := sc_of (by decide +kernel)
theorem sc_Walk_find_worth : FnScope ["self", "number", "leaf"] ["self", "number", "leaf"] (defScope s_Walk_find_worth) := sc_of (by decide +kernel)
theorem sc_Walk_do_deed : FnScope ["self", "number", "leaf", "word"] ["self", "number", "leaf"] (defScope s_Walk_do_deed) := sc_of (by decide +kernel)
theorem sc_beyond : FnScope ["page", "key", "high"] ["page", "key"] (defScope s_beyond) := sc_of (by decide +kernel)
theorem sc_Shelf_check_number : FnScope ["self", "number"] ["self", "number"] (defScope s_Shelf_check_number) := sc_of (by decide +kernel)
theorem sc_Shelf_read : FnScope ["self", "number"] ["self", "number"] (defScope s_Shelf_read) := sc_of (by decide +kernel)
theorem sc_Shelf_root : FnScope ["self"] ["self"] (defScope s_Shelf_root) := sc_of (by decide +kernel)
theorem sc_Walk_step : FnScope ["self", "number", "page"] ["self"] (defScope s_Walk_step) := sc_of (by decide +kernel)
theorem sc_Weaver_step_walk : FnScope ["self", "hand", "holding", "walk", "told"] ["self", "hand"] (defScope s_Weaver_step_walk) := sc_of (by decide +kernel)
theorem sc_Weaver_move : FnScope ["self", "hand"] ["self", "hand"] (defScope s_Weaver_move) := sc_of (by decide +kernel)
theorem sc_law_whole : FnScope ["found"] ["found"] (defScope s_law_whole) := sc_of (by decide +kernel)
theorem sc_law_same : FnScope ["found", "due", "one", "other"] ["found", "due"] (defScope s_law_same) := sc_of (by decide +kernel)
theorem sc_law_refused : FnScope ["weaver", "hand", "right", "other", "e"] ["weaver", "hand"] (defScope s_law_refused) := sc_of (by decide +kernel)
theorem sc_Weaver_hand_in : FnScope ["self", "deed"] ["self", "deed"] (defScope s_Weaver_hand_in) := sc_of (by decide +kernel)
theorem sc_law_key : FnScope ["number", "rest"] ["number"] (defScope s_law_key) := sc_of (by decide +kernel)
theorem sc_Weaver___init__ : FnScope ["self", "shelf", "hands"] ["self", "shelf", "hands"] (defScope s_Weaver___init__) := sc_of (by decide +kernel)
theorem sc_Shelf___init__ : FnScope ["self", "room"] ["self", "room"] (defScope s_Shelf___init__) := sc_of (by decide +kernel)
theorem sc_law_cell_at : FnScope ["script", "k"] ["script", "k"] (defScope s_law_cell_at) := sc_of (by decide +kernel)
theorem sc_law : FnScope ["script", "cell", "hands", "weaver", "handed", "taken", "held", "hand", "due", "still", "far"] ["script"] (defScope s_law) := sc_of (by decide +kernel)
section
variable {P : Program} {w : World} {K : PySem.W.Frag} {mg : Str → Option Value} {base : Heap} (Z : Al K mg)
include Z
theorem has_Weaver_idle : HasM P w K mg base "Weaver" "idle" 1 1 F_Weaver_idle := hM Z.u0 sc_Weaver_idle fun _ _ _ _ _ _ _ hr => dss_one (ds_ret (de_and (de_cmp (p_eqG hr.units) (de_fld Z.k0 (de_var 0)) (de_blt c_lenG Z.z0 PySem.boot_len (da_cons (de_fld Z.k1 (de_var 0)) da_nil)) (nomark _)) (de_one (de_blt (c_all rfl) Z.z1 boot_all (da_cons (de_compX (caps := []) (idx := []) ⟨by with_unfolding_all rfl, by decide +kernel, rfl, by decide +kernel, rfl, (by exact trivial), by with_unfolding_all rfl, (by exact trivial), by decide⟩ rfl (dx_list (de_fld Z.k2 (de_var 0))) (fun _ _ _ _ => dts_nil) (fun _ _ _ _ => de_cmp p_is (de_var 0) de_non (nomark _))) da_nil)))))
theorem has_Walk___init__ : HasI P w K mg base "Walk" 1 3 F_Walk___init__ := hI Z.u1 sc_Walk___init__ fun _ _ _ _ _ _ _ hr => dss_cons (ds_fld Z.k12 (de_var 0) (de_var 1)) (dss_cons (ds_fld Z.k11 (de_var 0) (de_var 2)) (dss_cons (ds_fld Z.k10 (de_var 0) (de_ixG (hu_of hr) (de_var 2) de_int)) (dss_cons (ds_fld Z.k9 (de_var 0) de_int) (dss_cons (ds_fld Z.k8 (de_var 0) de_non) (dss_cons (ds_fld Z.k7 (de_var 0) de_newD0) (dss_cons (ds_fld Z.k6 (de_var 0) de_non) (dss_cons (ds_fld Z.k5 (de_var 0) de_non) (dss_cons (ds_fld Z.k4 (de_var 0) (de_newL da_nil)) (dss_one (ds_fld Z.k3 (de_var 0) de_bl))))))))))
theorem has_Weaver_take_deed : HasM P w K mg base "Weaver" "take_deed" 3 2 F_Weaver_take_deed := hM Z.u2 sc_Weaver_take_deed fun _ _ _ _ _ _ _ hr => dss_cons (ds_set 2 sc_Weaver_take_deed.nd (de_fld Z.k0 (de_var 0))) (dss_cons (ds_asg (de_tup (da_cons (de_var 2) (da_cons (de_make (has_Walk___init__ Z) hr (by decide) pass0 (da_cons (de_fld Z.k13 (de_var 0)) (da_cons (de_ixG (hu_of hr) (de_fld Z.k1 (de_var 0)) (de_var 2)) da_nil))) da_nil))) (dg_sub (hu_of hr) (de_fld Z.k2 (de_var 0)) (de_var 1))) (dss_cons (ds_fldadd Z.k0 (de_var 0) de_int) (dss_one (ds_ret (de_tup (da_cons de_str (da_cons (de_var 1) (da_cons (de_var 2) da_nil))))))))
theorem has_Walk_over : HasM P w K mg base "Walk" "over" 1 1 F_Walk_over := hM Z.u3 sc_Walk_over fun _ _ _ _ _ _ _ hr => dss_one (ds_ret (de_fld Z.k3 (de_var 0)))
theorem has_count_not_above : Has P w K mg base "count_not_above" 1 2 F_count_not_above := hf Z.u4 sc_count_not_above fun _ _ _ _ _ _ _ hr => dss_one (ds_ret (de_blt c_lenG Z.z0 PySem.boot_len (da_cons (de_compX (caps := ["key"]) (idx := [1]) ⟨by with_unfolding_all rfl, by decide +kernel, rfl, by decide +kernel, rfl, (by exact ⟨rfl, trivial⟩), by with_unfolding_all rfl, (by exact ⟨rfl, .inl rfl, ⟨_, rfl⟩, (fun h => NameKind.noConfusion (Option.some.inj (show some NameKind.cell = some NameKind.local from h))), trivial⟩), by decide⟩ rfl (dx_of (di_tup (de_var 0))) (fun _ _ _ _ => dts_one (dt_cmp p_le (de_var 0) (de_var 1) (nomark _))) (fun _ _ _ _ => de_var 0)) da_nil)))
theorem has_count_below : Has P w K mg base "count_below" 1 2 F_count_below := hf Z.u5 sc_count_below fun _ _ _ _ _ _ _ hr => dss_one (ds_ret (de_blt c_lenG Z.z0 PySem.boot_len (da_cons (de_compX (caps := ["key"]) (idx := [1]) ⟨by with_unfolding_all rfl, by decide +kernel, rfl, by decide +kernel, rfl, (by exact ⟨rfl, trivial⟩), by with_unfolding_all rfl, (by exact ⟨rfl, .inl rfl, ⟨_, rfl⟩, (fun h => NameKind.noConfusion (Option.some.inj (show some NameKind.cell = some NameKind.local from h))), trivial⟩), by decide⟩ rfl (dx_of (di_tup (de_var 0))) (fun _ _ _ _ => dts_one (dt_cmp p_lt (de_var 0) (de_var 1) (nomark _))) (fun _ _ _ _ => de_var 0)) da_nil)))
theorem has_worth_of : Has P w K mg base "worth_of" 2 2 F_worth_of := hf Z.u6 sc_worth_of fun _ _ _ _ _ _ _ hr => let ⟨_, g_PARTS⟩ := Z.g0.ex; let ⟨_, g_KEYS⟩ := Z.g1.ex; dss_cons (ds_set 2 sc_worth_of.nd (de_ix (de_var 0) (de_gint rfl g_KEYS))) (dss_cons (ds_set 3 sc_worth_of.nd (de_call (has_count_below Z) hr (by decide) pass0 (da_cons (de_var 2) (da_cons (de_var 1) da_nil)))) (dss_cons (ds_if (dt_cmp (p_eq hr.units) (de_var 3) (de_call (has_count_not_above Z) hr (by decide) pass0 (da_cons (de_var 2) (da_cons (de_var 1) da_nil))) (nomark _)) (dss_one (ds_ret de_non)) dss_nil) (dss_one (ds_ret (de_ix (de_ix (de_var 0) (de_gint rfl g_PARTS)) (de_var 3))))))
theorem has_Walk_find_worth : HasM P w K mg base "Walk" "find_worth" 3 3 F_Walk_find_worth := hM Z.u7 sc_Walk_find_worth fun _ _ _ _ _ _ _ hr => dss_cons (ds_fld Z.k5 (de_var 0) (de_call (has_worth_of Z) hr (by decide) pass0 (da_cons (de_var 2) (da_cons (de_fld Z.k10 (de_var 0)) da_nil)))) (dss_cons (ds_fld Z.k3 (de_var 0) de_bl) (dss_one (ds_ret (de_tup (da_cons de_str (da_cons (de_var 1) (da_cons (de_fld Z.k5 (de_var 0)) da_nil)))))))
theorem has_Walk_do_deed : HasM P w K mg base "Walk" "do_deed" 4 3 F_Walk_do_deed := hM Z.u8 sc_Walk_do_deed fun _ _ _ _ _ _ _ hr => dss_cons (ds_set 3 sc_Walk_do_deed.nd (de_ixG (hu_of hr) (de_fld Z.k11 (de_var 0)) de_int)) (dss_cons (ds_if (dt_cmp (p_eqG hr.units) (de_var 3) de_str (nomark _)) (dss_one (ds_ret (de_meth (has_Walk_find_worth Z) hr (by decide) pass0 (de_var 0) (da_cons (de_var 1) (da_cons (de_var 2) da_nil))))) dss_nil) (dss_cons (ds_if (dt_cmp (p_eqG hr.units) (de_var 3) de_str (nomark _)) (dss_one ds_fail) dss_nil) (dss_cons (ds_if (dt_cmp (p_eqG hr.units) (de_var 3) de_str (nomark _)) (dss_one ds_fail) dss_nil) (dss_one ds_fail))))
theorem has_beyond : Has P w K mg base "beyond" 1 2 F_beyond := hf Z.u9 sc_beyond fun _ _ _ _ _ _ _ hr => let ⟨_, g_HIGH⟩ := Z.g2.ex; dss_cons (ds_set 2 sc_beyond.nd (de_ix (de_var 0) (de_gint rfl g_HIGH))) (dss_one (ds_ret (de_and (de_cmp p_isn (de_var 2) de_non (nomark _)) (de_one (de_cmp p_ge (de_var 1) (de_var 2) (nomark _))))))
theorem has_Shelf_check_number : HasM P w K mg base "Shelf" "check_number" 1 2 F_Shelf_check_number := hM Z.u10 sc_Shelf_check_number fun _ _ _ _ _ _ _ hr => dss_one (ds_if (dt_not (dt_chain p_le p_lt de_int (de_var 1) (de_blt c_lenG Z.z0 PySem.boot_len (da_cons (de_fld Z.k14 (de_var 0)) da_nil)))) (dss_one ds_fail) dss_nil)
theorem has_Shelf_read : HasM P w K mg base "Shelf" "read" 2 2 F_Shelf_read := hM Z.u11 sc_Shelf_read fun _ _ _ _ _ _ _ hr => dss_cons (ds_expr (de_meth (has_Shelf_check_number Z) hr (by decide) pass0 (de_var 0) (da_cons (de_var 1) da_nil))) (dss_cons (ds_fldadd Z.k15 (de_var 0) de_int) (dss_one (ds_ret (de_ixG (hu_of hr) (de_fld Z.k14 (de_var 0)) (de_var 1)))))
theorem has_Shelf_root : HasM P w K mg base "Shelf" "root" 1 1 F_Shelf_root := hM Z.u12 sc_Shelf_root fun _ _ _ _ _ _ _ hr => dss_one (ds_ret (de_fld Z.k16 (de_var 0)))
theorem has_Walk_step : HasM P w K mg base "Walk" "step" 5 1 F_Walk_step := hM Z.u13 sc_Walk_step fun _ _ _ _ _ _ _ hr => let ⟨_, g_LEVEL⟩ := Z.g3.ex; dss_cons (ds_if (dt_of (de_fld Z.k3 (de_var 0))) (dss_one ds_fail) dss_nil) (dss_cons (ds_set 1 sc_Walk_step.nd (de_if (dt_cmp p_is (de_fld Z.k8 (de_var 0)) de_non (nomark _)) (de_meth0 (has_Shelf_root Z) hr (by decide) pass0 (de_fld Z.k12 (de_var 0))) (de_fld Z.k8 (de_var 0)))) (dss_cons (ds_set 2 sc_Walk_step.nd (de_meth (has_Shelf_read Z) hr (by decide) pass0 (de_fld Z.k12 (de_var 0)) (da_cons (de_var 1) da_nil))) (dss_cons (ds_if (DW.pt (dw_and (dt_cmp p_is (de_fld Z.k8 (de_var 0)) de_non (nomark _)) (dw_and1 (dt_cmp p_lt (de_ixG (hu_of hr) (de_var 2) (de_gint rfl g_LEVEL)) (de_fld Z.k9 (de_var 0)) (nomark _))))) (dss_one ds_fail) dss_nil) (dss_cons (ds_if (dt_of (de_call (has_beyond Z) hr (by decide) pass0 (da_cons (de_var 2) (da_cons (de_fld Z.k10 (de_var 0)) da_nil)))) (dss_one ds_fail) dss_nil) (dss_cons (ds_if (dt_cmp p_gt (de_ixG (hu_of hr) (de_var 2) (de_gint rfl g_LEVEL)) (de_fld Z.k9 (de_var 0)) (nomark _)) (dss_cons ds_fail (dss_one ds_fail)) dss_nil) (dss_cons (ds_if (dt_cmp p_gt (de_fld Z.k9 (de_var 0)) de_int (nomark _)) (dss_one ds_fail) dss_nil) (dss_one (ds_ret (de_meth (has_Walk_do_deed Z) hr (by decide) pass0 (de_var 0) (da_cons (de_var 1) (da_cons (de_var 2) da_nil)))))))))))
theorem has_Weaver_step_walk : HasM P w K mg base "Weaver" "step_walk" 6 2 F_Weaver_step_walk := hM Z.u14 sc_Weaver_step_walk fun _ _ _ _ _ _ _ hr => dss_cons (ds_set 2 sc_Weaver_step_walk.nd (de_ixG (hu_of hr) (de_fld Z.k2 (de_var 0)) (de_var 1))) (dss_cons (ds_set 3 sc_Weaver_step_walk.nd (de_ixG (hu_of hr) (de_var 2) de_int)) (dss_cons (ds_set 4 sc_Weaver_step_walk.nd (de_meth0 (has_Walk_step Z) hr (by decide) pass0 (de_var 3))) (dss_cons (ds_if (dt_of (de_meth0 (has_Walk_over Z) hr (by decide) pass0 (de_var 3))) (dss_cons (ds_asg de_non (dg_sub (hu_of hr) (de_fld Z.k2 (de_var 0)) (de_var 1))) (dss_one (ds_expr (de_mth m_append PySem.F.plainAttrs_list PySem.F.slot_list_append PySem.F.type_list_append (de_fld Z.k17 (de_var 0)) (da_cons (de_var 2) da_nil))))) dss_nil) (dss_one (ds_ret (de_bin p_add (de_tup (da_cons (de_ixG (hu_of hr) (de_var 4) de_int) (da_cons (de_var 1) (da_cons (de_ixG (hu_of hr) (de_var 2) de_int) da_nil)))) (de_sl (de_var 4) (do_some de_int) do_none)))))))
theorem has_Weaver_move : HasM P w K mg base "Weaver" "move" 7 2 F_Weaver_move := hM Z.u15 sc_Weaver_move fun _ _ _ _ _ _ _ hr => dss_cons (ds_if (dt_not (dt_chain p_le p_lt de_int (de_var 1) (de_blt c_lenG Z.z0 PySem.boot_len (da_cons (de_fld Z.k2 (de_var 0)) da_nil)))) (dss_one ds_fail) dss_nil) (dss_cons (ds_if (dt_cmp p_isn (de_ixG (hu_of hr) (de_fld Z.k2 (de_var 0)) (de_var 1)) de_non (nomark _)) (dss_one (ds_ret (de_meth (has_Weaver_step_walk Z) hr (by decide) pass0 (de_var 0) (da_cons (de_var 1) da_nil)))) dss_nil) (dss_cons (ds_if (dt_cmp p_lt (de_fld Z.k0 (de_var 0)) (de_blt c_lenG Z.z0 PySem.boot_len (da_cons (de_fld Z.k1 (de_var 0)) da_nil)) (nomark _)) (dss_one (ds_ret (de_meth (has_Weaver_take_deed Z) hr (by decide) pass0 (de_var 0) (da_cons (de_var 1) da_nil)))) dss_nil) (dss_one (ds_ret (de_tup (da_cons de_str (da_cons (de_var 1) da_nil)))))))
theorem hasr_Weaver_move : HasRM P w K mg base "Weaver" "move" 7 2 G_Weaver_move := hMR Z.u15 sc_Weaver_move fun _ _ _ _ _ _ _ hr => (rss_first (rs_if (dt_not (dt_chain p_le p_lt de_int (de_var 1) (de_blt c_lenG Z.z0 PySem.boot_len (da_cons (de_fld Z.k2 (de_var 0)) da_nil)))) (rss_first (rs_raise Z.x0)) rss_no))
theorem has_law_whole : Has P w K mg base "_law_whole" 1 1 F_law_whole := hf Z.u16 sc_law_whole fun _ _ _ _ _ _ _ hr => dss_one (ds_ret (de_and (de_isi Z.z2 Z.z3 boot_int (by decide) (de_var 0)) (de_one (de_not (de_isi Z.z2 Z.z4 boot_bool (by decide) (de_var 0))))))
theorem has_law_same : ∀ j : Nat, Has P w K mg base "_law_same" (1 + j) 2 (F_law_same j)
  | 0 => let ⟨_, _, F, hm⟩ := Z.u17.ex; has_none F hm (ps := ["found", "due"]) (fun _ _ _ _ _ _ us hl => match us, hl with | [_, _], _ => rfl)
  | j + 1 => have h_law_same := has_law_same j; hf Z.u17 sc_law_same fun _ _ _ _ _ _ _ hr => dss_cons (ds_if (DW.pt (dw_or (dt_of (de_isi Z.z2 Z.z6 boot_tuple (by decide) (de_var 1))) (dw_or1 (dt_of (de_isi Z.z2 Z.z7 boot_list (by decide) (de_var 1)))))) (dss_cons (ds_if (DW.pt (dw_or (dt_cmp (p_ne hr.units) (de_isi Z.z2 Z.z6 boot_tuple (by decide) (de_var 0)) (de_isi Z.z2 Z.z6 boot_tuple (by decide) (de_var 1)) (nomark _)) (dw_or1 (dt_cmp (p_ne hr.units) (de_isi Z.z2 Z.z7 boot_list (by decide) (de_var 0)) (de_isi Z.z2 Z.z7 boot_list (by decide) (de_var 1)) (nomark _))))) (dss_one (ds_ret de_bl)) dss_nil) (dss_cons (ds_if (dt_cmp (p_ne hr.units) (de_blt c_len Z.z0 PySem.boot_len (da_cons (de_var 0) da_nil)) (de_blt c_len Z.z0 PySem.boot_len (da_cons (de_var 1) da_nil)) (nomark _)) (dss_one (ds_ret de_bl)) dss_nil) (dss_cons (ds_for PassesOwn.never rfl (di_zip (by rfl) (by exact Z.z8) (de_var 0) (de_var 1)) (dg_tup [2, 3] sc_law_same.nd (by repeat' (first | exact trivial | refine ⟨rfl, (by first | exact .inl rfl | exact .inr rfl), .inl rfl, ?_⟩)) rfl (fun _ _ _ => rfl)) (dss_one (ds_if (dt_not (dt_of (de_call h_law_same hr (Nat.le_refl _) pass0 (da_cons (de_var 2) (da_cons (de_var 3) da_nil))))) (dss_one (ds_ret de_bl)) dss_nil))) (dss_one (ds_ret de_bl))))) dss_nil) (dss_cons (ds_if (dt_cmp p_is (de_var 1) de_non (nomark _)) (dss_one (ds_ret (de_cmp p_is (de_var 0) de_non (nomark _)))) dss_nil) (dss_cons (ds_if (dt_of (de_isi Z.z2 Z.z5 boot_str (by decide) (de_var 1))) (dss_one (ds_ret (de_and (de_isi Z.z2 Z.z5 boot_str (by decide) (de_var 0)) (de_one (de_cmp (p_eq hr.units) (de_var 0) (de_var 1) (nomark _)))))) dss_nil) (dss_one (ds_ret (de_and (de_call (has_law_whole Z) hr (Nat.le_add_right _ _) pass0 (da_cons (de_var 0) da_nil)) (de_one (de_cmp (p_eq hr.units) (de_var 0) (de_var 1) (nomark _))))))))
theorem has_law_refused : Has P w K mg base "_law_refused" 8 2 F_law_refused := hf Z.u18 sc_law_refused fun _ _ _ _ _ _ _ hr => dss_cons (ds_set 2 sc_law_refused.nd de_bl) (dss_cons (ds_set 3 sc_law_refused.nd de_bl) (dss_cons (ds_try 4 2 3 (xx_meth (hasr_Weaver_move Z) hr (by decide) (de_var 0) (da_cons (de_var 1) da_nil)) Z.y0 Z.z2 Z.z9 sc_law_refused.nd) (dss_one (ds_ret (de_and (de_var 2) (de_one (de_not (de_var 3))))))))
theorem has_Weaver_hand_in : HasM P w K mg base "Weaver" "hand_in" 1 2 F_Weaver_hand_in := hM Z.u19 sc_Weaver_hand_in fun _ _ _ _ _ _ _ hr => dss_cons (ds_expr (de_mth m_append PySem.F.plainAttrs_list PySem.F.slot_list_append PySem.F.type_list_append (de_fld Z.k1 (de_var 0)) (da_cons (de_var 1) da_nil))) (dss_one (ds_ret (de_bin p_sub (de_blt c_lenG Z.z0 PySem.boot_len (da_cons (de_fld Z.k1 (de_var 0)) da_nil)) de_int)))
theorem has_law_key : Has P w K mg base "_law_key" 1 1 F_law_key := hf Z.u20 sc_law_key fun _ _ _ _ _ _ _ hr => dss_cons (ds_set 1 sc_law_key.nd (de_bin p_div (de_var 0) de_int)) (dss_cons (ds_if (dt_cmp (p_eq hr.units) (de_bin p_mod (de_var 0) de_int) de_int (nomark _)) (dss_one (ds_ret (de_bin p_sub (de_bin p_mod (de_bin p_mulB (de_var 1) (de_bin p_pow de_int de_int)) (de_bin p_add (de_bin p_mul de_int (de_bin p_pow de_int de_int)) de_int)) (de_bin p_pow de_int de_int)))) dss_nil) (dss_cons (ds_if (dt_cmp (p_eq hr.units) (de_bin p_mod (de_var 0) de_int) de_int (nomark _)) (dss_one (ds_ret (de_ix (de_lst (da_cons (de_bin p_pow de_int de_int) (da_cons (de_neg (de_bin p_pow de_int de_int)) (da_cons (de_bin p_sub (de_bin p_pow de_int de_int) de_int) (da_cons (de_bin p_sub de_int (de_bin p_pow de_int de_int)) da_nil))))) (de_bin p_mod (de_var 1) de_int)))) dss_nil) (dss_one (ds_ret (de_bin p_sub (de_bin p_mod (de_var 1) de_int) de_int)))))
theorem has_Weaver___init__ : HasI P w K mg base "Weaver" 1 3 F_Weaver___init__ := hI Z.u21 sc_Weaver___init__ fun _ _ _ _ _ _ _ hr => dss_cons (ds_fld Z.k13 (de_var 0) (de_var 1)) (dss_cons (ds_fld Z.k1 (de_var 0) (de_newL da_nil)) (dss_cons (ds_fld Z.k0 (de_var 0) de_int) (dss_cons (ds_fld Z.k2 (de_var 0) (de_bin p_mulN (de_lst (da_cons de_non da_nil)) (de_var 2))) (dss_one (ds_fld Z.k17 (de_var 0) (de_newL da_nil))))))
theorem has_Shelf___init__ : HasI P w K mg base "Shelf" 1 2 F_Shelf___init__ := hI Z.u22 sc_Shelf___init__ fun _ _ _ _ _ _ _ hr => let ⟨_, g_EMPTY_LEAF, q_EMPTY_LEAF⟩ := Z.t0.ex; dss_cons (ds_fld Z.k19 (de_var 0) (de_var 1)) (dss_cons (ds_fld Z.k14 (de_var 0) (de_newL (da_cons (de_gtup rfl g_EMPTY_LEAF q_EMPTY_LEAF) da_nil))) (dss_cons (ds_fld Z.k16 (de_var 0) de_int) (dss_cons (ds_fld Z.k15 (de_var 0) de_int) (dss_one (ds_fld Z.k18 (de_var 0) de_int)))))
theorem has_law_cell_at : Has P w K mg base "_law_cell_at" 1 2 F_law_cell_at := hf Z.u23 sc_law_cell_at fun _ _ _ _ _ _ _ hr => dss_cons (ds_if (dt_cmp p_lt (de_var 1) (de_blt c_len Z.z0 PySem.boot_len (da_cons (de_var 0) da_nil)) (nomark _)) (dss_one (ds_ret (de_ix (de_var 0) (de_var 1)))) dss_nil) (dss_one (ds_ret de_int))
theorem law_fn {g : Addr} {fd : FuncData} (F : Fun K "law" "law" s_law g fd) : FnOk P w K mg base CX0 9 g fd ["script"] (spD K 1 F_law) := fn_ok F sc_law fun _ _ _ _ _ _ hr => dss_cons (ds_set 1 sc_law.nd (de_call (has_law_cell_at Z) hr (by decide) pass0 (da_cons (de_var 0) (da_cons de_int da_nil)))) (dss_cons (ds_set 2 sc_law.nd (de_bin p_add de_int (de_bin p_mod (de_var 1) de_int))) (dss_cons (ds_set 3 sc_law.nd (de_make (has_Weaver___init__ Z) hr (by decide) pass0 (da_cons (de_make (has_Shelf___init__ Z) hr (by decide) pass0 (da_cons (de_bin p_add de_int (de_bin p_mod (de_bin p_div (de_var 1) de_int) de_int)) da_nil)) (da_cons (de_var 2) da_nil)))) (dss_cons (ds_set 4 sc_law.nd de_int) (dss_cons (ds_set 5 sc_law.nd de_int) (dss_cons (ds_compX 6 sc_law.nd (caps := []) (idx := []) ⟨by with_unfolding_all rfl, by decide +kernel, rfl, by decide +kernel, rfl, (by exact trivial), by with_unfolding_all rfl, (by exact trivial), by decide⟩ rfl (dx_of (di_range1 rfl Z.z11 (da_cons (de_var 2) da_nil))) (fun _ _ _ _ => dts_nil) (fun _ _ _ _ => de_neg de_int)) (dss_cons (ds_forX PassesOwn.never rfl (dx_list (de_var 0)) (dg_name 1 sc_law.nd) (dss_cons (ds_if (dt_cmp (p_eqG hr.units) (de_bin p_mod (de_var 1) de_int) de_int (nomark _)) (dss_cons (ds_if (dt_not (dt_of (de_call (has_law_same Z 6) hr (by decide) pass0 (da_cons (de_meth (has_Weaver_hand_in Z) hr (by decide) pass0 (de_var 3) (da_cons (de_tup (da_cons de_str (da_cons (de_call (has_law_key Z) hr (by decide) pass0 (da_cons (de_bin p_div (de_var 1) de_int) da_nil)) da_nil))) da_nil)) (da_cons (de_var 4) da_nil))))) (dss_one (ds_ret de_bl)) dss_nil) (dss_one (ds_augadd 4 sc_law.nd de_int))) dss_nil) (dss_cons (ds_if (dt_cmp (p_eqG hr.units) (de_bin p_mod (de_bin p_div (de_var 1) de_int) de_int) de_int (nomark _)) (dss_cons (ds_set 10 sc_law.nd (de_lst (da_cons (de_bin p_sub (de_neg de_int) (de_bin p_mod (de_bin p_div (de_var 1) de_int) (de_bin p_pow de_int de_int))) (da_cons (de_bin p_add (de_var 2) (de_bin p_mod (de_bin p_div (de_var 1) de_int) (de_bin p_pow de_int de_int))) (da_cons (de_var 2) (da_cons (de_neg de_int) da_nil)))))) (dss_one (ds_if (dt_not (dt_of (de_call (has_law_refused Z) hr (by decide) pass0 (da_cons (de_var 3) (da_cons (de_ixG (hu_of hr) (de_var 10) (de_bin p_mod (de_bin p_div (de_var 1) de_int) de_int)) da_nil))))) (dss_one (ds_ret de_bl)) dss_nil))) dss_nil) (dss_cons (ds_set 7 sc_law.nd (de_bin p_mod (de_bin p_div (de_var 1) de_int) (de_var 2))) (dss_cons (ds_set 8 sc_law.nd (de_tup (da_cons de_str (da_cons (de_var 7) da_nil)))) (dss_cons (ds_if (dt_cmp p_ge (de_ixG (hu_of hr) (de_var 6) (de_var 7)) de_int (nomark _)) (dss_cons (ds_set 8 sc_law.nd (de_tup (da_cons de_str (da_cons (de_var 7) (da_cons (de_ixG (hu_of hr) (de_var 6) (de_var 7)) (da_cons de_int (da_cons de_non da_nil))))))) (dss_one (ds_asg (de_neg de_int) (dg_sub (hu_of hr) (de_var 6) (de_var 7))))) (dss_one (ds_if (dt_cmp p_lt (de_var 5) (de_var 4) (nomark _)) (dss_cons (ds_set 8 sc_law.nd (de_tup (da_cons de_str (da_cons (de_var 7) (da_cons (de_var 5) da_nil))))) (dss_cons (ds_asg (de_var 5) (dg_sub (hu_of hr) (de_var 6) (de_var 7))) (dss_one (ds_augadd 5 sc_law.nd de_int)))) dss_nil))) (dss_cons (ds_if (dt_not (dt_of (de_call (has_law_same Z 6) hr (by decide) pass0 (da_cons (de_meth (has_Weaver_move Z) hr (by decide) pass0 (de_var 3) (da_cons (de_var 7) da_nil)) (da_cons (de_var 8) da_nil))))) (dss_one (ds_ret de_bl)) dss_nil) (dss_cons (ds_set 9 sc_law.nd (de_and (de_cmp (p_eqG hr.units) (de_var 5) (de_var 4) (nomark _)) (de_one (de_cmp p_lt (de_blt (c_maxW rfl) Z.z10 boot_max (da_cons (de_var 6) da_nil)) de_int (nomark _))))) (dss_one (ds_if (DW.pt (dw_or (dt_not (dt_of (de_isi Z.z2 Z.z4 boot_bool (by decide) (de_meth0 (has_Weaver_idle Z) hr (by decide) pass0 (de_var 3))))) (dw_or1 (dt_cmp (p_neG hr.units) (de_meth0 (has_Weaver_idle Z) hr (by decide) pass0 (de_var 3)) (de_var 9) (nomark _))))) (dss_one (ds_ret de_bl)) dss_nil)))))))))) (dss_one (ds_ret de_bl))))))))
end
def _root_.PySem.W.Fast.tw8207030770462303216 : Nat := 0
def _root_.PySem.W.Fast.tw7309291097405326180 : Nat := 0
def _root_.PySem.W.Fast.tw9542098695750431550 : Nat := 0
def _root_.PySem.W.Fast.tw11805767438663022160 : Nat := 0
def _root_.PySem.W.Fast.tw160287346620680029 : Nat := 0
def _root_.PySem.W.Fast.tw14714609420922720585 : Nat := 0
def _root_.PySem.W.Fast.tw13204884292018606435 : Nat := 0
def _root_.PySem.W.Fast.tw6946088625193122803 : Nat := 0
def _root_.PySem.W.Fast.tw2043886317638617533 : Nat := 0
def _root_.PySem.W.Fast.tw6746633959468527617 : Nat := 0
def _root_.PySem.W.Fast.tw2859203877393614280 : Nat := 0
def _root_.PySem.W.Fast.tw2518433847825264955 : Nat := 0
def _root_.PySem.W.Fast.tw90849062641401356 : Nat := 0
def _root_.PySem.W.Fast.tw14426387749880708569 : Nat := 0
def _root_.PySem.W.Fast.tw14021713384637751285 : Nat := 0
def _root_.PySem.W.Fast.tw16526285577568234341 : Nat := 0
def _root_.PySem.W.Fast.tw7098630747226559666 : Nat := 0
def _root_.PySem.W.Fast.tw17472176889295112789 : Nat := 0
def _root_.PySem.W.Fast.tw6640125896564943166 : Nat := 0
def _root_.PySem.W.Fast.tw1520561951972692380 : Nat := 0
def _root_.PySem.W.Fast.tw13102664617423386505 : Nat := 0
def _root_.PySem.W.Fast.tw5517012140559227442 : Nat := 0
def _root_.PySem.W.Fast.tw5397538400136061908 : Nat := 0
def _root_.PySem.W.Fast.tw13146628341896065048 : Nat := 0
def _root_.PySem.W.Fast.tw15920133904850963078 : Nat := 0
def _root_.PySem.W.Fast.tw3437564027809186937 : Nat := 0
def _root_.PySem.W.Fast.tw4025545258571221208 : Nat := 0
def _root_.PySem.W.Fast.tw2974191245549584187 : Nat := 0
def _root_.PySem.W.Fast.tw145885452276302909 : Nat := 0
def _root_.PySem.W.Fast.tw4553399549597400337 : Nat := 0
def _root_.PySem.W.Fast.tw2318626674258647298 : Nat := 0
def _root_.PySem.W.Fast.tw12068731249652780542 : Nat := 0
def _root_.PySem.W.Fast.tw511478404710273050 : Nat := 0
def _root_.PySem.W.Fast.tw18169268251349770259 : Nat := 0
def _root_.PySem.W.Fast.tw7125118060779781620 : Nat := 0
def _root_.PySem.W.Fast.tw135730170703917061 : Nat := 0
def _root_.PySem.W.Fast.tw8252851252729288143 : Nat := 0
def _root_.PySem.W.Fast.tw1991758749577565170 : Nat := 0
def _root_.PySem.W.Fast.tw2905205528507272468 : Nat := 0
def _root_.PySem.W.Fast.tw17060865297476311875 : Nat := 0
def _root_.PySem.W.Fast.tw14350238985330200083 : Nat := 0
def _root_.PySem.W.Fast.tw5334101957479554016 : Nat := 0
def _root_.PySem.W.Fast.tw15607820364238035633 : Nat := 0
def _root_.PySem.W.Fast.tw11414842392829858478 : Nat := 0
def _root_.PySem.W.Fast.tw12861503848761429502 : Nat := 0
def _root_.PySem.W.Fast.tw13109851906894541099 : Nat := 0
def _root_.PySem.W.Fast.tw6618350781670054144 : Nat := 0
def _root_.PySem.W.Fast.tw7626174219854649524 : Nat := 0
def _root_.PySem.W.Fast.tw9276723904287083729 : Nat := 0
def _root_.PySem.W.Fast.tw10160961119899056751 : Nat := 0
def _root_.PySem.W.Fast.tw15428850080448402909 : Nat := 0
def shF (r : Int) (k : Nat) (t a b : Int) : List (Str × DV) := [("page_room", .int r), ("kept", .ref k), ("top", .int t), ("read_count", .int a), ("write_count", .int b)]
theorem shF_kept (r : Int) (k : Nat) (t a b : Int) : List.lookup ("kept" : Str) (shF r k t a b) = some (DV.ref k) := by rfl
theorem shF_top (r : Int) (k : Nat) (t a b : Int) : List.lookup ("top" : Str) (shF r k t a b) = some (DV.int t) := by rfl
theorem shF_r (r : Int) (k : Nat) (t a b : Int) : List.lookup ("read_count" : Str) (shF r k t a b) = some (DV.int a) := by rfl
theorem shF_putr (r : Int) (k : Nat) (t a b c : Int) : putFD ("read_count" : Str) (.int c) (shF r k t a b) = shF r k t c b := by rfl
theorem shF_len (r : Int) (k : Nat) (t a b : Int) : (shF r k t a b).length = 5 := rfl
theorem shF_nochk (r : Int) (k : Nat) (t a b : Int) : List.lookup ("check_number" : Str) (shF r k t a b) = none := by rfl
theorem shF_noread (r : Int) (k : Nat) (t a b : Int) : List.lookup ("read" : Str) (shF r k t a b) = none := by rfl
theorem shF_noroot (r : Int) (k : Nat) (t a b : Int) : List.lookup ("root" : Str) (shF r k t a b) = none := by rfl
section
variable {r t a b : Int} {n k : Nat} {ps : List DV} {hp : Hs}
theorem root_at (h1 : hp[n]? = some (.ins "Shelf" (shF r k t a b))) : F_Shelf_root [.ref n] hp = some (.int t, hp) := by
  simp [F_Shelf_root, b_Shelf_root, runF, sSeq, sSet, sRet, sRetN, sIf, sNil, sDis, disE, sAcc, sApp, eBin, eVar, eC, eB, asB, eAnd, eOr, eNot, eAndV, eOrV, eNotV, eIf, eNeg, aNil, aCons, eTup, eLst, eCall, eBlt, guardM, gN, addD_int, subD_int, gtD_int, ltD_int, leD_int, geD_int, negD_int, pow30, pow21, pow9, eqD_int, neD_int, sDrop, sFldD, sFldA, sAug, sAsg, gSb, putG, eMth, kindG, eFld, getF, setF, onI, onL, onD, mAppend, mInsert, mDPop, mDGet, ixG, lenG, lenF, optM, keyM, dkey, asI, addI, subI, eMeth, eMake, eNewL, eNewD0, eNewD, evP, run_bind, run_map, run_pure, run_fail, run_guard, run_get, run_set, run_new, getSet_self, getSet_ne, getApp_new, h1, shF_top]
theorem check_at {i : Int} (h1 : hp[n]? = some (.ins "Shelf" (shF r k t a b))) (h2 : hp[k]? = some (.lst ps)) (i0 : 0 ≤ i) (i1 : i < ps.length) :
    F_Shelf_check_number [.ref n, .int i] hp = some (.non, hp) := by
  have q0 : ¬ i < 0 := by omega
  have q1 : ¬ (ps.length : Int) ≤ i := by omega
  simp [F_Shelf_check_number, b_Shelf_check_number, runF, sSeq, sSet, sRet, sRetN, sIf, sNil, sDis, disE, sAcc, sApp, eBin, eVar, eC, eB, asB, eAnd, eOr, eNot, eAndV, eOrV, eNotV, eIf, eNeg, aNil, aCons, eTup, eLst, eCall, eBlt, guardM, gN, addD_int, subD_int, gtD_int, ltD_int, leD_int, geD_int, negD_int, pow30, pow21, pow9, eqD_int, neD_int, sDrop, sFldD, sFldA, sAug, sAsg, gSb, putG, eMth, kindG, eFld, getF, setF, onI, onL, onD, mAppend, mInsert, mDPop, mDGet, ixG, lenG, lenF, optM, keyM, dkey, asI, addI, subI, eMeth, eMake, eNewL, eNewD0, eNewD, evP, run_bind, run_map, run_pure, run_fail, run_guard, run_get, run_set, run_new, getSet_self, getSet_ne, getApp_new, eChain, h1, h2, shF_kept, i0, i1, q0, q1]
theorem read_at {i : Nat} {d : DV} (h1 : hp[n]? = some (.ins "Shelf" (shF r k t a b))) (h2 : hp[k]? = some (.lst ps)) (hnk : n ≠ k) (hd : ps[i]? = some d) :
    F_Shelf_read [.ref n, .int i] hp = some (d, hp.set n (.ins "Shelf" (shF r k t (a + 1) b))) := by
  have i1 : i < ps.length := (List.getElem?_eq_some_iff.mp hd).1
  have c := check_at (i := (i : Int)) h1 h2 (by omega) (by omega)
  have hd' := atI_nat hd
  simp [F_Shelf_read, b_Shelf_read, runF, sSeq, sSet, sRet, sRetN, sIf, sNil, sDis, disE, sAcc, sApp, eBin, eVar, eC, eB, asB, eAnd, eOr, eNot, eAndV, eOrV, eNotV, eIf, eNeg, aNil, aCons, eTup, eLst, eCall, eBlt, guardM, gN, addD_int, subD_int, gtD_int, ltD_int, leD_int, geD_int, negD_int, pow30, pow21, pow9, eqD_int, neD_int, sDrop, sFldD, sFldA, sAug, sAsg, gSb, putG, eMth, kindG, eFld, getF, setF, onI, onL, onD, mAppend, mInsert, mDPop, mDGet, ixG, lenG, lenF, optM, keyM, dkey, asI, addI, subI, eMeth, eMake, eNewL, eNewD0, eNewD, evP, run_bind, run_map, run_pure, run_fail, run_guard, run_get, run_set, run_new, getSet_self, getSet_ne, getApp_new, h1, h2, c, shF_kept, shF_r, shF_putr, shF_len, shF_nochk, hd', hnk, hnk.symm]
end
def emp : DV := .tup [.int 0, .tup [], .tup [], .non, .non]
theorem pf0 (d : DV) : putFD ("page_room" : Str) d [] = [(("page_room" : Str), d)] := by rfl
theorem pf1 (x d : DV) : putFD ("kept" : Str) d [(("page_room" : Str), x)] = [(("page_room" : Str), x), (("kept" : Str), d)] := by rfl
theorem pf2 (x y d : DV) : putFD ("top" : Str) d [(("page_room" : Str), x), (("kept" : Str), y)] = [(("page_room" : Str), x), (("kept" : Str), y), (("top" : Str), d)] := by rfl
theorem pf3 (x y z d : DV) : putFD ("read_count" : Str) d [(("page_room" : Str), x), (("kept" : Str), y), (("top" : Str), z)] = [(("page_room" : Str), x), (("kept" : Str), y), (("top" : Str), z), (("read_count" : Str), d)] := by rfl
theorem pf4 (x y z u d : DV) : putFD ("write_count" : Str) d [(("page_room" : Str), x), (("kept" : Str), y), (("top" : Str), z), (("read_count" : Str), u)] = [(("page_room" : Str), x), (("kept" : Str), y), (("top" : Str), z), (("read_count" : Str), u), (("write_count" : Str), d)] := by rfl
theorem init_at (r : Int) (hp : Hs) : F_Shelf___init__ [.ref hp.length, .int r] (hp ++ [.ins "Shelf" []]) = some (.non, hp ++ [.ins "Shelf" (shF r (hp.length + 1) 0 0 0), .lst [emp]]) := by
  simp [F_Shelf___init__, b_Shelf___init__, runF, sSeq, sSet, sRet, sRetN, sIf, sNil, sDis, disE, sAcc, sApp, eBin, eVar, eC, eB, asB, eAnd, eOr, eNot, eAndV, eOrV, eNotV, eIf, eNeg, aNil, aCons, eTup, eLst, eCall, eBlt, guardM, gN, addD_int, subD_int, gtD_int, ltD_int, leD_int, geD_int, negD_int, pow30, pow21, pow9, eqD_int, neD_int, sDrop, sFldD, sFldA, sAug, sAsg, gSb, putG, eMth, kindG, eFld, getF, setF, onI, onL, onD, mAppend, mInsert, mDPop, mDGet, ixG, lenG, lenF, optM, keyM, dkey, asI, addI, subI, eMeth, eMake, eNewL, eNewD0, eNewD, evP, run_bind, run_map, run_pure, run_fail, run_guard, run_get, run_set, run_new, getSet_self, getSet_ne, getApp_new, getMid, setMid, pf0, pf1, pf2, pf3, pf4, short, lim, shF, emp]
theorem cell_ev (ns : List Int) (k : Nat) (hl : ns.length ≤ 63) : ∃ x, F_law_cell_at [.lst (ns.map .int), .int k] = pure (.int x) := by
  by_cases h : k < ns.length
  · have a := atI_nat (xs := ns.map DV.int) (j := k) (v := .int ns[k]) (by simp [h])
    refine ⟨ns[k], ?_⟩
    have h' : (k : Int) < (ns.length : Int) := by omega
    simp [F_law_cell_at, b_law_cell_at, runF, sSeq, sSet, sRet, sRetN, sIf, sNil, sDis, disE, sAcc, sApp, eBin, eVar, eC, eB, asB, eAnd, eOr, eNot, eAndV, eOrV, eNotV, eIf, eNeg, aNil, aCons, eTup, eLst, eCall, eBlt, guardM, gN, addD_int, subD_int, gtD_int, ltD_int, leD_int, geD_int, negD_int, pow30, pow21, pow9, eqD_int, neD_int, lenF, ixD, asI, a, h']
  · have h' : ¬ (k : Int) < (ns.length : Int) := by omega
    exact ⟨0, by simp [F_law_cell_at, b_law_cell_at, runF, sSeq, sSet, sRet, sRetN, sIf, sNil, sDis, disE, sAcc, sApp, eBin, eVar, eC, eB, asB, eAnd, eOr, eNot, eAndV, eOrV, eNotV, eIf, eNeg, aNil, aCons, eTup, eLst, eCall, eBlt, guardM, gN, addD_int, subD_int, gtD_int, ltD_int, leD_int, geD_int, negD_int, pow30, pow21, pow9, eqD_int, neD_int, lenF, h']⟩
theorem winit_at (n : Nat) (d : TR.Deed) (hp : Hs) : F_Walk___init__ [.ref hp.length, .ref n, deedD d] (hp ++ [.ins "Walk" []]) = some (.non, hp ++ [wkO n (hp.length + 1) (hp.length + 2) (TR.fresh d), .dic [], .lst []]) := by
  have st : ∀ (nm : Str) (e : DEx) (v : DV) (fs : List (Str × DV)) (t t' : Hs), e [.val (.ref hp.length), .val (.ref n), .val (deedD d)] (hp ++ .ins "Walk" fs :: t) = some (v, hp ++ .ins "Walk" fs :: t') → fs.length < 1000 → sFldD "Walk" nm (eVar 0) e [.val (.ref hp.length), .val (.ref n), .val (deedD d)] (hp ++ .ins "Walk" fs :: t) = some ((.nx, [.val (.ref hp.length), .val (.ref n), .val (deedD d)]), hp ++ .ins "Walk" (putFD nm v fs) :: t') := fun nm e v fs t t' he hl => by
    rw [fldD_at he (var_at rfl) (getMid hp _ _) hl, setMid]
  have a1 : ∀ fs, eNewD0 [.val (.ref hp.length), .val (.ref n), .val (deedD d)] (hp ++ .ins "Walk" fs :: []) = some (.ref (hp.length + 1), hp ++ .ins "Walk" fs :: [.dic []]) := fun fs => by
    show some (DV.ref (hp ++ [OV.ins "Walk" fs]).length, (hp ++ [OV.ins "Walk" fs]) ++ [OV.dic []]) = _
    simp
  have a2 : ∀ fs, eNewL aNil [.val (.ref hp.length), .val (.ref n), .val (deedD d)] (hp ++ .ins "Walk" fs :: [.dic []]) = some (.ref (hp.length + 2), hp ++ .ins "Walk" fs :: [.dic [], .lst []]) := fun fs => by
    show some (DV.ref (hp ++ [OV.ins "Walk" fs, OV.dic []]).length, (hp ++ [OV.ins "Walk" fs, OV.dic []]) ++ [OV.lst []]) = _
    simp
  refine runF_nx (env := [.val (.ref hp.length), .val (.ref n), .val (deedD d)]) ?_
  refine (sSeq_at (st "shelf" _ (.ref n) [] [] [] (var_at rfl) (Nat.lt_of_le_of_lt (m := 20) (by repeat (first | exact Nat.zero_le _ | refine putFD_lt ?_)) (by decide)))).trans ?_
  refine (sSeq_at (st "deed" _ (deedD d) _ [] [] (var_at rfl) (Nat.lt_of_le_of_lt (m := 20) (by repeat (first | exact Nat.zero_le _ | refine putFD_lt ?_)) (by decide)))).trans ?_
  refine (sSeq_at (st "aim" _ (.int d.key) _ [] [] (eBin_atW (var_at rfl) rfl (deed_key d _)) (Nat.lt_of_le_of_lt (m := 20) (by repeat (first | exact Nat.zero_le _ | refine putFD_lt ?_)) (by decide)))).trans ?_
  refine (sSeq_at (st "goal" _ (.int 0) _ [] [] rfl (Nat.lt_of_le_of_lt (m := 20) (by repeat (first | exact Nat.zero_le _ | refine putFD_lt ?_)) (by decide)))).trans ?_
  refine (sSeq_at (st "place" _ .non _ [] [] rfl (Nat.lt_of_le_of_lt (m := 20) (by repeat (first | exact Nat.zero_le _ | refine putFD_lt ?_)) (by decide)))).trans ?_
  refine (sSeq_at (st "forks" _ (.ref (hp.length + 1)) _ [] [.dic []] (a1 _) (Nat.lt_of_le_of_lt (m := 20) (by repeat (first | exact Nat.zero_le _ | refine putFD_lt ?_)) (by decide)))).trans ?_
  refine (sSeq_at (st "new_page" _ .non _ [.dic []] [.dic []] rfl (Nat.lt_of_le_of_lt (m := 20) (by repeat (first | exact Nat.zero_le _ | refine putFD_lt ?_)) (by decide)))).trans ?_
  refine (sSeq_at (st "worth" _ .non _ [.dic []] [.dic []] rfl (Nat.lt_of_le_of_lt (m := 20) (by repeat (first | exact Nat.zero_le _ | refine putFD_lt ?_)) (by decide)))).trans ?_
  refine (sSeq_at (st "pairs" _ (.ref (hp.length + 2)) _ [.dic []] [.dic [], .lst []] (a2 _) (Nat.lt_of_le_of_lt (m := 20) (by repeat (first | exact Nat.zero_le _ | refine putFD_lt ?_)) (by decide)))).trans ?_
  exact st "ended" _ (.bl false) _ [.dic [], .lst []] [.dic [], .lst []] rfl (Nat.lt_of_le_of_lt (m := 20) (by repeat (first | exact Nat.zero_le _ | refine putFD_lt ?_)) (by decide))
theorem wmake_at {n : Nat} {d : TR.Deed} {fa : DAx} {env : En} {hp0 hp : Hs} (ha : fa env hp0 = some ([.ref n, deedD d], hp)) : eMake "Walk" 3 F_Walk___init__ fa env hp0 = some (.ref hp.length, hp ++ [wkO n (hp.length + 1) (hp.length + 2) (TR.fresh d), .dic [], .lst []]) := by
  unfold eMake
  rw [bind_at ha]
  have al : allocW (.ins "Walk" []) hp = some (.ref hp.length, hp ++ [.ins "Walk" []]) := rfl
  have gd : guardM (decide ([DV.ref n, deedD d].length + 1 = 3)) hp = some ((), hp) := rfl
  rw [bind_at gd, bind_at al, bind_at (winit_at n d hp)]; rfl
theorem over_at {hp : Hs} {n f q a : Nat} {w : TR.Wk} (h : hp[a]? = some (wkO n f q w)) : F_Walk_over [.ref a] hp = some (.bl w.ended, hp) := runF_at (sRet_at (fld_at (var_at rfl) h (wkF_ended ..)))
theorem bitsOk_div {c k : Int} (h : bitsOk c) (hk : 0 < k) : bitsOk (c / k) := bitsOk_le (by
  have := PySem.natAbs_fdiv_le c k
  rwa [Int.fdiv_eq_ediv_of_nonneg _ (by omega)] at this) h
theorem mulB_at {x y : Int} (hx : bitsOk x) (hy : bitsOk y) : mulB (.int x) (.int y) = pure (.int (x * y)) := by
  have : cMulB x y = true := decide_eq_true ⟨hx, hy⟩
  simp [mulB, int2, this]
theorem pow3 : powD (.int 1000000007) (.int 3) = pure (.int 1000000021000000147000000343) := rfl
theorem key31 (c : Int) (h : bitsOk c) (hp : Hs) : ∃ k, F_law_key [.int c] hp = some (.int k, hp) := by
  have d6 := at_of (divD_pos c 6 (by decide) (by decide)) hp
  have m6 := at_of (modD_pos c 6 (by decide)) hp
  let E : En := [.val (.int c), .val (.int (c / 6))]
  have s1 : sSet 1 (eBin divD (eVar 0) (eC (.int 6))) [.val (.int c), .un] hp = some ((.nx, E), hp) := sSet_at (eBin_atW (var_at rfl) rfl d6)
  have t : ∀ i : Int, eB (eBin eqD (eBin modD (eVar 0) (eC (.int 6))) (eC (.int i))) E hp = some (c % 6 == i, hp) := fun i => eB_at (eBin_atW (eBin_atW (var_at rfl) rfl m6) rfl (at_of (eqD_int _ _) _))
  have p30 : eBin powD (eC (.int 10)) (eC (.int 30)) E hp = some (.int 1000000000000000000000000000000, hp) := eBin_atW rfl rfl (at_of pow30 _)
  have hb : bitsOk (1000000021000000147000000343 : Int) := by decide
  have m1 := at_of (mulB_at (bitsOk_div h (k := 6) (by decide)) hb) hp
  have m2 := at_of (modD_pos (c / 6 * 1000000021000000147000000343) (2 * 1000000000000000000000000000000 + 1) (by decide)) hp
  have m3 := at_of (mulD_l 2 1000000000000000000000000000000 (by decide) (by decide)) hp
  have m4 := at_of (modD_pos (c / 6) 4 (by decide)) hp
  have m17 := at_of (modD_pos (c / 6) 17 (by decide)) hp
  cases h0 : (c % 6 == 0) with
  | true =>
    exact ⟨_, runF_at (env := E) ((sSeq_at s1).trans (sSeq_rtA ((ifT_at ((t 0).trans (by rw [h0]))).trans (sRet_at (eBin_atW (eBin_atW (eBin_atW (var_at rfl) (eBin_atW rfl rfl (at_of pow3 _)) m1) (eBin_atW (eBin_atW rfl p30 m3) rfl rfl) m2) p30 rfl)))))⟩
  | false =>
    cases h1 : (c % 6 == 1) with
    | true =>
      have g0 : 0 ≤ c / 6 % 4 := Int.emod_nonneg _ (by decide)
      have g1 : c / 6 % 4 < 4 := Int.emod_lt_of_pos _ (by decide)
      have nn : eNeg (eBin powD (eC (.int 10)) (eC (.int 30))) E hp = some (.int (-1000000000000000000000000000000), hp) := rfl
      obtain ⟨v, hv⟩ : ∃ v : Int, ixD (.lst [.int 1000000000000000000000000000000, .int (-1000000000000000000000000000000), .int (1000000000000000000000000000000 - 1), .int (1 - 1000000000000000000000000000000)]) (.int (c / 6 % 4)) hp = some (.int v, hp) := by
        rcases (by omega : c / 6 % 4 = 0 ∨ c / 6 % 4 = 1 ∨ c / 6 % 4 = 2 ∨ c / 6 % 4 = 3) with q | q | q | q <;> rw [q] <;> exact ⟨_, rfl⟩
      have ls : eLst (aCons (eBin powD (eC (.int 10)) (eC (.int 30))) (aCons (eNeg (eBin powD (eC (.int 10)) (eC (.int 30)))) (aCons (eBin subD (eBin powD (eC (.int 10)) (eC (.int 30))) (eC (.int 1))) (aCons (eBin subD (eC (.int 1)) (eBin powD (eC (.int 10)) (eC (.int 30)))) (aNil))))) E hp = some (.lst [.int 1000000000000000000000000000000, .int (-1000000000000000000000000000000), .int (1000000000000000000000000000000 - 1), .int (1 - 1000000000000000000000000000000)], hp) := rfl
      exact ⟨v, runF_at (env := E) ((sSeq_at s1).trans ((sSeq_at ((ifF_at ((t 0).trans (by rw [h0]))).trans nil_at)).trans (sSeq_rtA ((ifT_at ((t 1).trans (by rw [h1]))).trans (sRet_at (eBin_atW ls (eBin_atW (var_at rfl) rfl m4) hv))))))⟩
    | false =>
      exact ⟨_, runF_at (env := E) ((sSeq_at s1).trans ((sSeq_at ((ifF_at ((t 0).trans (by rw [h0]))).trans nil_at)).trans ((sSeq_at ((ifF_at ((t 1).trans (by rw [h1]))).trans nil_at)).trans (sRet_at (eBin_atW (eBin_atW (var_at rfl) rfl m17) rfl rfl)))))⟩
theorem worth0 (k : Int) (hp : Hs) : F_worth_of [emp, .int k] hp = some (.non, hp) := rfl
theorem beyond0 (k : Int) (hp : Hs) : F_beyond [emp, .int k] hp = some (.bl false, hp) := rfl
def wF (k : Int) : TR.Wk := TR.fresh (.find k)
def wE (k : Int) : TR.Wk := { wF k with ended := true }
theorem step31 {hp : Hs} {r a b k : Int} {n f q : Nat} (h0 : hp[0]? = some (.ins "Shelf" (shF r 1 0 a b))) (h1 : hp[1]? = some (.lst [emp])) (hw : hp[n]? = some (wkO 0 f q (wF k))) (hn : 2 ≤ n) :
    F_Walk_step [.ref n] hp = some (.tup [.str "found", .int 0, .non], (hp.set 0 (.ins "Shelf" (shF r 1 0 (a + 1) b))).set n (wkO 0 f q (wE k))) := by
  let E1 : Sl → Sl → En := fun x y => [.val (.ref n), x, y]
  let w1 : Hs := hp.set 0 (.ins "Shelf" (shF r 1 0 (a + 1) b))
  have rd : F_Shelf_read [.ref 0, .int 0] hp = some (emp, w1) := read_at (i := 0) h0 h1 (by decide) rfl
  have hw1 : w1[n]? = some (wkO 0 f q (wF k)) := (getSet_ne _ _ _ _ (by omega)).trans hw
  have e0 : ∀ (x y : Sl) (w : Hs), w[n]? = some (wkO 0 f q (wF k)) → eB (eFld "Walk" "ended" (eVar 0)) (E1 x y) w = some (false, w) := fun x y w h => eB_at (fld_at (var_at rfl) h (wkF_ended ..))
  have pl : ∀ (x y : Sl) (w : Hs), w[n]? = some (wkO 0 f q (wF k)) → eB (eBin isD (eFld "Walk" "place" (eVar 0)) (eC .non)) (E1 x y) w = some (true, w) := fun x y w h => eB_at (eBin_atW (fld_at (var_at rfl) h (wkF_place ..)) rfl rfl)
  have sh : ∀ (x y : Sl) (w : Hs), w[n]? = some (wkO 0 f q (wF k)) → eFld "Walk" "shelf" (eVar 0) (E1 x y) w = some (.ref 0, w) := fun x y w h => fld_at (var_at rfl) h (wkF_shelf ..)
  have gl : ∀ (x y : Sl) (w : Hs), w[n]? = some (wkO 0 f q (wF k)) → eFld "Walk" "goal" (eVar 0) (E1 x y) w = some (.int 0, w) := fun x y w h => fld_at (var_at rfl) h (wkF_goal ..)
  have am : ∀ (x y : Sl) (w : Hs), w[n]? = some (wkO 0 f q (wF k)) → eFld "Walk" "aim" (eVar 0) (E1 x y) w = some (.int k, w) := fun x y w h => fld_at (var_at rfl) h (wkF_aim ..)
  let E2 : En := E1 (.val (.int 0)) (.val emp)
  refine runF_at (env := E2) ?_
  refine (sSeq_at ((ifF_at (e0 .un .un hp hw)).trans nil_at)).trans ?_
  refine (sSeq_at (env1 := E1 (.val (.int 0)) .un) (sSet_at ((eIf_T (pl .un .un hp hw)).trans (meth_at (sh .un .un hp hw) h0 (shF_noroot ..) a0_at rfl (root_at h0))))).trans ?_
  refine (sSeq_at (env1 := E2) (hp1 := w1) (sSet_at (meth_at (sh _ .un hp hw) h0 (shF_noread ..) (a1_at (var_at rfl)) rfl rd))).trans ?_
  refine (sSeq_at ((ifF_at ((eAnd_T (pl _ _ w1 hw1)).trans (eB_at (eBin_atW (eBin_atW (x := emp) (var_at rfl) rfl (tup_ix (i := 0) rfl w1)) (gl _ _ w1 hw1) rfl)))).trans nil_at)).trans ?_
  refine (sSeq_at ((ifF_at (eB_at (call_at (a2_at (var_at rfl) (am _ _ w1 hw1)) rfl (beyond0 k w1)))).trans nil_at)).trans ?_
  refine (sSeq_at ((ifF_at (eB_at (eBin_atW (eBin_atW (x := emp) (var_at rfl) rfl (tup_ix (i := 0) rfl w1)) (gl _ _ w1 hw1) rfl))).trans nil_at)).trans ?_
  refine (sSeq_at ((ifF_at (eB_at (eBin_atW (gl _ _ w1 hw1) rfl rfl))).trans nil_at)).trans ?_
  refine sRet_at (meth_at (var_at rfl) hw1 (wkF_n2 ..) (a2_at (var_at rfl) (var_at rfl)) rfl ?_)
  have dd : ∀ (z : Sl), eFld "Walk" "deed" (eVar 0) [.val (.ref n), .val (.int 0), .val emp, z] w1 = some (.tup [.str "find", .int k], w1) := fun z => fld_at (var_at rfl) hw1 (wkF_deed ..)
  refine runF_at (env := [.val (.ref n), .val (.int 0), .val emp, .val (.str "find")]) ((sSeq_at (sSet_at (eBin_atW (dd .un) rfl (tup_ix (i := 0) rfl w1)))).trans (sSeq_rtA ((ifT_at (eB_at (eBin_atW (var_at rfl) rfl (eqS _ (by decide +kernel) (by decide +kernel) rfl)))).trans (sRet_at (meth_at (var_at rfl) hw1 (wkF_n6 ..) (a2_at (var_at rfl) (var_at rfl)) rfl ?_)))))
  let E3 : En := [.val (.ref n), .val (.int 0), .val emp]
  have hw2 : (w1.set n (wkO 0 f q (wF k)))[n]? = some (wkO 0 f q (wF k)) := getSet_self _ _ _ (by rw [hw1]; rfl)
  have x1 : sFldD "Walk" "worth" (eVar 0) (eCall 2 F_worth_of (aCons (eVar 2) (aCons (eFld "Walk" "aim" (eVar 0)) (aNil)))) E3 w1 = some ((.nx, E3), w1.set n (wkO 0 f q (wF k))) :=
    (fldD_at (call_at (a2_at (var_at rfl) (fld_at (var_at rfl) hw1 (wkF_aim ..))) rfl (worth0 k w1)) (var_at rfl) hw1 wl).trans (by rw [wkF_pworth]; rfl)
  have x2 : sFldD "Walk" "ended" (eVar 0) (eC (.bl true)) E3 (w1.set n (wkO 0 f q (wF k))) = some ((.nx, E3), w1.set n (wkO 0 f q (wE k))) :=
    (fldD_at (v := .bl true) rfl (var_at rfl) hw2 wl).trans (by rw [wkF_pended, List.set_set]; rfl)
  have hw3 : (w1.set n (wkO 0 f q (wE k)))[n]? = some (wkO 0 f q (wE k)) := getSet_self _ _ _ (by rw [hw1]; rfl)
  exact runF_at (env := E3) ((sSeq_at x1).trans ((sSeq_at x2).trans (sRet_at (tup_at (a3_at rfl (var_at rfl) (fld_at (var_at rfl) hw3 (wkF_worth ..))) (by simp)))))
theorem tailT_at {f g : DEx} {env : En} {hp : Hs} {ds : List DV} {a : Nat} (hf : f env hp = some (.tup ds, hp)) (hg : g env hp = some (.int (a : Int), hp)) : eSl f (oSome g) oNone env hp = some (.tup (ds.drop a), hp) := by
  unfold eSl oSome oNone
  rw [bind_at hf]
  have e1 : (do let i ← asI (← g env); pure (some i) : M (Option Int)) hp = some (some (a : Int), hp) := by rw [bind_at hg]; rfl
  rw [bind_at e1, bind_at (rfl : (pure none : M (Option Int)) hp = some (none, hp)), ← cut_drop ds a]; rfl
section
end
def wvF (t : Int) : List (Str × DV) := [("shelf", .ref 0), ("deeds", .ref 3), ("taken", .int t), ("held", .ref 4), ("done", .ref 5)]
theorem wv_shelf (t : Int) : List.lookup ("shelf" : Str) (wvF t) = some (DV.ref 0) := by rfl
theorem wv_deeds (t : Int) : List.lookup ("deeds" : Str) (wvF t) = some (DV.ref 3) := by rfl
theorem wv_taken (t : Int) : List.lookup ("taken" : Str) (wvF t) = some (DV.int t) := by rfl
theorem wv_held (t : Int) : List.lookup ("held" : Str) (wvF t) = some (DV.ref 4) := by rfl
theorem wv_done (t : Int) : List.lookup ("done" : Str) (wvF t) = some (DV.ref 5) := by rfl
theorem wv_put (t u : Int) : putFD ("taken" : Str) (.int u) (wvF t) = wvF u := by rfl
theorem wv_n1 (t : Int) : List.lookup ("step_walk" : Str) (wvF t) = none := by rfl
theorem wv_n2 (t : Int) : List.lookup ("take_deed" : Str) (wvF t) = none := by rfl
theorem wv_n3 (t : Int) : List.lookup ("move" : Str) (wvF t) = none := by rfl
theorem wv_n4 (t : Int) : List.lookup ("idle" : Str) (wvF t) = none := by rfl
theorem wv_n5 (t : Int) : List.lookup ("hand_in" : Str) (wvF t) = none := by rfl
theorem putR_at {e f g : DEx} {env : En} {w w1 : Hs} {a i : Nat} {ds : List DV} {d : DV} (he : e env w = some (d, w1)) (hf : f env w1 = some (.ref a, w1)) (ha : w1[a]? = some (.lst ds)) (hg : g env w1 = some (.int (i : Int), w1)) (hl : i < ds.length) : sAsg e (gSb f g) env w = some ((.nx, env), w1.set a (.lst (ds.set i d))) := by
  refine sAsg_at he ?_
  unfold gSb
  rw [bind_at hf, bind_at hg]
  have : putG (.ref a) (.int (i : Int)) d w1 = some ((), w1.set a (.lst (ds.set i d))) := by
    show (getW a >>= _) w1 = _
    rw [bind_at (getW_of ha)]
    show (asI (.int (i : Int)) >>= fun k => match ixN ds.length k with | some j => setW a (.lst (ds.set j d)) | none => failure) w1 = _
    rw [bind_at (rfl : asI (.int (i : Int)) w1 = some ((i : Int), w1)), ixN_nat hl]; rfl
  rw [bind_at this]; rfl
theorem fldA_at {c f : Str} {o e : DEx} {env : En} {hp : Hs} {a : Nat} {fs : List (Str × DV)} {x y : Int} (ho : o env hp = some (.ref a, hp)) (h : hp[a]? = some (.ins c fs)) (hf : fs.lookup f = some (.int x)) (he : e env hp = some (.int y, hp)) (hl : fs.length < 1000) : sFldA c f addI o e env hp = some ((.nx, env), hp.set a (.ins c (putFD f (.int (x + y)) fs))) := by
  unfold sFldA
  have e1 : getF c f (.ref a) hp = some (.int x, hp) := by unfold getF; rw [onI_run h, hf]; rfl
  have e2 : setF c f (.ref a) (.int (x + y)) hp = some ((), hp.set a (.ins c (putFD f (.int (x + y)) fs))) := by unfold setF; rw [onI_run h, decide_eq_true hl]; rfl
  rw [bind_at ho, bind_at e1, bind_at he, bind_at (rfl : addI (.int x) (.int y) hp = some (.int (x + y), hp)), bind_at e2]; rfl
section
variable {hp : Hs} {t h m w f q : Nat} {hs ds ys : List DV} {k r a b : Int}
theorem stepw31 (h0 : hp[0]? = some (.ins "Shelf" (shF r 1 0 a b))) (h1 : hp[1]? = some (.lst [emp])) (h2 : hp[2]? = some (.ins "Weaver" (wvF t))) (h4 : hp[4]? = some (.lst hs)) (h5 : hp[5]? = some (.lst ys)) (hh : hs[h]? = some (.tup [.int m, .ref w])) (hw : hp[w]? = some (wkO 0 f q (wF k))) (w7 : 7 ≤ w) (hy : ys.length < 1000) :
    F_Weaver_step_walk [.ref 2, .int h] hp = some (.tup [.str "found", .int h, .int m, .int 0, .non], (((hp.set 0 (.ins "Shelf" (shF r 1 0 (a + 1) b))).set w (wkO 0 f q (wE k))).set 4 (.lst (hs.set h .non))).set 5 (.lst (ys ++ [.tup [.int m, .ref w]]))) := by
  have hl : h < hs.length := (List.getElem?_eq_some_iff.mp hh).1
  let H : DV := .tup [.int m, .ref w]
  let T : DV := .tup [.str "found", .int 0, .non]
  let w1 : Hs := (hp.set 0 (.ins "Shelf" (shF r 1 0 (a + 1) b))).set w (wkO 0 f q (wE k))
  have st := step31 h0 h1 hw (by omega)
  have g : ∀ {i : Nat} {o : OV}, hp[i]? = some o → i ≠ 0 → i ≠ w → w1[i]? = some o := fun {i o} e n1 n2 => (getSet_ne _ _ _ _ (Ne.symm n2)).trans ((getSet_ne _ _ _ _ (Ne.symm n1)).trans e)
  have hw1 : w1[w]? = some (wkO 0 f q (wE k)) := getSet_self _ _ _ (by rw [getSet_ne _ _ _ _ (by omega), hw]; rfl)
  have h2' := g h2 (by decide) (by omega)
  have h4' := g h4 (by decide) (by omega)
  have h5' := g h5 (by decide) (by omega)
  let E : Sl → Sl → Sl → En := fun x y z => [.val (.ref 2), .val (.int h), x, y, z]
  let E5 : En := E (.val H) (.val (.ref w)) (.val T)
  let w2 : Hs := w1.set 4 (.lst (hs.set h .non))
  have h2'' : w2[2]? = some (.ins "Weaver" (wvF t)) := (getSet_ne _ _ _ _ (by decide)).trans h2'
  have h5'' : w2[5]? = some (.lst ys) := (getSet_ne _ _ _ _ (by decide)).trans h5'
  refine runF_at (env := E5) ?_
  refine (sSeq_at (env1 := E (.val H) .un .un) (sSet_at (eBin_atW (fld_at (var_at rfl) h2 (wv_held _)) (var_at rfl) (ixG_lst h4 hh)))).trans ?_
  refine (sSeq_at (env1 := E (.val H) (.val (.ref w)) .un) (sSet_at (eBin_atW (x := H) (var_at rfl) rfl (tup_ix (i := 1) rfl hp)))).trans ?_
  refine (sSeq_at (env1 := E5) (hp1 := w1) (sSet_at (meth_at (var_at rfl) hw (wkF_n10 ..) a0_at rfl st))).trans ?_
  have ov : F_Walk_over [.ref w] w1 = some (.bl true, w1) := over_at hw1
  refine (sSeq_at (env1 := E5) (hp1 := w2.set 5 (.lst (ys ++ [H]))) ((ifT_at (eB_at (meth_at (var_at rfl) hw1 (wkF_n11 ..) a0_at rfl ov))).trans ((sSeq_at (env1 := E5) (hp1 := w2) (putR_at rfl (fld_at (var_at rfl) h2' (wv_held _)) h4' (var_at rfl) hl)).trans (sDrop_at (append_at (fld_at (var_at rfl) h2'' (wv_done _)) h5'' (var_at rfl) (by omega)))))).trans ?_
  refine sRet_at (eBin_atW (tup_at (a3_at (eBin_atW (x := T) (var_at rfl) rfl (tup_ix (i := 0) rfl _)) (var_at rfl) (eBin_atW (x := H) (var_at rfl) rfl (tup_ix (i := 0) rfl _))) (by simp)) (tailT_at (a := 1) (ds := [.str "found", .int 0, .non]) (var_at rfl) rfl) rfl)
theorem take31 (h2 : hp[2]? = some (.ins "Weaver" (wvF t))) (h3 : hp[3]? = some (.lst ds)) (h4 : hp[4]? = some (.lst hs)) (hl : h < hs.length) (hd : ds[t]? = some (deedD (.find k))) :
    F_Weaver_take_deed [.ref 2, .int h] hp = some (.tup [.str "take", .int h, .int t], ((hp ++ [wkO 0 (hp.length + 1) (hp.length + 2) (wF k), .dic [], .lst []]).set 4 (.lst (hs.set h (.tup [.int t, .ref hp.length])))).set 2 (.ins "Weaver" (wvF (t + 1)))) := by
  let E : En := [.val (.ref 2), .val (.int h), .val (.int t)]
  let w1 : Hs := hp ++ [wkO 0 (hp.length + 1) (hp.length + 2) (wF k), .dic [], .lst []]
  have g : ∀ {i : Nat} {o : OV}, hp[i]? = some o → w1[i]? = some o := fun {i o} e => (List.getElem?_append_left (List.getElem?_eq_some_iff.mp e).1).trans e
  let w2 : Hs := w1.set 4 (.lst (hs.set h (.tup [.int t, .ref hp.length])))
  have h2' : w2[2]? = some (.ins "Weaver" (wvF t)) := (getSet_ne _ _ _ _ (by decide)).trans (g h2)
  have mk : eMake "Walk" 3 F_Walk___init__ (aCons (eFld "Weaver" "shelf" (eVar 0)) (aCons (eBin ixG (eFld "Weaver" "deeds" (eVar 0)) (eVar 2)) (aNil))) E hp = some (.ref hp.length, w1) := wmake_at (d := .find k) (a2_at (fld_at (var_at rfl) h2 (wv_shelf _)) (eBin_atW (fld_at (var_at rfl) h2 (wv_deeds _)) (var_at rfl) (ixG_lst h3 hd)))
  refine runF_at (env := E) ((sSeq_at (env1 := E) (sSet_at (fld_at (var_at rfl) h2 (wv_taken _)))).trans ?_)
  refine (sSeq_at (env1 := E) (hp1 := w2) (putR_at (tup_at (a2_at (var_at rfl) mk) (by simp)) (fld_at (var_at rfl) (g h2) (wv_held _)) (g h4) (var_at rfl) hl)).trans ?_
  refine (sSeq_at (env1 := E) (hp1 := w2.set 2 (.ins "Weaver" (wvF (t + 1)))) ((fldA_at (var_at rfl) h2' (wv_taken _) rfl (show (5 : Nat) < 1000 by decide)).trans (by rw [wv_put]))).trans ?_
  exact sRet_at (tup_at (a3_at rfl (var_at rfl) (var_at rfl)) (by simp))
end
theorem runR_at {n : Nat} {g : DRx} {ds : List DV} {hp : Hs} {r : Str × Hs} (h : g (ds.map .val ++ List.replicate (n - ds.length) .un) hp = some r) : runR n g ds hp = some r := h
theorem gIf_T {c : DTx} {g g' : DRx} {env : En} {hp hp1 : Hs} (h : c env hp = some (true, hp1)) : gIf c g g' env hp = g env hp1 := by unfold gIf; rw [gOf_at h]; rfl
theorem gMeth_at {c m : Str} {k n : Nat} {G : List DV → Hs → Option (Str × Hs)} {fo : DEx} {fa : DAx} {env : En} {hp hp1 : Hs} {fs : List (Str × DV)} {ds : List DV} {r : Str × Hs} (ho : fo env hp = some (.ref n, hp)) (h : hp[n]? = some (.ins c fs)) (hm : fs.lookup m = none) (ha : fa env hp = some (ds, hp1)) (hl : ds.length + 1 = k) (hG : G (.ref n :: ds) hp1 = some r) : gMeth c m k G fo fa env hp = some r := by
  unfold gMeth
  have e : onI c (.ref n) (fun _ fs => guardM (fs.lookup m).isNone) hp = some ((), hp) := by rw [onI_run h, hm]; rfl
  rw [gOf_at ho, gOf_at e, gOf_at ha, if_pos hl]; exact hG
theorem sTry_at {g : DRx} {c : Str} {i r o : Nat} {env : En} {hp hp1 : Hs} (h : g env hp = some (c, hp1)) (hi : i < env.length) : sTry g c i r o env hp = some ((.nx, (((env.set i .un).set r (.val (.bl true))).set o (.val (.bl false))).set i .un), hp1) := by
  unfold sTry
  rw [h]
  show (if c = c ∧ i < env.length then _ else _) = _
  rw [if_pos ⟨rfl, hi⟩]
theorem chain_at {g g' : DV → DV → M DV} {fa fb fc : DEx} {env : En} {hp : Hs} {x y z : DV} {b b' : Bool} (ha : fa env hp = some (x, hp)) (hb : fb env hp = some (y, hp)) (hc : fc env hp = some (z, hp)) (h1 : g x y = pure (.bl b)) (h2 : g' y z = pure (.bl b')) : eChain g g' fa fb fc env hp = some (.bl (b && b'), hp) := by
  unfold eChain
  rw [bind_at ha, bind_at hb, h1, pure_bind]
  show ((if b = true then _ else _ : M DV)) hp = _
  cases b with
  | false => rfl
  | true =>
    show (fc env >>= fun w => g' y w) hp = _
    rw [bind_at hc, h2]; cases b' <;> rfl
theorem compX_mapN {nxt : NX} {t : DV → M Bool} {f : DV → M DV} {g : DV → DV} {hp : Hs} (ds : List DV) (hx : ∀ i, i ≤ ds.length → nxt i hp = some (ds[i]?, hp)) (ht : ∀ d ∈ ds, t d hp = some (true, hp)) (hf : ∀ d ∈ ds, f d hp = some (g d, hp)) (hl : ds.length < 100000) : compX nxt t f 100000 0 hp = some (ds.map g, hp) := by
  suffices h : ∀ (m i n : Nat), m + i = ds.length → m < n → compX nxt t f n i hp = some ((ds.drop i).map g, hp) by simpa using h ds.length 0 100000 rfl hl
  intro m
  induction m with
  | zero =>
    intro i n e hn'
    obtain ⟨n, rfl⟩ : ∃ k, n = k + 1 := ⟨n - 1, by omega⟩
    have : i = ds.length := by omega
    subst this
    have e1 := hx ds.length (Nat.le_refl _)
    rw [show ds[ds.length]? = none by simp] at e1
    rw [compX, bind_at e1, List.drop_length]; rfl
  | succ m ih =>
    intro i n e hn'
    obtain ⟨n, rfl⟩ : ∃ k, n = k + 1 := ⟨n - 1, by omega⟩
    have hlt : i < ds.length := by omega
    have e1 := hx i (by omega)
    rw [List.getElem?_eq_getElem hlt] at e1
    rw [compX, bind_at e1]
    simp only
    rw [bind_at (ht ds[i] (List.getElem_mem hlt)), List.drop_eq_getElem_cons hlt]
    simp only [if_true]
    rw [bind_at (hf ds[i] (List.getElem_mem hlt)), bind_at (ih (i + 1) n (by omega) (by omega))]; rfl
theorem xLs_ref {f : DEx} {env : En} {hp : Hs} {n : Nat} {ds : List DV} (h : f env hp = some (.ref n, hp)) (hn : hp[n]? = some (.lst ds)) : xLs f env hp = some (nxW n, hp) := by
  unfold xLs
  rw [bind_at h]
  show (getW n >>= _) hp = _
  rw [bind_at (getW_of hn)]; rfl
theorem nxW_at {hp : Hs} {n : Nat} {ds : List DV} (hn : hp[n]? = some (.lst ds)) (i : Nat) : nxW n i hp = some (ds[i]?, hp) := by
  unfold nxW
  rw [bind_at (getW_of hn)]; rfl
theorem lsG_ref {hp : Hs} {n : Nat} {ds : List DV} (hn : hp[n]? = some (.lst ds)) : lsG (.ref n) hp = some (ds, hp) := by
  show (getW n >>= _) hp = _
  rw [bind_at (getW_of hn)]; rfl
theorem blM_map (p : DV → Bool) : ∀ ds : List DV, blM (ds.map fun d => .bl (p d)) = some (ds.map p)
  | [] => rfl
  | d :: r => by rw [List.map_cons, blM, blM_map p r]; rfl
theorem isi_at {f : DEx} {env : En} {hp hp1 : Hs} {b : Bool} (h : f env hp = some (.bl b, hp1)) : eIsi "bool" f env hp = some (.bl true, hp1) := by
  unfold eIsi
  rw [bind_at h]; rfl
section
variable {hp : Hs} {t h : Nat} {hs ds : List DV} {x : Int}
theorem idle31 (h2 : hp[2]? = some (.ins "Weaver" (wvF t))) (h3 : hp[3]? = some (.lst ds)) (h4 : hp[4]? = some (.lst hs)) (hl : hs.length < 1000) : F_Weaver_idle [.ref 2] hp = some (.bl (((t : Int) == (ds.length : Int)) && hs.all isN), hp) := by
  let E : En := [.val (.ref 2)]
  have cm : C_Weaver_idle_1 E hp = some (.lst (hs.map fun d => .bl (isN d)), hp) := by
    unfold C_Weaver_idle_1 eCompX
    rw [bind_at (xLs_ref (fld_at (var_at rfl) h2 (wv_held _)) h4)]
    have c := compX_mapN (nxt := nxW 4) (t := fun d => tAll (cE [] E d)) (f := fun d => eBin isD (eVar 0) (eC .non) (cE [] E d)) (g := fun d => .bl (isN d)) (hp := hp) hs (fun i _ => nxW_at h4 i) (fun d _ => rfl) (fun d _ => eBin_atW (var_at rfl) rfl rfl) (by omega)
    rw [show lim = 100000 from rfl, bind_at c]; rfl
  refine runF_at (env := E) (sRet_at ?_)
  rw [eAndV_at (eBin_atW (fld_at (var_at rfl) h2 (wv_taken _)) (lenR_at (fld_at (var_at rfl) h2 (wv_deeds _)) h3) (eqI _ _ _))]
  cases ((t : Int) == (ds.length : Int)) with
  | false => rfl
  | true =>
    rw [if_pos rfl]
    refine blt_at (a1_at cm) ?_
    show (lsG (.lst (hs.map fun d => .bl (isN d))) >>= _) hp = _
    rw [bind_at (rfl : lsG (.lst (hs.map fun d => DV.bl (isN d))) hp = some (hs.map fun d => .bl (isN d), hp)), blM_map]
    show some (DV.bl ((hs.map isN).all id), hp) = _
    rw [List.all_map]; rfl
theorem hand31 {d : DV} (h2 : hp[2]? = some (.ins "Weaver" (wvF t))) (h3 : hp[3]? = some (.lst ds)) (hl : ds.length < 1000) : F_Weaver_hand_in [.ref 2, d] hp = some (.int ds.length, hp.set 3 (.lst (ds ++ [d]))) := by
  have h2' : (hp.set 3 (.lst (ds ++ [d])))[2]? = some (.ins "Weaver" (wvF t)) := (getSet_ne _ _ _ _ (by decide)).trans h2
  have h3' : (hp.set 3 (.lst (ds ++ [d])))[3]? = some (.lst (ds ++ [d])) := getSet_self _ _ _ (by rw [h3]; rfl)
  refine runF_at (env := [.val (.ref 2), .val d]) ((sSeq_at (sDrop_at (append_at (fld_at (var_at rfl) h2 (wv_deeds _)) h3 (var_at rfl) (by omega)))).trans (sRet_at (eBin_atW (lenR_at (fld_at (var_at rfl) h2' (wv_deeds _)) h3') rfl ?_)))
  show some (DV.int (((ds ++ [d]).length : Int) - 1), _) = _
  rw [List.length_append]; simp
theorem chk31 (h2 : hp[2]? = some (.ins "Weaver" (wvF t))) (h4 : hp[4]? = some (.lst hs)) : eNot (eB (eChain leD ltD (eC (.int 0)) (eVar 1) (eBlt lenG (aCons (eFld "Weaver" "held" (eVar 0)) (aNil))))) [.val (.ref 2), .val (.int x)] hp = some (!(decide (0 ≤ x) && decide (x < hs.length)), hp) :=
  eNot_at (eB_at (chain_at rfl (var_at rfl) (lenR_at (fld_at (var_at rfl) h2 (wv_held _)) h4) rfl rfl))
theorem nohand31 (h2 : hp[2]? = some (.ins "Weaver" (wvF t))) (h4 : hp[4]? = some (.lst hs)) (hx : x < 0 ∨ (hs.length : Int) ≤ x) : F_law_refused [.ref 2, .int x] hp = some (.bl true, hp) := by
  let E : Sl → Sl → En := fun y z => [.val (.ref 2), .val (.int x), y, z, .un]
  have hb : (!(decide (0 ≤ x) && decide (x < hs.length))) = true := by
    rcases hx with q | q
    · rw [decide_eq_false (by omega)]; rfl
    · rw [decide_eq_false (p := x < hs.length) (by omega)]; simp
  have cc : eNot (eB (eChain leD ltD (eC (.int 0)) (eVar 1) (eBlt lenG (aCons (eFld "Weaver" "held" (eVar 0)) (aNil))))) [.val (.ref 2), .val (.int x)] hp = some (true, hp) := (chk31 h2 h4).trans (by rw [hb])
  have G : G_Weaver_move [.ref 2, .int x] hp = some (("NoHand" : Str), hp) := runR_at (n := 2) (ds := [.ref 2, .int x]) ((gIf_T cc).trans rfl)
  refine runF_at (env := E (.val (.bl true)) (.val (.bl false))) ((sSeq_at (env1 := E (.val (.bl false)) .un) (hp1 := hp) (sSet_at rfl)).trans ((sSeq_at (env1 := E (.val (.bl false)) (.val (.bl false))) (hp1 := hp) (sSet_at rfl)).trans ?_))
  exact (sSeq_at (env1 := E (.val (.bl true)) (.val (.bl false))) (sTry_at (gMeth_at (var_at rfl) h2 (wv_n3 _) (a1_at (var_at rfl)) rfl G) (by show 4 < 5; decide))).trans (sRet_at rfl)
theorem chkF31 (h2 : hp[2]? = some (.ins "Weaver" (wvF t))) (h4 : hp[4]? = some (.lst hs)) (hl : h < hs.length) : eNot (eB (eChain leD ltD (eC (.int 0)) (eVar 1) (eBlt lenG (aCons (eFld "Weaver" "held" (eVar 0)) (aNil))))) [.val (.ref 2), .val (.int h)] hp = some (false, hp) := by
  rw [chk31 h2 h4, decide_eq_true (p := (0 : Int) ≤ h) (by omega), decide_eq_true (p := (h : Int) < hs.length) (by omega)]; rfl
theorem isn31 {d : DV} (h2 : hp[2]? = some (.ins "Weaver" (wvF t))) (h4 : hp[4]? = some (.lst hs)) (hd : hs[h]? = some d) : eB (eBin isnD (eBin ixG (eFld "Weaver" "held" (eVar 0)) (eVar 1)) (eC .non)) [.val (.ref 2), .val (.int h)] hp = some (!isN d, hp) :=
  eB_at (eBin_atW (eBin_atW (fld_at (var_at rfl) h2 (wv_held _)) (var_at rfl) (ixG_lst h4 hd)) rfl rfl)
theorem moveS {d r : DV} {hp' : Hs} (h2 : hp[2]? = some (.ins "Weaver" (wvF t))) (h4 : hp[4]? = some (.lst hs)) (hd : hs[h]? = some d) (hn : isN d = false) (e : F_Weaver_step_walk [.ref 2, .int h] hp = some (r, hp')) : F_Weaver_move [.ref 2, .int h] hp = some (r, hp') :=
  runF_at (env := [.val (.ref 2), .val (.int h)]) ((sSeq_at ((ifF_at (chkF31 h2 h4 (List.getElem?_eq_some_iff.mp hd).1)).trans nil_at)).trans (sSeq_rtA ((ifT_at ((isn31 h2 h4 hd).trans (by rw [hn]; rfl))).trans (sRet_at (meth_at (var_at rfl) h2 (wv_n1 _) (a1_at (var_at rfl)) rfl e)))))
theorem moveT {d r : DV} {hp' : Hs} (h2 : hp[2]? = some (.ins "Weaver" (wvF t))) (h3 : hp[3]? = some (.lst ds)) (h4 : hp[4]? = some (.lst hs)) (hd : hs[h]? = some d) (hn : isN d = true) (ht : t < ds.length) (e : F_Weaver_take_deed [.ref 2, .int h] hp = some (r, hp')) : F_Weaver_move [.ref 2, .int h] hp = some (r, hp') :=
  runF_at (env := [.val (.ref 2), .val (.int h)]) ((sSeq_at ((ifF_at (chkF31 h2 h4 (List.getElem?_eq_some_iff.mp hd).1)).trans nil_at)).trans ((sSeq_at ((ifF_at ((isn31 h2 h4 hd).trans (by rw [hn]; rfl))).trans nil_at)).trans (sSeq_rtA ((ifT_at (eB_at (eBin_atW (fld_at (var_at rfl) h2 (wv_taken _)) (lenR_at (fld_at (var_at rfl) h2 (wv_deeds _)) h3) (show some (DV.bl (decide ((t : Int) < ds.length)), hp) = some (.bl true, hp) by rw [decide_eq_true (by omega)])))).trans (sRet_at (meth_at (var_at rfl) h2 (wv_n2 _) (a1_at (var_at rfl)) rfl e))))))
theorem moveR {d : DV} (h2 : hp[2]? = some (.ins "Weaver" (wvF t))) (h3 : hp[3]? = some (.lst ds)) (h4 : hp[4]? = some (.lst hs)) (hd : hs[h]? = some d) (hn : isN d = true) (ht : ¬ t < ds.length) : F_Weaver_move [.ref 2, .int h] hp = some (.tup [.str "rest", .int h], hp) :=
  runF_at (env := [.val (.ref 2), .val (.int h)]) ((sSeq_at ((ifF_at (chkF31 h2 h4 (List.getElem?_eq_some_iff.mp hd).1)).trans nil_at)).trans ((sSeq_at ((ifF_at ((isn31 h2 h4 hd).trans (by rw [hn]; rfl))).trans nil_at)).trans ((sSeq_at ((ifF_at (eB_at (eBin_atW (fld_at (var_at rfl) h2 (wv_taken _)) (lenR_at (fld_at (var_at rfl) h2 (wv_deeds _)) h3) (show some (DV.bl (decide ((t : Int) < ds.length)), hp) = some (.bl false, hp) by rw [decide_eq_false (by omega)])))).trans nil_at)).trans (sRet_at (tup_at (a2_at rfl (var_at rfl)) (by simp))))))
end
theorem same31_int (n : Nat) (i : Int) : F_law_same (n + 1) [.int i, .int i] = pure (.bl true) := by
  refine runF_rt (env := [.val (.int i), .val (.int i), .un, .un]) ?_
  refine (sSeq_nx ((sIf_f rfl).trans rfl)).trans ((sSeq_nx ((sIf_f rfl).trans rfl)).trans ((sSeq_nx ((sIf_f rfl).trans rfl)).trans (sRet_eq ?_)))
  simp [eAndV, eCall, aCons, aNil, F_law_whole, b_law_whole, runF, sRet, eIsi, eNotV, eVar, tyName, isiB, asB, eBin, eqD_int, guardM]
theorem same31_non (n : Nat) : F_law_same (n + 1) [.non, .non] = pure (.bl true) := rfl
theorem same31_loop (n : Nat) (D : DV) : ∀ (ds : List DV) (z2 z3 : Sl), (∀ d ∈ ds, F_law_same n [d, d] = pure (.bl true)) → ∃ y2 y3, forL (fun d env => do let env' ← gT [2, 3] d env; l_law_same_1 (F_law_same n) env') (zipL ds ds) [.val D, .val D, z2, z3] = pure (.nx, [.val D, .val D, y2, y3])
  | [], z2, z3, _ => ⟨z2, z3, by simp [zipL, forL]⟩
  | d :: ds, z2, z3, h => by
    obtain ⟨y2, y3, e⟩ := same31_loop n D ds (.val d) (.val d) fun x hx => h x (List.mem_cons_of_mem _ hx)
    refine ⟨y2, y3, ?_⟩
    have g : gT [2, 3] (.tup [d, d]) [.val D, .val D, z2, z3] = pure [.val D, .val D, .val d, .val d] := rfl
    have b : l_law_same_1 (F_law_same n) [.val D, .val D, .val d, .val d] = pure (.nx, [.val D, .val D, .val d, .val d]) :=
      (sIf_f (eNot_eq (b := true) (eB_eq (eCall2 (x := d) (y := d) rfl rfl (h d (by simp)))))).trans rfl
    simp only [zipL, forL, g, pure_bind, b, e]
theorem same31_tup (n : Nat) (ds : List DV) (h : ∀ d ∈ ds, F_law_same n [d, d] = pure (.bl true)) : F_law_same (n + 1) [.tup ds, .tup ds] = pure (.bl true) := by
  obtain ⟨y2, y3, e⟩ := same31_loop n (.tup ds) ds .un .un h
  refine runF_rt (env := [.val (.tup ds), .val (.tup ds), y2, y3]) ?_
  refine sSeq_rt ((sIf_t rfl).trans ?_)
  have t2 : eB (eBin neD (eBlt lenF (aCons (eVar 0) aNil)) (eBlt lenF (aCons (eVar 1) aNil))) [.val (.tup ds), .val (.tup ds), .un, .un] = pure false :=
    eB_eq (eBin_eq (x := .int ds.length) (y := .int ds.length) rfl rfl ((neD_int _ _).trans (by simp)))
  refine (sSeq_nx ((sIf_f rfl).trans rfl)).trans ((sSeq_nx ((sIf_f t2).trans rfl)).trans ((sSeq_nx ((sFor_zip (ds := ds) (es := ds) rfl rfl).trans e)).trans (sRet_eq rfl)))
theorem same31_str (n : Nat) (x : Str) (h : PyData.strOk x = true) : F_law_same (n + 1) [.str x, .str x] = pure (.bl true) := by
  refine runF_rt (env := [.val (.str x), .val (.str x), .un, .un]) ?_
  refine (sSeq_nx ((sIf_f rfl).trans rfl)).trans ((sSeq_nx ((sIf_f rfl).trans rfl)).trans (sSeq_rt ((sIf_t rfl).trans (sRet_eq ?_))))
  have e : eqD (.str x) (.str x) = pure (.bl true) := by
    unfold eqD
    rw [okP_str h]
    have : PyData.eqv (toP (.str x)) (toP (.str x)) = true := by simp [toP, PyData.eqv]
    rw [this]; rfl
  have e1 : eBin eqD (eVar 0) (eVar 1) [.val (.str x), .val (.str x), .un, .un] = pure (.bl true) := eBin_eq (x := .str x) (y := .str x) rfl rfl e
  show (eIsi "str" (eVar 0) [.val (.str x), .val (.str x), .un, .un] >>= _) = _
  rw [show eIsi "str" (eVar 0) [.val (.str x), .val (.str x), .un, .un] = pure (.bl true) from rfl, pure_bind]
  exact e1
def Hold (hp : Hs) (x : Int) (d : DV) : Prop := (x = -1 ∧ d = .non) ∨ ∃ (m w f q : Nat) (k : Int), x = m ∧ d = .tup [.int m, .ref w] ∧ 7 ≤ w ∧ hp[w]? = some (wkO 0 f q (wF k))
structure Wv (n hd tk i : Nat) (ls : List Int) (hs : List DV) (hp : Hs) : Prop where
  sh : ∃ r a b : Int, hp[0]? = some (.ins "Shelf" (shF r 1 0 a b))
  pg : hp[1]? = some (.lst [emp])
  wv : hp[2]? = some (.ins "Weaver" (wvF tk))
  dd : ∃ ds : List DV, hp[3]? = some (.lst ds) ∧ ds.length = hd ∧ ∀ d ∈ ds, ∃ k : Int, d = deedD (.find k)
  hh : hp[4]? = some (.lst hs)
  hl : hs.length = n
  dn : ∃ ys : List DV, hp[5]? = some (.lst ys) ∧ ys.length ≤ i
  ll : hp[6]? = some (.lst (ls.map .int))
  ln : ls.length = n
  hold : ∀ (j : Nat) (x : Int) (d : DV), ls[j]? = some x → hs[j]? = some d → Hold hp x d
  dist : ∀ (j l : Nat) (x y : Int) (w : Nat), hs[j]? = some (.tup [.int x, .ref w]) → hs[l]? = some (.tup [.int y, .ref w]) → j = l
theorem Hold.keep {hp hp' : Hs} {x : Int} {d : DV} (H : Hold hp x d) (k : ∀ (m w : Nat) (o : OV), d = .tup [.int m, .ref w] → 7 ≤ w → hp[w]? = some o → hp'[w]? = hp[w]?) : Hold hp' x d := by
  rcases H with h | ⟨m, w, f, q, kk, h1, h2, h3, h4⟩
  · exact .inl h
  · exact .inr ⟨m, w, f, q, kk, h1, h2, h3, (k m w _ h2 h3 h4).trans h4⟩
def S5 : DSx := sIf (eB (eBin geD (eBin ixG (eVar 6) (eVar 7)) (eC (.int 0)))) (sSeq (sSet 8 (eTup (aCons (eC (.str "found")) (aCons (eVar 7) (aCons (eBin ixG (eVar 6) (eVar 7)) (aCons (eC (.int 0)) (aCons (eC .non) (aNil)))))))) (sAsg (eNeg (eC (.int 1))) (gSb (eVar 6) (eVar 7)))) (sIf (eB (eBin ltD (eVar 5) (eVar 4))) (sSeq (sSet 8 (eTup (aCons (eC (.str "take")) (aCons (eVar 7) (aCons (eVar 5) (aNil)))))) (sSeq (sAsg (eVar 5) (gSb (eVar 6) (eVar 7))) (sAug 5 addI (eC (.int 1))))) (sNil))
def EL (X : DV) (c : Int) (n hd tk : Nat) (z7 z8 z9 z10 : Sl) : En := [.val X, .val (.int c), .val (.int n), .val (.ref 2), .val (.int hd), .val (.int tk), .val (.ref 6), z7, z8, z9, z10]
theorem str31 : PyData.strOk "rest" = true ∧ PyData.strOk "found" = true ∧ PyData.strOk "take" = true := by decide +kernel
section
variable {n hd tk i h : Nat} {ls : List Int} {hs : List DV} {hp : Hs}
theorem stepC (W : Wv n hd tk i ls hs hp) (hn : h < n) (hi : i < 900) (ht' : tk ≤ hd) (X : DV) (c : Int) (z9 z10 : Sl) : ∃ (tk' : Nat) (ls' : List Int) (hs' : List DV) (hp1 hp' : Hs) (due : DV), S5 (EL X c n hd tk (.val (.int h)) (.val (.tup [.str "rest", .int h])) z9 z10) hp = some ((.nx, EL X c n hd tk' (.val (.int h)) (.val due) z9 z10), hp1) ∧ hp1[2]? = some (.ins "Weaver" (wvF tk)) ∧ F_Weaver_move [.ref 2, .int h] hp1 = some (due, hp') ∧ F_law_same 6 [due, due] = pure (.bl true) ∧ tk' ≤ hd ∧ Wv n hd tk' (i + 1) ls' hs' hp' := by
  obtain ⟨x, hx⟩ : ∃ x, ls[h]? = some x := ⟨_, List.getElem?_eq_getElem (by rw [W.ln]; exact hn)⟩
  obtain ⟨d, hd'⟩ : ∃ d, hs[h]? = some d := ⟨_, List.getElem?_eq_getElem (by rw [W.hl]; exact hn)⟩
  let E : Nat → Sl → En := fun t z => EL X c n hd t (.val (.int h)) z z9 z10
  have ix : ∀ z, eBin ixG (eVar 6) (eVar 7) (E tk z) hp = some (.int x, hp) := fun z => eBin_atW (var_at rfl) (var_at rfl) (ixG_lst W.ll (by rw [List.getElem?_map, hx]; rfl))
  have l6 : 6 < hp.length := (List.getElem?_eq_some_iff.mp W.ll).1
  obtain ⟨r, a, b, h0⟩ := W.sh
  obtain ⟨ds, h3, hdl, dok⟩ := W.dd
  obtain ⟨ys, h5, hyl⟩ := W.dn
  let R : DV := .tup [.str "rest", .int h]
  have t0 : eB (eBin geD (eBin ixG (eVar 6) (eVar 7)) (eC (.int 0))) (E tk (.val R)) hp = some (decide (0 ≤ x), hp) := eB_at (eBin_atW (ix _) rfl rfl)
  rcases W.hold h x d hx hd' with ⟨rfl, rfl⟩ | ⟨m, w, f, q, k, rfl, rfl, w7, hw⟩
  · by_cases ht : tk < hd
    · let D : DV := .tup [.str "take", .int h, .int tk]
      let hp1 : Hs := hp.set 6 (.lst ((ls.set h tk).map .int))
      have g1 : ∀ {j : Nat}, j ≠ 6 → hp1[j]? = hp[j]? := fun {j} e => getSet_ne _ _ _ _ (Ne.symm e)
      have L1 : hp1.length = hp.length := by simp [hp1]
      obtain ⟨k, hk⟩ := dok ds[tk] (List.getElem_mem (by omega))
      have hk' : ds[tk]? = some (deedD (.find k)) := by rw [List.getElem?_eq_getElem (by omega), hk]
      have mv := take31 (h := h) (hs := hs) ((g1 (by decide)).trans W.wv) ((g1 (by decide)).trans h3) ((g1 (by decide)).trans W.hh) (by rw [W.hl]; exact hn) hk'
      let hp' : Hs := ((hp1 ++ [wkO 0 (hp1.length + 1) (hp1.length + 2) (wF k), .dic [], .lst []]).set 4 (.lst (hs.set h (.tup [.int tk, .ref hp1.length])))).set 2 (.ins "Weaver" (wvF (tk + 1)))
      have g2 : ∀ {j : Nat}, j < hp.length → j ≠ 2 → j ≠ 4 → hp'[j]? = hp1[j]? := fun {j} e n1 n2 => (getSet_ne _ _ _ _ (Ne.symm n1)).trans ((getSet_ne _ _ _ _ (Ne.symm n2)).trans (List.getElem?_append_left (by rw [L1]; exact e)))
      have hL : hp'[hp1.length]? = some (wkO 0 (hp1.length + 1) (hp1.length + 2) (wF k)) := (getSet_ne _ _ _ _ (by rw [L1]; omega)).trans ((getSet_ne _ _ _ _ (by rw [L1]; omega)).trans (by simp))
      have hm : hp1[6]? = some (.lst ((ls.set h tk).map .int)) := getSet_self _ _ _ (by rw [W.ll]; rfl)
      refine ⟨tk + 1, ls.set h tk, hs.set h (.tup [.int tk, .ref hp1.length]), hp1, hp', D, ?_, (g1 (by decide)).trans W.wv, moveT ((g1 (by decide)).trans W.wv) ((g1 (by decide)).trans h3) ((g1 (by decide)).trans W.hh) hd' rfl (by omega) mv, same31_tup 5 _ fun d hd => ?_, by omega, ?_⟩
      · have pt : sAsg (eVar 5) (gSb (eVar 6) (eVar 7)) (E tk (.val D)) hp = some ((.nx, E tk (.val D)), hp1) := (putR_at (var_at rfl) (var_at rfl) W.ll (var_at rfl) (by rw [List.length_map, W.ln]; exact hn)).trans (by rw [show (ls.map DV.int).set h (.int tk) = (ls.set h (tk : Int)).map .int by rw [List.map_set]])
        have au : sAug 5 addI (eC (.int 1)) (E tk (.val D)) hp1 = some ((.nx, E (tk + 1) (.val D)), hp1) := rfl
        refine (ifF_at (t0.trans (by rw [decide_eq_false (by decide)]))).trans ((ifT_at (eB_at (eBin_atW (var_at rfl) (var_at rfl) (show some (DV.bl (decide ((tk : Int) < (hd : Int))), hp) = some (.bl true, hp) by rw [decide_eq_true (by omega)])))).trans ?_)
        exact (sSeq_at (env1 := E tk (.val D)) (sSet_at (tup_at (a3_at rfl (var_at rfl) (var_at rfl)) (by simp)))).trans ((sSeq_at pt).trans au)
      · simp only [D, List.mem_cons, List.not_mem_nil, or_false] at hd
        rcases hd with rfl | rfl | rfl
        · exact same31_str 4 _ str31.2.2
        · exact same31_int 4 _
        · exact same31_int 4 _
      · refine ⟨⟨r, a, b, (g2 (by omega) (by decide) (by decide)).trans ((g1 (by decide)).trans h0)⟩, (g2 (by omega) (by decide) (by decide)).trans ((g1 (by decide)).trans W.pg), getSet_self _ _ _ ?_, ⟨ds, (g2 (by omega) (by decide) (by decide)).trans ((g1 (by decide)).trans h3), hdl, dok⟩, (getSet_ne _ _ _ _ (by decide)).trans (getSet_self _ _ _ ?_), by rw [List.length_set]; exact W.hl, ⟨ys, (g2 (by omega) (by decide) (by decide)).trans ((g1 (by decide)).trans h5), by omega⟩, (g2 (by omega) (by decide) (by decide)).trans hm, by rw [List.length_set]; exact W.ln, fun j x d e1 e2 => ?_, fun j l x y w e1 e2 => ?_⟩
        · rw [getSet_ne _ _ _ _ (by decide), List.getElem?_append_left (by rw [L1]; omega), g1 (by decide), W.wv]; rfl
        · rw [List.getElem?_append_left (by rw [L1]; omega), g1 (by decide), W.hh]; rfl
        · by_cases e : h = j
          · subst e
            rw [List.getElem?_set_self (by rw [W.ln]; exact hn)] at e1
            rw [List.getElem?_set_self (by rw [W.hl]; exact hn)] at e2
            cases e1; cases e2
            exact .inr ⟨tk, hp1.length, _, _, k, rfl, rfl, by omega, hL⟩
          · rw [List.getElem?_set_ne e] at e1 e2
            refine (W.hold j x d e1 e2).keep fun m w o q1 q2 q3 => ?_
            exact (g2 (List.getElem?_eq_some_iff.mp q3).1 (by omega) (by omega)).trans (g1 (by omega))
        · have no : ∀ (j : Nat) (x : Int), h ≠ j → hs[j]? = some (.tup [.int x, .ref hp1.length]) → False := fun j x e q => by
            have hj : j < n := by have := (List.getElem?_eq_some_iff.mp q).1; rw [W.hl] at this; exact this
            rcases W.hold j _ _ (List.getElem?_eq_getElem (by rw [W.ln]; exact hj)) q with ⟨_, z⟩ | ⟨m, w, f, q, kk, z1, z2, z3, z4⟩
            · cases z
            · cases z2
              have := (List.getElem?_eq_some_iff.mp z4).1
              omega
          by_cases e : h = j
          · by_cases e' : h = l
            · omega
            · subst e
              rw [List.getElem?_set_self (by rw [W.hl]; exact hn)] at e1
              rw [List.getElem?_set_ne e'] at e2
              cases e1
              exact (no l y e' e2).elim
          · by_cases e' : h = l
            · subst e'
              rw [List.getElem?_set_self (by rw [W.hl]; exact hn)] at e2
              rw [List.getElem?_set_ne e] at e1
              cases e2
              exact (no j x e e1).elim
            · rw [List.getElem?_set_ne e] at e1
              rw [List.getElem?_set_ne e'] at e2
              exact W.dist j l x y w e1 e2
    · refine ⟨tk, ls, hs, hp, hp, R, ?_, W.wv, moveR W.wv h3 W.hh hd' rfl (by omega), same31_tup 5 _ fun d hd => ?_, ht', { W with dn := ⟨ys, h5, by omega⟩ }⟩
      · refine (ifF_at (t0.trans (by rw [decide_eq_false (by decide)]))).trans ((ifF_at (eB_at (eBin_atW (var_at rfl) (var_at rfl) (show some (DV.bl (decide ((tk : Int) < (hd : Int))), hp) = some (.bl false, hp) by rw [decide_eq_false (by omega)])))).trans nil_at)
      · simp only [R, List.mem_cons, List.not_mem_nil, or_false] at hd
        rcases hd with rfl | rfl
        · exact same31_str 4 _ str31.1
        · exact same31_int 4 _
  · let D : DV := .tup [.str "found", .int h, .int m, .int 0, .non]
    let hp1 : Hs := hp.set 6 (.lst ((ls.set h (-1)).map .int))
    have g1 : ∀ {j : Nat}, j ≠ 6 → hp1[j]? = hp[j]? := fun {j} e => getSet_ne _ _ _ _ (Ne.symm e)
    have mv := stepw31 (h := h) (hs := hs) ((g1 (by decide)).trans h0) ((g1 (by decide)).trans W.pg) ((g1 (by decide)).trans W.wv) ((g1 (by decide)).trans W.hh) ((g1 (by decide)).trans h5) hd' ((g1 (by omega)).trans hw) w7 (by omega)
    let hp' : Hs := (((hp1.set 0 (.ins "Shelf" (shF r 1 0 (a + 1) b))).set w (wkO 0 f q (wE k))).set 4 (.lst (hs.set h .non))).set 5 (.lst (ys ++ [.tup [.int m, .ref w]]))
    have g2 : ∀ {j : Nat}, j ≠ 0 → j ≠ w → j ≠ 4 → j ≠ 5 → hp'[j]? = hp1[j]? := fun {j} n1 n2 n3 n4 => (getSet_ne _ _ _ _ (Ne.symm n4)).trans ((getSet_ne _ _ _ _ (Ne.symm n3)).trans ((getSet_ne _ _ _ _ (Ne.symm n2)).trans (getSet_ne _ _ _ _ (Ne.symm n1))))
    have hm : hp1[6]? = some (.lst ((ls.set h (-1)).map .int)) := getSet_self _ _ _ (by rw [W.ll]; rfl)
    refine ⟨tk, ls.set h (-1), hs.set h .non, hp1, hp', D, ?_, (g1 (by decide)).trans W.wv, moveS ((g1 (by decide)).trans W.wv) ((g1 (by decide)).trans W.hh) hd' rfl mv, same31_tup 5 _ fun d hd => ?_, ht', ?_⟩
    · have pt : sAsg (eNeg (eC (.int 1))) (gSb (eVar 6) (eVar 7)) (E tk (.val D)) hp = some ((.nx, E tk (.val D)), hp1) := (putR_at (d := .int (-1)) rfl (var_at rfl) W.ll (var_at rfl) (by rw [List.length_map, W.ln]; exact hn)).trans (by rw [show (ls.map DV.int).set h (.int (-1)) = (ls.set h (-1)).map .int by rw [List.map_set]])
      refine (ifT_at (t0.trans (by rw [decide_eq_true (by omega)]))).trans ?_
      exact (sSeq_at (env1 := E tk (.val D)) (sSet_at (tup_at (a5_at rfl (var_at rfl) (ix _) rfl rfl) (by simp)))).trans pt
    · simp only [D, List.mem_cons, List.not_mem_nil, or_false] at hd
      rcases hd with rfl | rfl | rfl | rfl | rfl
      · exact same31_str 4 _ str31.2.1
      · exact same31_int 4 _
      · exact same31_int 4 _
      · exact same31_int 4 _
      · exact same31_non 4
    · have lh : ∀ {j : Nat} {o : OV}, hp[j]? = some o → j ≠ 6 → (hp1[j]?).isSome = true := fun {j o} e n => by rw [g1 n, e]; rfl
      refine ⟨⟨r, a + 1, b, ?_⟩, (g2 (by decide) (by omega) (by decide) (by decide)).trans ((g1 (by decide)).trans W.pg), (g2 (by decide) (by omega) (by decide) (by decide)).trans ((g1 (by decide)).trans W.wv), ⟨ds, (g2 (by decide) (by omega) (by decide) (by decide)).trans ((g1 (by decide)).trans h3), hdl, dok⟩, (getSet_ne _ _ _ _ (by decide)).trans (getSet_self _ _ _ ?_), by rw [List.length_set]; exact W.hl, ⟨_, getSet_self _ _ _ ?_, by rw [List.length_append]; simp; omega⟩, (g2 (by decide) (by omega) (by decide) (by decide)).trans hm, by rw [List.length_set]; exact W.ln, fun j x d e1 e2 => ?_, fun j l x y w e1 e2 => ?_⟩
      · refine (getSet_ne _ _ _ _ (by decide)).trans ((getSet_ne _ _ _ _ (by decide)).trans ((getSet_ne _ _ _ _ (by omega)).trans (getSet_self _ _ _ (by rw [g1 (by decide), h0]; rfl))))
      · rw [getSet_ne _ _ _ _ (by omega), getSet_ne _ _ _ _ (by decide), g1 (by decide), W.hh]; rfl
      · rw [getSet_ne _ _ _ _ (by decide), getSet_ne _ _ _ _ (by omega), getSet_ne _ _ _ _ (by decide), g1 (by decide), h5]; rfl
      · by_cases e : h = j
        · subst e
          rw [List.getElem?_set_self (by rw [W.ln]; exact hn)] at e1
          rw [List.getElem?_set_self (by rw [W.hl]; exact hn)] at e2
          cases e1; cases e2
          exact .inl ⟨rfl, rfl⟩
        · rw [List.getElem?_set_ne e] at e1 e2
          refine (W.hold j x d e1 e2).keep fun m' w' o q1 q2 q3 => ?_
          subst q1
          exact (g2 (by omega) (fun z => by subst z; exact e (W.dist h j _ _ _ hd' e2)) (by omega) (by omega)).trans (g1 (by omega))
      · have ne : ∀ (j : Nat) (x : Int), (hs.set h .non)[j]? = some (.tup [.int x, .ref w]) → hs[j]? = some (.tup [.int x, .ref w]) := fun j x z => by
          by_cases e : h = j
          · subst e; rw [List.getElem?_set_self (by rw [W.hl]; exact hn)] at z; cases z
          · rwa [List.getElem?_set_ne e] at z
        exact W.dist j l x y w (ne j x e1) (ne l y e2)
end
section
variable {n hd tk i : Nat} {ls : List Int} {hs : List DV} {hp : Hs}
theorem all31 (W : Wv n hd tk i ls hs hp) (n1 : 1 ≤ n) : hs.all isN = decide (best ls < 0) := by
  have ne : ls ≠ [] := fun e => by have := W.ln; rw [e] at this; simp at this; omega
  by_cases h : hs.all isN = true
  · rw [h]
    refine (decide_eq_true ?_).symm
    obtain ⟨j, hj, e⟩ := List.getElem_of_mem (best_mem ne)
    have hj' : j < hs.length := by rw [W.hl, ← W.ln]; exact hj
    rcases W.hold j _ _ (List.getElem?_eq_getElem hj) (List.getElem?_eq_getElem hj') with ⟨z, _⟩ | ⟨m, w, f, q, k, z1, z2, _⟩
    · rw [← e, z]; decide
    · have := List.all_eq_true.mp h _ (List.getElem_mem hj')
      rw [z2] at this; cases this
  · rw [Bool.eq_false_iff.mpr h]
    refine (decide_eq_false fun lt => h (List.all_eq_true.mpr fun d hd' => ?_)).symm
    obtain ⟨j, hj, e⟩ := List.getElem_of_mem hd'
    have hj' : j < ls.length := by rw [W.ln, ← W.hl]; exact hj
    have ge := best_ge (List.getElem_mem hj')
    rcases W.hold j _ _ (List.getElem?_eq_getElem hj') (List.getElem?_eq_getElem hj) with ⟨_, z⟩ | ⟨m, w, f, q, k, z1, z2, _⟩
    · rw [← e, z]; rfl
    · omega
theorem max31 (W : Wv n hd tk i ls hs hp) (n1 : 1 ≤ n) : maxW [.ref 6] hp = some (.int (best ls), hp) := by
  have ne : ls ≠ [] := fun e => by have := W.ln; rw [e] at this; simp at this; omega
  show (lsG (.ref 6) >>= _) hp = _
  rw [bind_at (lsG_ref W.ll), inM_map]
  show (guardM (decide (ls ≠ [])) >>= fun _ => pure (DV.int (best ls)) : M DV) hp = _
  rw [decide_eq_true ne]; rfl
def SA : DSx := sIf (eB (eBin eqG (eBin modD (eVar 1) (eC (.int 3))) (eC (.int 0)))) (sSeq (sIf (eNot (eB (eCall 2 (F_law_same 6) (aCons (eMeth "Weaver" "hand_in" 2 F_Weaver_hand_in (eVar 3) (aCons (eTup (aCons (eC (.str "find")) (aCons (eCall 1 F_law_key (aCons (eBin divD (eVar 1) (eC (.int 3))) (aNil))) (aNil)))) (aNil))) (aCons (eVar 4) (aNil)))))) (sRet (eC (.bl false))) (sNil)) (sAug 4 addI (eC (.int 1)))) (sNil)
def SB : DSx := sIf (eB (eBin eqG (eBin modD (eBin divD (eVar 1) (eC (.int 3))) (eC (.int 4))) (eC (.int 1)))) (sSeq (sSet 10 (eLst (aCons (eBin subD (eNeg (eC (.int 1))) (eBin modD (eBin divD (eVar 1) (eC (.int 24))) (eBin powD (eC (.int 10)) (eC (.int 60))))) (aCons (eBin addD (eVar 2) (eBin modD (eBin divD (eVar 1) (eC (.int 24))) (eBin powD (eC (.int 10)) (eC (.int 60))))) (aCons (eVar 2) (aCons (eNeg (eC (.int 1))) (aNil))))))) (sIf (eNot (eB (eCall 2 F_law_refused (aCons (eVar 3) (aCons (eBin ixG (eVar 10) (eBin modD (eBin divD (eVar 1) (eC (.int 12))) (eC (.int 4)))) (aNil)))))) (sRet (eC (.bl false))) (sNil))) (sNil)
theorem partA (W : Wv n hd tk i ls hs hp) (hi : hd < 900) {c : Int} (hc : bitsOk c) (X : DV) (z7 z8 z9 z10 : Sl) : ∃ hd' hp', SA (EL X c n hd tk z7 z8 z9 z10) hp = some ((.nx, EL X c n hd' tk z7 z8 z9 z10), hp') ∧ Wv n hd' tk i ls hs hp' ∧ hd ≤ hd' ∧ hd' ≤ hd + 1 := by
  let E : En := EL X c n hd tk z7 z8 z9 z10
  have m3 := at_of (modD_pos c 3 (by decide)) hp
  have d3 := at_of (divD_pos c 3 (by decide) (by decide)) hp
  have t : eB (eBin eqG (eBin modD (eVar 1) (eC (.int 3))) (eC (.int 0))) E hp = some (c % 3 == 0, hp) := eB_at (eBin_atW (eBin_atW (var_at rfl) rfl m3) rfl (eqI _ _ _))
  cases h0 : (c % 3 == 0) with
  | false => exact ⟨hd, hp, (ifF_at (t.trans (by rw [h0]))).trans nil_at, W, Nat.le_refl _, Nat.le_succ _⟩
  | true =>
    obtain ⟨k, ke⟩ := key31 (c / 3) (bitsOk_div hc (by decide)) hp
    obtain ⟨ds, h3, hdl, dok⟩ := W.dd
    have hi' := hand31 (d := deedD (.find k)) W.wv h3 (by omega)
    rw [hdl] at hi'
    let hp' : Hs := hp.set 3 (.lst (ds ++ [deedD (.find k)]))
    have g : ∀ {j : Nat}, j ≠ 3 → hp'[j]? = hp[j]? := fun {j} e => getSet_ne _ _ _ _ (Ne.symm e)
    refine ⟨hd + 1, hp', ?_, ?_, by omega, by omega⟩
    · have dk : eTup (aCons (eC (.str "find")) (aCons (eCall 1 F_law_key (aCons (eBin divD (eVar 1) (eC (.int 3))) (aNil))) (aNil))) E hp = some (deedD (.find k), hp) := tup_at (a2_at rfl (call_at (a1_at (eBin_atW (var_at rfl) rfl d3)) rfl ke)) (by simp)
      have cl : eNot (eB (eCall 2 (F_law_same 6) (aCons (eMeth "Weaver" "hand_in" 2 F_Weaver_hand_in (eVar 3) (aCons (eTup (aCons (eC (.str "find")) (aCons (eCall 1 F_law_key (aCons (eBin divD (eVar 1) (eC (.int 3))) (aNil))) (aNil)))) (aNil))) (aCons (eVar 4) (aNil))))) E hp = some (false, hp') :=
        eNot_at (b := true) (eB_at (call_at (a2_at (meth_at (var_at rfl) W.wv (wv_n5 _) (a1_at dk) rfl hi') (var_at rfl)) rfl (at_of (same31_int 5 _) _)))
      exact (ifT_at (t.trans (by rw [h0]))).trans ((sSeq_at (env1 := E) (hp1 := hp') ((ifF_at cl).trans nil_at)).trans rfl)
    · obtain ⟨r, a, b, h0⟩ := W.sh
      obtain ⟨ys, h5, hyl⟩ := W.dn
      exact ⟨⟨r, a, b, (g (by decide)).trans h0⟩, (g (by decide)).trans W.pg, (g (by decide)).trans W.wv, ⟨_, getSet_self _ _ _ (by rw [h3]; rfl), by rw [List.length_append, hdl]; rfl, fun d hd => by
        rcases List.mem_append.mp hd with hd | hd
        · exact dok d hd
        · exact ⟨k, List.mem_singleton.mp hd⟩⟩, (g (by decide)).trans W.hh, W.hl, ⟨ys, (g (by decide)).trans h5, hyl⟩, (g (by decide)).trans W.ll, W.ln, fun j x d e1 e2 => (W.hold j x d e1 e2).keep fun m w o q1 q2 q3 => g (by omega), W.dist⟩
theorem pow60 : powD (.int 10) (.int 60) = pure (.int 1000000000000000000000000000000000000000000000000000000000000) := rfl
theorem partB (W : Wv n hd tk i ls hs hp) (c : Int) (X : DV) (z7 z8 z9 z10 : Sl) : ∃ y10, SB (EL X c n hd tk z7 z8 z9 z10) hp = some ((.nx, EL X c n hd tk z7 z8 z9 y10), hp) := by
  let E : Sl → En := fun y => EL X c n hd tk z7 z8 z9 y
  have d3 := at_of (divD_pos c 3 (by decide) (by decide)) hp
  have m4 := at_of (modD_pos (c / 3) 4 (by decide)) hp
  have t : eB (eBin eqG (eBin modD (eBin divD (eVar 1) (eC (.int 3))) (eC (.int 4))) (eC (.int 1))) (E z10) hp = some (c / 3 % 4 == 1, hp) := eB_at (eBin_atW (eBin_atW (eBin_atW (var_at rfl) rfl d3) rfl m4) rfl (eqI _ _ _))
  cases h0 : (c / 3 % 4 == 1) with
  | false => exact ⟨z10, (ifF_at (t.trans (by rw [h0]))).trans nil_at⟩
  | true =>
    have d24 := at_of (divD_pos c 24 (by decide) (by decide)) hp
    have d12 := at_of (divD_pos c 12 (by decide) (by decide)) hp
    have m60 := at_of (modD_pos (c / 24) 1000000000000000000000000000000000000000000000000000000000000 (by decide)) hp
    have mq := at_of (modD_pos (c / 12) 4 (by decide)) hp
    have v0 : 0 ≤ c / 24 % 1000000000000000000000000000000000000000000000000000000000000 := Int.emod_nonneg _ (by decide)
    generalize hv : c / 24 % 1000000000000000000000000000000000000000000000000000000000000 = v at m60 v0
    have g0 : 0 ≤ c / 12 % 4 := Int.emod_nonneg _ (by decide)
    have g1 : c / 12 % 4 < 4 := Int.emod_lt_of_pos _ (by decide)
    generalize hj : c / 12 % 4 = j at mq g0 g1
    let F : List DV := [.int (-1 - v), .int (n + v), .int n, .int (-1)]
    have ev : eBin modD (eBin divD (eVar 1) (eC (.int 24))) (eBin powD (eC (.int 10)) (eC (.int 60))) (E z10) hp = some (.int v, hp) := eBin_atW (eBin_atW (var_at rfl) rfl d24) (eBin_atW rfl rfl (at_of pow60 _)) m60
    have s1 : sSet 10 (eLst (aCons (eBin subD (eNeg (eC (.int 1))) (eBin modD (eBin divD (eVar 1) (eC (.int 24))) (eBin powD (eC (.int 10)) (eC (.int 60))))) (aCons (eBin addD (eVar 2) (eBin modD (eBin divD (eVar 1) (eC (.int 24))) (eBin powD (eC (.int 10)) (eC (.int 60))))) (aCons (eVar 2) (aCons (eNeg (eC (.int 1))) (aNil)))))) (E z10) hp = some ((.nx, E (.val (.lst F))), hp) := by
      refine sSet_at ?_
      unfold eLst
      rw [bind_at (a4_at (eBin_atW (x := .int (-1)) rfl ev rfl) (eBin_atW (var_at rfl) ev rfl) (var_at rfl) (rfl : eNeg (eC (.int 1)) (E z10) hp = some (.int (-1), hp)))]; rfl
    obtain ⟨x, ix, bad⟩ : ∃ x : Int, ixG (.lst F) (.int j) hp = some (.int x, hp) ∧ (x < 0 ∨ (hs.length : Int) ≤ x) := by
      rw [W.hl]
      rcases (by omega : j = 0 ∨ j = 1 ∨ j = 2 ∨ j = 3) with q | q | q | q <;> rw [q]
      · exact ⟨-1 - v, rfl, by omega⟩
      · exact ⟨n + v, rfl, by omega⟩
      · exact ⟨n, rfl, by omega⟩
      · exact ⟨-1, rfl, by omega⟩
    refine ⟨.val (.lst F), (ifT_at (t.trans (by rw [h0]))).trans ((sSeq_at s1).trans ((ifF_at (eNot_at (b := true) (eB_at (call_at (a2_at (var_at rfl) (eBin_atW (x := .lst F) (var_at rfl) (eBin_atW (eBin_atW (var_at rfl) rfl d12) rfl mq) ix)) rfl (nohand31 W.wv W.hh bad))))).trans nil_at))⟩
theorem turn31 (W : Wv n hd tk i ls hs hp) (n1 : 1 ≤ n) (n8 : n ≤ 8) (hi : i < 100) (ht : tk ≤ hd) (hh : hd ≤ i) {c : Int} (hc : bitsOk c) (X : DV) (z7 z8 z9 z10 : Sl) : ∃ hd' tk' ls' hs' hp' y7 y8 y9 y10, l_law_1 (EL X c n hd tk z7 z8 z9 z10) hp = some ((.nx, EL X c n hd' tk' y7 y8 y9 y10), hp') ∧ Wv n hd' tk' (i + 1) ls' hs' hp' ∧ tk' ≤ hd' ∧ hd' ≤ i + 1 := by
  obtain ⟨hd1, hp1, eA, W1, a1, a2⟩ := partA W (by omega) hc X z7 z8 z9 z10
  obtain ⟨y10, eB1⟩ := partB W1 c X z7 z8 z9 z10
  have d5 := at_of (divD_pos c 5 (by decide) (by decide)) hp1
  have mn := at_of (modD_pos (c / 5) n (by omega)) hp1
  obtain ⟨h, hh', hn⟩ : ∃ h : Nat, c / 5 % n = (h : Int) ∧ h < n := ⟨(c / 5 % n).toNat, by have := Int.emod_nonneg (c / 5) (b := (n : Int)) (by omega); omega, by have := Int.emod_nonneg (c / 5) (b := (n : Int)) (by omega); have := Int.emod_lt_of_pos (c / 5) (b := (n : Int)) (by omega); omega⟩
  rw [hh'] at mn
  obtain ⟨tk', ls', hs', hp2, hp3, due, e5, w2, mv, sm, t', W3⟩ := stepC W1 hn (by omega) (by omega) X c z9 y10
  let b : Bool := ((tk' : Int) == (hd1 : Int)) && hs'.all isN
  obtain ⟨ds, h3, hdl, dok⟩ := W3.dd
  have id := idle31 W3.wv h3 W3.hh (by rw [W3.hl]; omega)
  rw [hdl] at id
  let E9 : Sl → En := fun z => EL X c n hd1 tk' (.val (.int h)) (.val due) z y10
  refine ⟨hd1, tk', ls', hs', hp3, .val (.int h), .val due, .val (.bl b), y10, ?_, W3, t', by omega⟩
  refine (sSeq_at eA).trans ((sSeq_at eB1).trans ?_)
  refine (sSeq_at (env1 := EL X c n hd1 tk (.val (.int h)) z8 z9 y10) (hp1 := hp1) (sSet_at (eBin_atW (eBin_atW (var_at rfl) rfl d5) (var_at rfl) mn))).trans ?_
  refine (sSeq_at (env1 := EL X c n hd1 tk (.val (.int h)) (.val (.tup [.str "rest", .int h])) z9 y10) (hp1 := hp1) (sSet_at (tup_at (a2_at rfl (var_at rfl)) (by simp)))).trans ?_
  refine (sSeq_at e5).trans ?_
  refine (sSeq_at (env1 := E9 z9) (hp1 := hp3) ((ifF_at (eNot_at (b := true) (eB_at (call_at (a2_at (meth_at (var_at rfl) w2 (wv_n3 _) (a1_at (var_at rfl)) rfl mv) (var_at rfl)) rfl (at_of sm _))))).trans nil_at)).trans ?_
  have st : eAndV (eBin eqG (eVar 5) (eVar 4)) (eBin ltD (eBlt maxW (aCons (eVar 6) (aNil))) (eC (.int 0))) (E9 z9) hp3 = some (.bl b, hp3) := by
    rw [eAndV_at (eBin_atW (var_at rfl) (var_at rfl) (eqI _ _ _))]
    show _ = some (DV.bl (((tk' : Int) == (hd1 : Int)) && hs'.all isN), hp3)
    cases ((tk' : Int) == (hd1 : Int)) with
    | false => rfl
    | true =>
      rw [if_pos rfl, all31 W3 n1]
      exact eBin_atW (blt_at (a1_at (var_at rfl)) (max31 W3 n1)) rfl rfl
  refine (sSeq_at (env1 := E9 (.val (.bl b))) (hp1 := hp3) (sSet_at st)).trans ?_
  have im : eMeth "Weaver" "idle" 1 F_Weaver_idle (eVar 3) aNil (E9 (.val (.bl b))) hp3 = some (.bl b, hp3) := meth_at (var_at rfl) W3.wv (wv_n4 _) a0_at rfl id
  exact (ifF_at ((eOr_F (eNot_at (b := true) (eB_at (isi_at im)))).trans (eB_at (eBin_atW im (var_at rfl) (neBB b _))))).trans nil_at
end
theorem winit31 (S P : OV) (n : Nat) (hn : n ≤ 8) : F_Weaver___init__ [.ref 2, .ref 0, .int n] [S, P, .ins "Weaver" []] = some (.non, [S, P, .ins "Weaver" (wvF 0), .lst [], .lst (List.replicate n .non), .lst []]) := by
  let E : En := [.val (.ref 2), .val (.ref 0), .val (.int n)]
  let w : List (Str × DV) → Hs → Hs := fun fs t => S :: P :: .ins "Weaver" fs :: t
  have st : ∀ (nm : Str) (e : DEx) (v : DV) (fs : List (Str × DV)) (t t' : Hs), e E (w fs t) = some (v, w fs t') → fs.length < 1000 → sFldD "Weaver" nm (eVar 0) e E (w fs t) = some ((.nx, E), w (putFD nm v fs) t') := fun nm e v fs t t' he hl => by
    rw [fldD_at he (var_at rfl) rfl hl]; rfl
  have ml : eBin mulN (eLst (aCons (eC .non) (aNil))) (eVar 2) E (w [("shelf", .ref 0), ("deeds", .ref 3), ("taken", .int 0)] [.lst []]) = some (.ref 4, w [("shelf", .ref 0), ("deeds", .ref 3), ("taken", .int 0)] [.lst [], .lst (List.replicate n .non)]) := by
    refine eBin_atW (x := .lst [.non]) (y := .int n) rfl (var_at rfl) ?_
    unfold mulN
    show (guardM (decide (0 ≤ (n : Int) ∧ (n : Int).toNat ≤ 100000)) >>= fun _ => allocW (.lst (List.replicate (n : Int).toNat .non)) : M DV) _ = _
    rw [decide_eq_true ⟨by omega, by omega⟩]; rfl
  refine runF_nx (env := E) ?_
  refine (sSeq_at (st "shelf" _ (.ref 0) [] [] [] (var_at rfl) (by decide))).trans ?_
  refine (sSeq_at (st "deeds" _ (.ref 3) [("shelf", .ref 0)] [] [.lst []] rfl (show (1 : Nat) < 1000 by decide))).trans ?_
  refine (sSeq_at (st "taken" _ (.int 0) [("shelf", .ref 0), ("deeds", .ref 3)] [.lst []] [.lst []] rfl (show (2 : Nat) < 1000 by decide))).trans ?_
  refine (sSeq_at (st "held" _ (.ref 4) [("shelf", .ref 0), ("deeds", .ref 3), ("taken", .int 0)] [.lst []] [.lst [], .lst (List.replicate n .non)] ml (show (3 : Nat) < 1000 by decide))).trans ?_
  exact st "done" _ (.ref 5) [("shelf", .ref 0), ("deeds", .ref 3), ("taken", .int 0), ("held", .ref 4)] [.lst [], .lst (List.replicate n .non)] [.lst [], .lst (List.replicate n .non), .lst []] rfl (show (4 : Nat) < 1000 by decide)
theorem law_true (ns : List Int) (h : ns.length ≤ 63) (hb : ∀ x ∈ ns, bitsOk x) : ∃ hp, F_law [.lst (ns.map .int)] [] = some (.bl true, hp) := by
  let X : DV := .lst (ns.map .int)
  obtain ⟨c0, e0⟩ := cell_ev ns 0 h
  have e0' := at_of e0
  simp only [Int.natCast_zero] at e0'
  have g0 : 0 ≤ c0 % 8 := Int.emod_nonneg _ (by decide)
  have g1 : c0 % 8 < 8 := Int.emod_lt_of_pos _ (by decide)
  obtain ⟨n, hn, n1, n8⟩ : ∃ n : Nat, 1 + c0 % 8 = (n : Int) ∧ 1 ≤ n ∧ n ≤ 8 := ⟨(1 + c0 % 8).toNat, by omega, by omega, by omega⟩
  have m8 := at_of (modD_pos c0 8 (by decide)) ([] : Hs)
  have d8 := at_of (divD_pos c0 8 (by decide) (by decide)) ([] : Hs)
  have m7 := at_of (modD_pos (c0 / 8) 7 (by decide)) ([] : Hs)
  let r : Int := 2 + c0 / 8 % 7
  let S : OV := .ins "Shelf" (shF r 1 0 0 0)
  let P : OV := .lst [emp]
  let w6 : Hs := [S, P, .ins "Weaver" (wvF 0), .lst [], .lst (List.replicate n .non), .lst []]
  let E : Sl → Sl → Sl → Sl → Sl → Sl → En := fun z1 z2 z3 z4 z5 z6 => [.val X, z1, z2, z3, z4, z5, z6, .un, .un, .un, .un]
  have s1 : sSet 1 (eCall 2 F_law_cell_at (aCons (eVar 0) (aCons (eC (.int 0)) (aNil)))) (E .un .un .un .un .un .un) [] = some ((.nx, E (.val (.int c0)) .un .un .un .un .un), []) := sSet_at (call_at (a2_at (var_at rfl) rfl) rfl (e0' _))
  have s2 : sSet 2 (eBin addD (eC (.int 1)) (eBin modD (eVar 1) (eC (.int 8)))) (E (.val (.int c0)) .un .un .un .un .un) [] = some ((.nx, E (.val (.int c0)) (.val (.int n)) .un .un .un .un), []) := sSet_at (eBin_atW rfl (eBin_atW (var_at rfl) rfl m8) (show some (DV.int (1 + c0 % 8), []) = some (DV.int n, []) by rw [hn]))
  have i0 : F_Shelf___init__ [.ref 0, .int r] [.ins "Shelf" []] = some (.non, [S, P]) := init_at r []
  have s3 : sSet 3 (eMake "Weaver" 3 F_Weaver___init__ (aCons (eMake "Shelf" 2 F_Shelf___init__ (aCons (eBin addD (eC (.int 2)) (eBin modD (eBin divD (eVar 1) (eC (.int 8))) (eC (.int 7)))) (aNil))) (aCons (eVar 2) (aNil)))) (E (.val (.int c0)) (.val (.int n)) .un .un .un .un) [] = some ((.nx, E (.val (.int c0)) (.val (.int n)) (.val (.ref 2)) .un .un .un), w6) := by
    refine sSet_at ?_
    let e2 : En := E (.val (.int c0)) (.val (.int n)) .un .un .un .un
    have ar : aCons (eBin addD (eC (.int 2)) (eBin modD (eBin divD (eVar 1) (eC (.int 8))) (eC (.int 7)))) aNil e2 [] = some ([.int r], []) := a1_at (eBin_atW rfl (eBin_atW (eBin_atW (var_at rfl) rfl d8) rfl m7) rfl)
    have mk : eMake "Shelf" 2 F_Shelf___init__ (aCons (eBin addD (eC (.int 2)) (eBin modD (eBin divD (eVar 1) (eC (.int 8))) (eC (.int 7)))) (aNil)) e2 [] = some (.ref 0, [S, P]) := by
      unfold eMake
      have al : allocW (.ins "Shelf" []) [] = some (.ref 0, [.ins "Shelf" []]) := rfl
      have gd : guardM (decide ([DV.int r].length + 1 = 2)) [] = some ((), []) := rfl
      rw [bind_at ar, bind_at gd, bind_at al, bind_at i0]; rfl
    have a2 : aCons (eMake "Shelf" 2 F_Shelf___init__ (aCons (eBin addD (eC (.int 2)) (eBin modD (eBin divD (eVar 1) (eC (.int 8))) (eC (.int 7)))) (aNil))) (aCons (eVar 2) (aNil)) e2 [] = some ([.ref 0, .int n], [S, P]) := a2_at mk (var_at rfl)
    unfold eMake at a2 ⊢
    have al : allocW (.ins "Weaver" []) [S, P] = some (.ref 2, [S, P, .ins "Weaver" []]) := rfl
    have gd : guardM (decide ([DV.ref 0, DV.int n].length + 1 = 3)) [S, P] = some ((), [S, P]) := rfl
    rw [bind_at a2, bind_at gd, bind_at al, bind_at (winit31 S P n n8)]; rfl
  let ls : List Int := List.replicate n (-1)
  let w7 : Hs := w6 ++ [.lst (ls.map .int)]
  have s6 : sSet 6 C_law_1 (E (.val (.int c0)) (.val (.int n)) (.val (.ref 2)) (.val (.int 0)) (.val (.int 0)) .un) w6 = some ((.nx, EL X c0 n 0 0 .un .un .un .un), w7) := by
    refine sSet_at ?_
    unfold C_law_1 eCompX
    rw [bind_at (xOf_at (iRg1_at (m := n) (a1_at (var_at rfl)) (by omega)))]
    have c := compX_map (t := fun d => tAll (cE [] (E (.val (.int c0)) (.val (.int n)) (.val (.ref 2)) (.val (.int 0)) (.val (.int 0)) .un) d)) (f := fun d => eNeg (eC (.int 1)) (cE [] (E (.val (.int c0)) (.val (.int n)) (.val (.ref 2)) (.val (.int 0)) (.val (.int 0)) .un) d)) (g := fun _ => .int (-1)) (hp := w6) (rangeL 0 n) (fun d _ => rfl) (fun d _ => rfl) (by rw [rangeL_len]; omega)
    have e : (rangeL 0 n).map (fun _ => DV.int (-1)) = ls.map .int := by
      rw [List.map_const', rangeL_len, List.map_replicate]
    rw [e] at c
    rw [show lim = 100000 from rfl, bind_at c]; rfl
  have W0 : Wv n 0 0 0 ls (List.replicate n .non) w7 := ⟨⟨r, 0, 0, rfl⟩, rfl, rfl, ⟨[], rfl, rfl, fun d hd => by cases hd⟩, rfl, List.length_replicate, ⟨[], rfl, Nat.le_refl _⟩, rfl, List.length_replicate, fun j x d e1 e2 => .inl ⟨List.eq_of_mem_replicate (List.mem_of_getElem? e1), List.eq_of_mem_replicate (List.mem_of_getElem? e2)⟩, fun j l x y w e1 _ => by cases List.eq_of_mem_replicate (List.mem_of_getElem? e1)⟩
  have M : WP (forX (nxD (ns.map .int)) (fun d env => gN 1 d env >>= fun env' => l_law_1 env') 100000 0 (EL X c0 n 0 0 .un .un .un .un)) w7 fun q w => q.1 = .nx := by
    refine WP_forXD _ (fun i env w => ∃ (c : Int) (hd tk : Nat) (ls : List Int) (hs : List DV) (z7 z8 z9 z10 : Sl), env = EL X c n hd tk z7 z8 z9 z10 ∧ Wv n hd tk i ls hs w ∧ tk ≤ hd ∧ hd ≤ i) (by rw [List.length_map]; omega) ⟨c0, 0, 0, ls, _, _, _, _, _, rfl, W0, Nat.le_refl _, Nat.le_refl _⟩ (fun i d hd env w zz => ?_) (fun env w zz => rfl)
    obtain ⟨c, hd', tk, ls', hs, z7, z8, z9, z10, e, W, t1, t2⟩ := zz
    subst e
    have hi : i < 63 := by have := (List.getElem?_eq_some_iff.mp hd).1; simp at this; omega
    obtain ⟨c', hc', rfl⟩ := List.mem_map.mp (List.mem_of_getElem? hd)
    obtain ⟨hd2, tk2, ls2, hs2, w2, y7, y8, y9, y10, e, W2, u1, u2⟩ := turn31 W n1 n8 (by omega) t1 t2 (hb _ hc') X z7 z8 z9 z10
    exact ⟨_, _, e, c', hd2, tk2, ls2, hs2, y7, y8, y9, y10, rfl, W2, u1, u2⟩
  obtain ⟨⟨fl, env⟩, w, eM, hf⟩ := M
  simp only at hf
  subst hf
  refine ⟨w, runF_at (env := env) ?_⟩
  refine (sSeq_at s1).trans ((sSeq_at s2).trans ((sSeq_at s3).trans ?_))
  refine (sSeq_at (env1 := E (.val (.int c0)) (.val (.int n)) (.val (.ref 2)) (.val (.int 0)) .un .un) (hp1 := w6) (sSet_at rfl)).trans ?_
  refine (sSeq_at (env1 := E (.val (.int c0)) (.val (.int n)) (.val (.ref 2)) (.val (.int 0)) (.val (.int 0)) .un) (hp1 := w6) (sSet_at rfl)).trans ?_
  refine (sSeq_at s6).trans ?_
  exact (sSeq_at (sForX_data (ds := ns.map .int) (xLs_data (var_at rfl)) eM)).trans (sRet_at rfl)
theorem tc_EMPTY_LEAF {K : PySem.W.Frag} {a0 a1 a2 : Addr} {d0 d1 d2 : Option Addr} {n0 n1 n2 : Nat} {s0 s1 s2 : Array (Option Value)} {t1 : Tok} (l0 : K.lookup a0 = some ⟨.type "tuple", d0, .seq #[.int 0 t1, .ref a1, .ref a2, .none, .none] n0, s0⟩) (l2 : K.lookup a2 = some ⟨.type "tuple", d2, .seq #[] n2, s2⟩) (l1 : K.lookup a1 = some ⟨.type "tuple", d1, .seq #[] n1, s1⟩) : KRep K (.tup [.int 0, .tup [], .tup [], .non, .non]) (.ref a0) := (kr_tup (xs := [.int 0, .ref a1, .ref a2, .non, .non]) l0 (Nat.le_of_ble_eq_true rfl) (.cons ⟨_, rfl⟩ (.cons rfl (.cons rfl (.cons rfl (.cons rfl .nil))))) (krl_cons kr_int (krl_cons (kr_tup (xs := []) l1 (Nat.le_of_ble_eq_true rfl) .nil krl_nil) (krl_cons (kr_tup (xs := []) l2 (Nat.le_of_ble_eq_true rfl) .nil krl_nil) (krl_cons kr_non (krl_cons kr_non krl_nil))))))
theorem law_mk {P : Program} {w : World} {K : PySem.W.Frag} {h : Heap} {mg : Str → Option Value} {fa f : Addr} {oc kV dc pm cd ct : Value} {od an : Option Addr} {sl : Array (Option Value)} (X : K.In h) (G : h.Ns mainGlobals mg) (hfa : mg "law" = some (.ref fa)) (Z : Al K mg) (n : PySem.W.nsIn K mainGlobals "law" = some (some (.ref f))) (l : K.lookup f = some ⟨oc, od, .func (PySem.W.fnOf "law" "law" (defArgs s_law) (defBody s_law) (defScope s_law) .none kV dc pm an cd ct), sl⟩) (c : PySem.W.codeIn K cd "law" = true) (k : PySem.W.keepIn K (.ref f) = true) : ∃ fd : FuncData, (∀ (s : Shared) (v : Value), BindsTo s fd ⟨[v], []⟩ [("script", v)]) ∧ ∀ base : Heap, K.In base → base.Ns mainGlobals mg → FnOk P w K mg base CX0 9 fa fd ["script"] (spD K 1 F_law) := by
  cases hfa.symm.trans (PySem.W.mg_of X G n)
  exact ⟨PySem.W.fnOf "law" "law" (defArgs s_law) (defBody s_law) (defScope s_law) .none kV dc pm an cd ct, fun s v => .of_eq rfl, fun base _ _ => law_fn Z (fun_mk l c k)⟩
theorem walk {l : PySem.W.OpenLaw} {q : Program} {loose : List Str} {XP : (Str → Option Value) → Heap → Prop} {YP : World → Heap → Prop} {d : DefRec} {K : Params → PySem.W.Frag} (hn : l.most = some 63) (hdf : d.params.defaults = [])
    (hY : ∀ (w : World) (h : Heap), YP w h → (K w.params).In h)
    (F : ∀ (w : World) (mg : Str → Option Value) (fa : Addr) (h : Heap), (K w.params).In h → h.Ns mainGlobals mg → mg d.name = some (.ref fa) →
      ∃ fd : FuncData, (∀ (s : Shared) (u : Value), BindsTo s fd ⟨[u], []⟩ [("script", u)]) ∧ ∀ base : Heap, (K w.params).In base → base.Ns mainGlobals mg → FnOk l.prog w (K w.params) mg base CX0 9 fa fd ["script"] (spD (K w.params) 1 F_law)) :
    PySem.W.WalkO q loose XP YP l.row.toRowW d [] (fun f vs => PySem.call f vs) :=
  L2.walk_ofB (n := 63) (k := 9) (x := "script") (CX := fun _ => CX0) (sp := fun w => spD (K w.params) 1 F_law) hn (by decide) hdf ⟨rfl, by decide, by decide⟩ hY F (fun w _ a ns hl hb _ hS => law_sp (law_true ns hl hb) hS) fun _ _ _ _ _ z => z
end K31
open PySem PySem.W PyProof.Rows
open D in
set_option maxRecDepth 100000 in
set_option maxHeartbeats 0 in
theorem PySem.Challenge.cw_sidelink_k31_hands_and_no_hand_holds : PySem.Challenge.rw_sidelink_k31_hands_and_no_hand.Holds := by
  w_on; o_law; k_head; (case hw => w_witness2)
  k_fill
  refine K31.walk (l := PySem.Challenge.rw_sidelink_k31_hands_and_no_hand) rfl rfl (fun w h Y => PySem.W.kIn_of Y) ?F
  case F =>
    intro w mg fa h KX G hmg
    have c0 : UC _ "Weaver" := uc KX (by k_is) (by k_is) (by k_is) (by k_is) (by k_is)
    have c1 : UC _ "Walk" := uc KX (by k_is) (by k_is) (by k_is) (by k_is) (by k_is)
    have c2 : UC _ "Shelf" := uc KX (by k_is) (by k_is) (by k_is) (by k_is) (by k_is)
    exact K31.law_mk KX G hmg (by constructor; (case x0 => (refine' ux KX G ?ua ?ub; (case ua => k_is); (case ub => k_exc))); (case y0 => (refine' uy KX G ?ua ?ub ?uc ?ud ?ue ?uf ?ug ?uh ?ui ?uj ?uk ?ul ?um ?un ?uo ?up ?uq ?ur; (case ua => k_is); (case ub => k_is); (case uc => k_is); (case ud => k_is); (case ue => k_is); (case uf => k_is); (case ug => k_is); (case uh => k_is); (case ui => k_is); (case uj => k_is); (case uk => k_is); (case ul => k_is); (case um => k_is); (case un => k_is); (case uo => kts_exm); (case up => kit_is); (case uq => kit_is); (case ur => kit_is))); all_goals first | exact PySem.W.mg_none_of KX G (by k_is) | exact uf KX G (by k_is) (by k_is) (by k_is) (by k_is) | exact ug KX G (by k_is) | exact ut KX G (by k_is) (K31.tc_EMPTY_LEAF (by k_is) (by k_is) (by k_is)) | exact uk KX c0 (by k_is) (by k_is) | exact um KX c0 (by k_is) (by k_is) (by k_is) (by k_is) (by k_is) (by k_is) | exact uk KX c1 (by k_is) (by k_is) | exact um KX c1 (by k_is) (by k_is) (by k_is) (by k_is) (by k_is) (by k_is) | exact uk KX c2 (by k_is) (by k_is) | exact um KX c2 (by k_is) (by k_is) (by k_is) (by k_is) (by k_is) (by k_is) | exact ui KX G (by k_is) (by k_is) (by k_is) (by k_is) (by k_is) (by k_is) (by k_is) (by k_is)) (by k_is) (by k_is) (by k_is) (by k_is)

import PyProof.Rows.All
import Wide.All
import OpenK.AllK
import Wide.FinOn
import Lean
import PyProof.EqAt
import PyProof.EqKinds
import PyProof.TupleCall
import PySem.Challenge.RW_sidelink_k41_moments_picked
-- CHANGE: your row's module here, as the last of these rows
set_option Elab.async false
set_option linter.all false
set_option maxRecDepth 100000
namespace L2
open PySem PySem.Spec PyProof.Rows
abbrev Key := Sum Int Str
def keyIs : Key → Value → Bool
  | .inl k, v => Value.isInt k v
  | .inr x, v => Value.isStrOf x v
def keyH (w : World) : Key → Int
  | .inl k => hashInt k
  | .inr x => hashStr w x
theorem keyIs_shape : ∀ {k : Key} {v : Value}, keyIs k v = true → (∃ i t, k = Sum.inl i ∧ v = Value.int i t) ∨ (∃ x t, k = Sum.inr x ∧ v = Value.str x t)
  | .inl i, v, h => by
    obtain ⟨t, e⟩ := Value.isInt_shape (k := i) (v := v) h
    exact .inl ⟨i, t, rfl, e⟩
  | .inr x, v, h => by
    obtain ⟨t, e⟩ := Value.isStrOf_shape (x := x) (v := v) h
    exact .inr ⟨x, t, rfl, e⟩
theorem keyIs_int (i : Int) (t : Tok) : keyIs (.inl i) (.int i t) = true := by simp [keyIs, Value.isInt]
theorem keyIs_str (x : Str) (t : Tok) : keyIs (.inr x) (.str x t) = true := by simp [keyIs, Value.isStrOf]
theorem key_ll (a b : Int) : decide ((Sum.inl a : Key) = Sum.inl b) = (a == b) := by
  by_cases e : a = b
  · subst e; simp
  · have h : ¬ (Sum.inl a : Key) = Sum.inl b := fun q => e (Sum.inl.inj q)
    rw [decide_eq_false h]
    exact (beq_eq_false_iff_ne.mpr e).symm
theorem key_rr (a b : Str) : decide ((Sum.inr a : Key) = Sum.inr b) = decide (a = b) := by
  by_cases e : a = b
  · subst e; simp
  · have h : ¬ (Sum.inr a : Key) = Sum.inr b := fun q => e (Sum.inr.inj q)
    rw [decide_eq_false h, decide_eq_false e]
theorem key_lr (a : Int) (b : Str) : decide ((Sum.inl a : Key) = Sum.inr b) = false := decide_eq_false (fun q => nomatch q)
theorem key_rl (a : Str) (b : Int) : decide ((Sum.inr a : Key) = Sum.inl b) = false := decide_eq_false (fun q => nomatch q)
def mixKind (prog : Program) (w : World) : PySem.KeyKind prog w Key where
  is := keyIs
  hash := keyH w
  inj := fun v a b ha hb => by
    rcases keyIs_shape ha with ⟨i, t, rfl, rfl⟩ | ⟨x, t, rfl, rfl⟩
    · rcases keyIs_shape hb with ⟨j, u, rfl, e⟩ | ⟨y, u, rfl, e⟩
      · injection e with e1 _; rw [e1]
      · exact nomatch e
    · rcases keyIs_shape hb with ⟨j, u, rfl, e⟩ | ⟨y, u, rfl, e⟩
      · exact nomatch e
      · injection e with e1 _; rw [e1]
  byValue := fun k v h => by
    rcases keyIs_shape h with ⟨i, t, rfl, rfl⟩ | ⟨x, t, rfl, rfl⟩ <;> rfl
  pyHash := fun hv h => by
    rcases keyIs_shape hv with ⟨i, t, rfl, rfl⟩ | ⟨x, t, rfl, rfl⟩
    · exact wpAny_pyHash_int h
    · exact wpAny_pyHash_str h
  eqBool := fun hu hv h => by
    rcases keyIs_shape hu with ⟨i, t, rfl, rfl⟩ | ⟨x, t, rfl, rfl⟩
    · rcases keyIs_shape hv with ⟨j, u, rfl, rfl⟩ | ⟨y, u, rfl, rfl⟩
      · rw [key_ll] at h; exact wpAny_eqBool_int h
      · rw [key_lr] at h; exact SeqAt.EqAt.int_str i t y u _ _ _ _ h
    · rcases keyIs_shape hv with ⟨j, u, rfl, rfl⟩ | ⟨y, u, rfl, rfl⟩
      · rw [key_rl] at h; exact SeqAt.EqAt.str_int x t j u _ _ _ _ h
      · rw [key_rr] at h; exact wpAny_eqBool_str h
  «strs» := fun k x t v h => by
    rcases keyIs_shape h with ⟨i, u, rfl, e⟩ | ⟨y, u, rfl, e⟩
    · exact nomatch e
    · injection e with e1 _
      subst e1
      cases v <;> rfl
theorem mixKind_int (prog : Program) (w : World) (i : Int) (t : Tok) : (mixKind prog w).is (.inl i) (.int i t) = true := keyIs_int i t
theorem mixKind_str (prog : Program) (w : World) (x : Str) (t : Tok) : (mixKind prog w).is (.inr x) (.str x t) = true := keyIs_str x t
end L2
namespace L2
open PySem PySem.Spec PyProof.Rows
inductive V where
  | non | bl (b : Bool) | int (i : Int) | str (x : Str) | byt (b : Array UInt8) | flt (b : UInt64) | ref (a : Addr) | ty (n : String)
  deriving DecidableEq
def RelV : V → Value → Prop
  | .non, u => u = Value.none
  | .bl b, u => u = Value.bool b
  | .int i, u => ∃ t, u = Value.int i t
  | .str x, u => ∃ t, u = Value.str x t
  | .byt b, u => ∃ t, u = Value.bytes b t
  | .flt b, u => ∃ t, u = Value.float b t
  | .ref a, u => u = Value.ref a
  | .ty n, u => u = Value.type n
abbrev Vals : List V → List Value → Prop := Paired RelV
theorem Vals.length {xs : List V} {us : List Value} (r : Vals xs us) : xs.length = us.length := Paired.length r
theorem Vals.get : ∀ {xs : List V} {us : List Value} {i : Nat} {x : V}, Vals xs us → xs[i]? = some x → ∃ u, us[i]? = some u ∧ RelV x u
  | _, _, _, _, .nil, e => by simp at e
  | _, _, 0, _, .cons r _, e => by simp at e; subst e; exact ⟨_, rfl, r⟩
  | _, _, i + 1, x, .cons _ t, e => by
    obtain ⟨u, h1, h2⟩ := Vals.get (i := i) (x := x) t (by simpa using e)
    exact ⟨u, by simpa using h1, h2⟩
theorem Vals.set {x : V} {u : Value} (r : RelV x u) : ∀ {xs : List V} {us : List Value} (i : Nat), Vals xs us → Vals (xs.set i x) (us.set i u)
  | _, _, _, .nil => .nil
  | _, _, 0, .cons _ t => .cons r t
  | _, _, i + 1, .cons q t => .cons q (Vals.set r i t)
theorem Vals.append : ∀ {xs ys : List V} {us ws : List Value}, Vals xs us → Vals ys ws → Vals (xs ++ ys) (us ++ ws)
  | _, _, _, _, .nil, s => s
  | _, _, _, _, .cons r t, s => .cons r (Vals.append t s)
theorem Vals.take : ∀ {xs : List V} {us : List Value} (n : Nat), Vals xs us → Vals (xs.take n) (us.take n)
  | _, _, 0, _ => .nil
  | _, _, _ + 1, .nil => .nil
  | _, _, n + 1, .cons r t => .cons r (Vals.take n t)
theorem Vals.drop : ∀ {xs : List V} {us : List Value} (n : Nat), Vals xs us → Vals (xs.drop n) (us.drop n)
  | _, _, 0, r => r
  | _, _, _ + 1, .nil => .nil
  | _, _, n + 1, .cons _ t => Vals.drop n t
def RelO : Option V → Option Value → Prop
  | some v, some u => RelV v u
  | none, none => True
  | _, _ => False
def KV {κ : Type} : List (κ × V) → List (κ × Value) → Prop := Paired fun (p : κ × V) (q : κ × Value) => p.1 = q.1 ∧ RelV p.2 q.2
def kV : Key → V
  | .inl i => .int i
  | .inr x => .str x
inductive HO where
    | lst (xs : List V)
    | tup (xs : List V)
    | dK (kvs : List (Key × V)) | dT (kvs : List (List Key × V))
    | set (S : Int → Bool) (n : Nat)
    | ins (C dx : Addr) (fs : List (Str × V))
    | own (x : Addr)
    | xd (fs : List (Str × V))
    | met (f x : Addr)
    | rng (lo hi : Int)
    | frz (o : Obj) (u : HO)
    | tbl (ps : Array Value)
    | ext (φ : Heap → Prop)
abbrev Hp := Addr → Option HO
def upd (H : Hp) (a : Addr) (o : HO) : Hp := fun b => if b = a then some o else H b
theorem upd_same {H : Hp} {a : Addr} {o : HO} : upd H a o a = some o := by unfold upd; rw [if_pos rfl]
theorem upd_ne {H : Hp} {a b : Addr} {o : HO} (h : b ≠ a) : upd H a o b = H b := by unfold upd; rw [if_neg h]
theorem ne_of_none {H : Hp} {a b : Addr} {o : HO} (h : H a = some o) (h' : H b = none) : a ≠ b := by
  intro e; subst e; rw [h] at h'; cases h'
section
variable (P : Program) (w : World)
def ObjOk (H : Hp) (h : Heap) (a : Addr) : HO → Prop
  | .lst xs => xs.length ≤ sizeLine ∧ ∃ (its : List Value) (n : Nat), Vals xs its ∧ h.get? a = some { cls := .type "list", data := .seq its.toArray n }
  | .tup xs => xs.length ≤ sizeLine ∧ ∃ its : List Value, Vals xs its ∧ IsTup h a its.toArray
  | .dK kvs => kvs.length ≤ sizeLine ∧ (a == sysModules) = false ∧ ∃ vs, KV kvs vs ∧ h.DictOf (mixKind P w) a vs
  | .dT kvs => kvs.length ≤ sizeLine ∧ (a == sysModules) = false ∧ ∃ xs : List (List Key × Addr × Value),
      Paired (fun (p : List Key × V) (q : List Key × Addr × Value) => p.1 = q.1 ∧ H q.2.1 = some (.tup (p.1.map kV)) ∧ RelV p.2 q.2.2) kvs xs ∧
      ∃ o es ep, h.get? a = some o ∧ o.ExactDict ∧ o.data = .dict es ep ∧ es.toList = xs.map (entryOfKey (tupleKind (mixKind P w))) ∧ (xs.map (·.1)).Nodup
  | .set S n => h.SetOf (intKind P w) a S n
  | .ins C dx fs => H dx = some (.own a) ∧ fs.length ≤ 1000 ∧ dx ≠ a ∧ h.get? a = some (PySem.W.instObj C dx) ∧
      ∃ mA, h.Ns1 dx mA ∧ (∀ f, RelO (fs.lookup f) (mA f)) ∧ PySem.Within mA (fs.map (·.1))
  | .own _ => ∃ o, h.get? a = some o
  | .xd fs => ∃ mA, h.Ns1 a mA ∧ ∀ f, RelO (fs.lookup f) (mA f)
  | .rng lo hi => ∃ t u v, h.get? a = some { cls := .type "range", data := .fields #[.int lo t, .int hi u, .int 1 v] }
  | .frz o u => h.get? a = some o ∧ ObjOk H h a u
  | .tbl ps => h.get? a = some { cls := .none, data := .fields ps }
  | .met f x => h.get? a = some (PySem.W.methodObj (.ref f) (.ref x))
  | .ext φ => φ h ∧ (∃ o, h.get? a = some o) ∧ ∀ h1 h2 : Heap, φ h1 → (∀ o, h1.get? a = some o → h2.get? a = some o) → φ h2
def HOk (H : Hp) (h : Heap) : Prop := ∀ a o, H a = some o → ObjOk P w H h a o
end
section
variable {P : Program} {w : World} {H H' : Hp} {h h' : Heap} {a : Addr} {o : HO}
theorem ObjOk.lt (x : ObjOk P w H h a o) : a < h.objs.size := by
  cases o with
  | lst xs => obtain ⟨_, _, _, _, e⟩ := x; exact Heap.lt_size e
  | tup xs => obtain ⟨_, _, _, p⟩ := x; exact p.lt
  | dK kvs => obtain ⟨_, _, _, _, o, _, _, e, _⟩ := x; exact Heap.lt_size e
  | dT kvs => obtain ⟨_, _, _, _, o, _, _, e, _⟩ := x; exact Heap.lt_size e
  | set S n => obtain ⟨o, _, _, _, e, _⟩ := x; exact Heap.lt_size e
  | ins C dx fs => obtain ⟨_, _, _, e, _⟩ := x; exact Heap.lt_size e
  | own y => obtain ⟨_, e⟩ := x; exact Heap.lt_size e
  | xd fs => obtain ⟨_, ⟨_, _, _, e, _⟩, _⟩ := x; exact Heap.lt_size e
  | rng lo hi => obtain ⟨_, _, _, e⟩ := x; exact Heap.lt_size e
  | frz ob u => obtain ⟨e, _⟩ := x; exact Heap.lt_size e
  | tbl ps => exact Heap.lt_size (show h.get? a = some _ from x)
  | met f y => exact Heap.lt_size (show h.get? a = some _ from x)
  | ext φ => obtain ⟨_, ⟨_, e⟩, _⟩ := x; exact Heap.lt_size e
theorem Paired.mapP {α β : Type} {F G : α → β → Prop} : ∀ {l₁ : List α} {l₂ : List β}, Paired F l₁ l₂ → (∀ a b, F a b → G a b) → Paired G l₁ l₂
  | _, _, .nil, _ => .nil
  | _, _, .cons r t, f => .cons (f _ _ r) (Paired.mapP t f)
theorem ObjOk.stay (x : ObjOk P w H h a o) (k : ∀ b u, (b = a ∨ H b = some (.own a)) → h.get? b = some u → h'.get? b = some u)
    (ho : ∀ b, H b = some (.own a) → H' b = some (.own a)) (ht : ∀ b xs, H b = some (.tup xs) → H' b = some (.tup xs)) : ObjOk P w H' h' a o := by
  induction o with
  | lst xs => obtain ⟨z, its, n, r, e⟩ := x; exact ⟨z, its, n, r, k _ _ (.inl rfl) e⟩
  | tup xs => obtain ⟨z, its, r, ob, e, c⟩ := x; exact ⟨z, its, r, ob, k _ _ (.inl rfl) e, c⟩
  | dK kvs => obtain ⟨z, y, vs, r, ob, es, ep, e, c⟩ := x; exact ⟨z, y, vs, r, ob, es, ep, k _ _ (.inl rfl) e, c⟩
  | dT kvs =>
    obtain ⟨z, y, xs, r, ob, es, ep, e, c⟩ := x
    exact ⟨z, y, xs, Paired.mapP r fun p q z => ⟨z.1, ht _ _ z.2.1, z.2.2⟩, ob, es, ep, k _ _ (.inl rfl) e, c⟩
  | set S n => obtain ⟨ob, es, ep, t, e, c⟩ := x; exact ⟨ob, es, ep, t, k _ _ (.inl rfl) e, c⟩
  | ins C dx fs =>
    obtain ⟨d, z, ne, e, mA, ⟨od, es, ep, e2, c⟩, r⟩ := x
    exact ⟨ho _ d, z, ne, k _ _ (.inl rfl) e, mA, ⟨od, es, ep, k _ _ (.inr d) e2, c⟩, r⟩
  | own y => obtain ⟨ob, e⟩ := x; exact ⟨ob, k _ _ (.inl rfl) e⟩
  | xd fs => obtain ⟨mA, ⟨od, es, ep, e, c⟩, r⟩ := x; exact ⟨mA, ⟨od, es, ep, k _ _ (.inl rfl) e, c⟩, r⟩
  | rng lo hi => obtain ⟨t, u, v, e⟩ := x; exact ⟨t, u, v, k _ _ (.inl rfl) e⟩
  | frz ob u ih => obtain ⟨e, q⟩ := x; exact ⟨k _ _ (.inl rfl) e, ih q⟩
  | tbl ps =>
    have e : h.get? a = some { cls := .none, data := .fields ps } := x
    show h'.get? a = some { cls := .none, data := .fields ps }
    exact k a _ (.inl rfl) e
  | met f y =>
    have e : h.get? a = some (PySem.W.methodObj (.ref f) (.ref y)) := x
    show h'.get? a = some (PySem.W.methodObj (.ref f) (.ref y))
    exact k a _ (.inl rfl) e
  | ext φ => obtain ⟨p, ⟨o, e⟩, st⟩ := x; exact ⟨st _ _ p fun o q => k _ _ (.inl rfl) q, ⟨o, k _ _ (.inl rfl) e⟩, st⟩
theorem HOk.lt (x : HOk P w H h) (e : H a = some o) : a < h.objs.size := (x a o e).lt
theorem HOk.fresh (x : HOk P w H h) (e : h.objs.size ≤ a) : H a = none := by
  cases q : H a with
  | none => rfl
  | some u => exact absurd (Nat.lt_of_lt_of_le (x.lt q) e) (Nat.lt_irrefl _)
theorem HOk.kept (x : HOk P w H h) (k : ∀ b u, h.get? b = some u → h'.get? b = some u) : HOk P w H h' := fun a o e =>
  (x a o e).stay (fun b u _ q => k b u q) (fun _ q => q) fun _ _ q => q
theorem HOk.laid (x : HOk P w H h) (k : ∀ b u, h.get? b = some u → h'.get? b = some u) (hp : h.objs.size ≤ a) (new : ObjOk P w (upd H a o) h' a o) : HOk P w (upd H a o) h' := fun b u e => by
  have hn := x.fresh hp
  by_cases hb : b = a
  · subst hb; rw [upd_same] at e; cases e; exact new
  · rw [upd_ne hb] at e
    exact (x b u e).stay (fun c v _ q => k c v q) (fun c q => by rw [upd_ne (ne_of_none q hn)]; exact q) fun c xs q => by rw [upd_ne (ne_of_none q hn)]; exact q
end
def Rd (H : Hp) (a : Addr) (u : HO) : Prop := H a = some u ∨ ∃ o, H a = some (.frz o u)
theorem Rd.of {H : Hp} {a : Addr} {u : HO} (h : H a = some u) : Rd H a u := .inl h
theorem Rd.ok {P : Program} {w : World} {H : Hp} {h : Heap} {a : Addr} {u : HO} (r : Rd H a u) (x : HOk P w H h) : ObjOk P w H h a u := by
  rcases r with r | ⟨o, r⟩
  · exact x a u r
  · obtain ⟨_, q⟩ := x a _ r
    exact q
def Mut : Option HO → Prop
  | some (.lst _) => True
  | some (.dK _) => True
  | some (.dT _) => True
  | some (.set _ _) => True
  | some (.ins _ _ _) => True
  | some (.ext _) => True
  | _ => False
section
variable {P : Program} {w : World} {H : Hp} {h h' : Heap} {x e : Addr} {o' : HO}
theorem HOk.write (ok : HOk P w H h) (mu : Mut (H x)) (he : e = x ∨ H e = some (.own x)) (k : ∀ b u, b ≠ e → h.get? b = some u → h'.get? b = some u) (heo : ∃ u, h'.get? e = some u)
    (new : ObjOk P w (upd H x o') h' x o') : HOk P w (upd H x o') h' := fun b u q => by
  have nown : ∀ c y, H c = some (.own y) → c ≠ x := fun c y r z => by subst z; rw [r] at mu; exact mu
  have ntup : ∀ c xs, H c = some (.tup xs) → c ≠ x := fun c xs r z => by subst z; rw [r] at mu; exact mu
  by_cases hb : b = x
  · subst hb; rw [upd_same] at q; cases q; exact new
  · rw [upd_ne hb] at q
    by_cases hbe : b = e
    · have q' : H b = some (.own x) := by
        rcases he with z | z
        · exact absurd (hbe.trans z) hb
        · rw [hbe]; exact z
      rw [q] at q'; cases q'
      obtain ⟨v, hv⟩ := heo
      exact ⟨v, by rw [hbe]; exact hv⟩
    · refine (ok b u q).stay (fun c v hc r => k c v ?_ r) (fun c r => by rw [upd_ne (nown c b r)]; exact r) fun c xs r => by rw [upd_ne (ntup c xs r)]; exact r
      rcases hc with rfl | hc
      · exact hbe
      · rintro rfl
        rcases he with z | z
        · exact nown c b hc z
        · rw [hc] at z; cases z; exact hb rfl
end
structure Un (fs ex : List Addr) (H H' : Hp) (h h' : Heap) : Prop where
  keep : ∀ b o, h.get? b = some o → H b = none → b ∉ fs → b ∉ ex → h'.get? b = some o
  slot : ∀ b o, h.get? b = some o → H b = none → b ∈ fs → b ∉ ex → ∃ sl, h'.get? b = some { o with slots := sl }
  free : ∀ b o, h.get? b = some o → H b = none → b ∉ ex → H' b = none
  there : ∀ b o, h.get? b = some o → b ∉ ex → ∃ o', h'.get? b = some o'
  tups : ∀ b xs, H b = some (.tup xs) → H' b = some (.tup xs)
  frzs : ∀ b o u, H b = some (.frz o u) → H' b = some (.frz o u)
  tbls : ∀ b ps, H b = some (.tbl ps) → ∃ more, H' b = some (.tbl (ps ++ more))
section
variable {fs fs' ex ex' : List Addr} {H H1 H2 : Hp} {h h1 h2 h' : Heap} {a x e : Addr} {o : HO}
theorem Un.any (u : Un fs ex H H1 h h1) {b : Addr} {ob : Obj} (q : h.get? b = some ob) (n : H b = none) (hx : b ∉ ex) : ∃ sl, h1.get? b = some { ob with slots := sl } := by
  by_cases hb : b ∈ fs
  · exact u.slot b ob q n hb hx
  · exact ⟨ob.slots, u.keep b ob q n hb hx⟩
theorem Un.trans (a : Un fs ex H H1 h h1) (b : Un fs ex H1 H2 h1 h2) : Un fs ex H H2 h h2 where
  keep := fun c ob q n hc hx => b.keep c ob (a.keep c ob q n hc hx) (a.free c ob q n hx) hc hx
  slot := fun c ob q n hc hx => by
    obtain ⟨sl, e1⟩ := a.slot c ob q n hc hx
    obtain ⟨sl', e2⟩ := b.slot c _ e1 (a.free c ob q n hx) hc hx
    exact ⟨sl', e2⟩
  free := fun c ob q n hx => by
    obtain ⟨o', e1⟩ := a.there c ob q hx
    exact b.free c o' e1 (a.free c ob q n hx) hx
  there := fun c ob q hx => by
    obtain ⟨o', e1⟩ := a.there c ob q hx
    exact b.there c o' e1 hx
  tups := fun c xs q => b.tups c xs (a.tups c xs q)
  frzs := fun c ob xs q => b.frzs c ob xs (a.frzs c ob xs q)
  tbls := fun c ps q => by
    obtain ⟨m1, e1⟩ := a.tbls c ps q
    obtain ⟨m2, e2⟩ := b.tbls c _ e1
    exact ⟨m1 ++ m2, by rw [e2, Array.append_assoc]⟩
theorem Un.kept (k : ∀ b u, h.get? b = some u → h'.get? b = some u) : Un fs ex H H h h' :=
  ⟨fun b ob q _ _ _ => k b ob q, fun b ob q _ _ _ => ⟨ob.slots, k b ob q⟩, fun _ _ _ n _ => n, fun b ob q _ => ⟨ob, k b ob q⟩, fun _ _ q => q, fun _ _ _ q => q, fun _ ps q => ⟨#[], by rw [q]; simp⟩⟩
theorem Un.refl : Un fs ex H H h h := Un.kept fun _ _ q => q
theorem Un.laid (k : ∀ b u, h.get? b = some u → h'.get? b = some u) (hp : h.objs.size ≤ a) (hn : H a = none) : Un fs ex H (upd H a o) h h' where
  keep := fun b u q _ _ _ => k b u q
  slot := fun b u q _ _ _ => ⟨u.slots, k b u q⟩
  free := fun b u q n _ => by rw [upd_ne (Nat.ne_of_lt (Nat.lt_of_lt_of_le (Heap.lt_size q) hp))]; exact n
  there := fun b u q _ => ⟨u, k b u q⟩
  tups := fun b xs q => by rw [upd_ne (ne_of_none q hn)]; exact q
  frzs := fun b u xs q => by rw [upd_ne (ne_of_none q hn)]; exact q
  tbls := fun b ps q => ⟨#[], by rw [upd_ne (ne_of_none q hn), q]; simp⟩
theorem Un.write (mu : Mut (H x)) (he : e = x ∨ H e = some (.own x)) (k : ∀ b u, b ≠ e → h.get? b = some u → h'.get? b = some u) (heo : ∃ u, h'.get? e = some u) : Un fs ex H (upd H x o) h h' := by
  have hx : ∀ b, H b = none → b ≠ x := fun b n z => by subst z; rw [n] at mu; exact mu
  have hb : ∀ b, H b = none → b ≠ e := fun b n z => by
    subst z
    rcases he with r | r
    · exact hx b n r
    · rw [n] at r; cases r
  have hm : ∀ b u, H b = some u → ¬ Mut (some u) → b ≠ x := fun b u q nm z => by subst z; rw [q] at mu; exact nm mu
  refine ⟨fun b u q n _ _ => k b u (hb b n) q, fun b u q n _ _ => ⟨u.slots, k b u (hb b n) q⟩, fun b u q n _ => by rw [upd_ne (hx b n)]; exact n, fun b u q _ => ?_,
    fun b xs q => by rw [upd_ne (hm b _ q fun z => z)]; exact q, fun b u xs q => by rw [upd_ne (hm b _ q fun z => z)]; exact q, fun b ps q => ⟨#[], by rw [upd_ne (hm b _ q fun z => z), q]; simp⟩⟩
  by_cases hbe : b = e
  · subst hbe; exact heo
  · exact ⟨u, k b u hbe q⟩
theorem Un.mono (u : Un fs ex H H1 h h1) (hs : ∀ b ∈ fs, b ∈ fs') (hx : ∀ b ∈ ex, b ∈ ex') : Un fs' ex' H H1 h h1 :=
  ⟨fun b ob q n hb he => u.keep b ob q n (fun z => hb (hs b z)) fun z => he (hx b z), fun _ _ q n _ he => u.any q n fun z => he (hx _ z), fun b ob q n he => u.free b ob q n fun z => he (hx b z), fun b ob q he => u.there b ob q fun z => he (hx b z), u.tups, u.frzs, u.tbls⟩
end
def trk (h : Heap) (H : Hp) : List Addr := (List.range h.objs.size).filter fun a => (H a).isSome
def hidT (h : Heap) (H : Hp) : Heap := PySem.W.hideAll h (trk h H)
theorem hidT_size (h : Heap) (H : Hp) : (hidT h H).objs.size = h.objs.size := PySem.W.hideAll_size _ _
theorem hidT_get {h : Heap} {H : Hp} {b : Addr} {o : Obj} (e : h.get? b = some o) (n : H b = none) : (hidT h H).get? b = some o :=
  PySem.W.hideAll_get _ e fun hm => by
    have q : (H b).isSome = true := (List.mem_filter.mp hm).2
    rw [n] at q; simp at q
theorem of_hidT {h : Heap} {H : Hp} {b : Addr} {o : Obj} (e : (hidT h H).get? b = some o) : h.get? b = some o ∧ H b = none := by
  have e' : h.get? b = some o := PySem.W.of_hideAll (trk h H) e
  refine ⟨e', ?_⟩
  cases q : H b with
  | none => rfl
  | some x =>
    have hm : b ∈ trk h H := List.mem_filter.mpr ⟨List.mem_range.mpr (Heap.lt_size e'), by simp [q]⟩
    have z : (hidT h H).get? b = none := PySem.W.hideAll_none (trk h H) hm
    rw [z] at e; cases e
def allNews (g h : Heap) (L : Addr) : List (Addr × Obj) := (List.range h.objs.size).filterMap fun a => if a = L ∨ (g.get? a).isSome = true then none else (h.get? a).map fun o => (a, o)
theorem of_mem_allNews {g h : Heap} {L : Addr} {p : Addr × Obj} (hp : p ∈ allNews g h L) : p.1 ≠ L ∧ g.get? p.1 = none ∧ h.get? p.1 = some p.2 := by
  obtain ⟨b, _, e⟩ := List.mem_filterMap.mp hp
  split at e
  · cases e
  · rename_i hn
    cases q : h.get? b with
    | none => rw [q] at e; simp at e
    | some u =>
      rw [q] at e
      simp only [Option.map_some, Option.some.injEq] at e
      subst e
      refine ⟨fun z => hn (.inl z), ?_, q⟩
      show g.get? b = none
      cases r : g.get? b with
      | none => rfl
      | some v => exact (hn (.inr (by simp [r]))).elim
def rest (g h : Heap) (L d : Addr) : List (Addr × Obj) := (allNews g h L).filter fun p => decide (p.1 ≠ d)
theorem news_all {g h : Heap} {L : Addr} : News g L h (allNews g h L) := fun p hp => let ⟨a, b, c⟩ := of_mem_allNews hp; ⟨c, a, b⟩
end L2
namespace L2
open PySem PySem.Spec PyProof.Rows
structure Mod (K : PySem.W.Frag) (mg : Str → Option Value) (base : Heap) : Prop where
  kin : K.In base
  glob : base.Ns mainGlobals mg
  blt : ∃ mb, base.Ns builtinsNs mb ∧ ∀ x : Str, x ≠ "__name__" → mb x = bootBuiltins x
  nolimit : base.NoLimit
structure Cx where
  prog : Program
  w : World
  K : PySem.W.Frag
  mg : Str → Option Value
  base : Heap
  A : Around
  N : List Str
  s₀ : Shared
  H₀ : Hp
  env : Env
  outer : List Env
  stack : List Env
  ex : List Addr
  fn : Str → Bool
  calm : Bool
  pn : List (Addr × Obj)
  xe : Value → Shared → Prop
def frs (l : List Env) : List Addr := l.filterMap (·.frame)
abbrev Cx.fs (X : Cx) : List Addr := frs X.outer
def Vis (sc : Scope) (x : Str) : Prop := sc.names.lookup x = some .local ∨ sc.names.lookup x = some .cell ∨ sc.names.lookup x = some .free
def Loc (sc : Scope) (x : Str) : Prop := sc.names.lookup x = some .local ∨ sc.names.lookup x = some .cell
def Look (env : Env) (h : Heap) (m : Str → Option Value) (x : Str) (u : Value) : Prop :=
  (env.kindOf x = some .local ∧ m x = some u) ∨ ((env.kindOf x = some .cell ∨ env.kindOf x = some .free) ∧ ∃ c, env.cells.lookup x = some c ∧ h.IsCell c (some u))
structure Cx.Ok (X : Cx) : Prop where
  mod : Mod X.K X.mg X.base
  kind : X.env.scope.kind = .function
  glob : X.env.globals = mainGlobals
  blt : X.env.builtins = builtinsNs
  above : X.s₀.heap.objs.size ≤ X.env.locals
  inj : ∀ x y c, X.env.cells.lookup x = some c → X.env.cells.lookup y = some c → x = y
  has : ∀ x, (X.env.kindOf x = some .cell ∨ X.env.kindOf x = some .free) → ∃ c, X.env.cells.lookup x = some c
  cab : ∀ x c, X.fn x = true → X.env.cells.lookup x = some c → X.s₀.heap.objs.size ≤ c
  hd : X.calm = true → X.A.handled = none
  frames : X.A.frames = some X.stack
  stk : X.stack = X.outer ∨ (X.stack = X.env :: X.outer ∧ X.env.frame = some X.env.locals)
  exf : ∀ b ∈ X.ex, b ≠ X.env.locals ∧ ∀ x c, X.env.cells.lookup x = some c → c ≠ b
  bs : ∀ b o, X.base.get? b = some o → X.s₀.heap.get? b = some o ∧ X.H₀ b = none
  bsz : X.base.objs.size ≤ X.s₀.heap.objs.size
  noex : ∀ b o, X.base.get? b = some o → b ∉ X.ex
  exfs : ∀ b ∈ X.ex, b ∉ X.fs
  funs : X.s₀.heap.FunFrames X.base X.outer
  frf : ∀ b ∈ X.fs, X.H₀ b = none
structure Inv (X : Cx) (pins : List (Addr × Obj)) (σ : List (Option V)) (H : Hp) (s : Shared) : Prop where
  ok : X.Ok
  os : s.os = X.s₀.os
  bare : AllBare s.gens
  base : Un X.fs X.ex X.H₀ H X.s₀.heap s.heap
  loc : ∃ m, s.heap.Ns X.env.locals m ∧ ∀ (i : Nat) (x : Str) (v : V), X.N[i]? = some x → σ[i]? = some (some v) → Vis X.env.scope x → ∃ u, RelV v u ∧ Look X.env s.heap m x u
  cell : ∀ x c, X.env.cells.lookup x = some c → ∃ v, s.heap.IsCell c v
  free : H X.env.locals = none
  freeC : ∀ x c, X.env.cells.lookup x = some c → H c = none
  pin : ∀ p ∈ X.pn ++ pins, s.heap.get? p.1 = some p.2 ∧ H p.1 = none ∧ p.1 ≠ X.env.locals ∧ p.1 ∉ X.fs ∧ ∀ v, p.2.data ≠ .cell v
  hok : HOk X.prog X.w H s.heap
  len : σ.length = X.N.length
section
variable {X : Cx} {pins : List (Addr × Obj)} {σ : List (Option V)} {H H' : Hp} {s : Shared} {h' : Heap}
theorem Cx.Ok.nofr (ok : X.Ok) {b : Addr} {o : Obj} (e : X.base.get? b = some o) : b ∉ X.fs := fun hb => by
  have := (ok.funs.mem hb).1
  rw [e] at this; cases this
theorem Inv.bs (I : Inv X pins σ H s) : ∀ b o, X.base.get? b = some o → s.heap.get? b = some o ∧ H b = none := fun b o e =>
  ⟨I.base.keep b o (I.ok.bs b o e).1 (I.ok.bs b o e).2 (I.ok.nofr e) (I.ok.noex b o e), I.base.free b o (I.ok.bs b o e).1 (I.ok.bs b o e).2 (I.ok.noex b o e)⟩
theorem Inv.bk (I : Inv X pins σ H s) : ∀ b o, X.base.get? b = some o → s.heap.get? b = some o := fun b o e => (I.bs b o e).1
theorem Inv.mod (I : Inv X pins σ H s) : Mod X.K X.mg X.base := I.ok.mod
theorem Inv.kIn (I : Inv X pins σ H s) : X.K.In s.heap := I.ok.mod.kin.keeps I.bk
theorem Inv.nolimit (I : Inv X pins σ H s) : s.heap.NoLimit := I.ok.mod.nolimit.keeps I.bk
theorem Inv.fr (I : Inv X pins σ H s) : ∃ m, Fr X.base X.env.locals s.heap m :=
  let ⟨m, hn, _⟩ := I.loc
  ⟨m, hn, I.bk, Nat.le_trans I.ok.bsz I.ok.above⟩
theorem Inv.lt (I : Inv X pins σ H s) : X.env.locals < s.heap.objs.size := let ⟨_, hn, _⟩ := I.loc; hn.lt
theorem Inv.sz (I : Inv X pins σ H s) : X.s₀.heap.objs.size ≤ s.heap.objs.size := Nat.le_trans I.ok.above (Nat.le_of_lt I.lt)
theorem Inv.nofs (I : Inv X pins σ H s) {a : Addr} (h : s.heap.objs.size ≤ a) : a ∉ X.fs := fun hb => by
  obtain ⟨_, o, ho, _⟩ := I.ok.funs.mem hb
  exact absurd (Nat.lt_of_lt_of_le (Heap.lt_size ho) (Nat.le_trans I.sz h)) (Nat.lt_irrefl _)
theorem Inv.cne (I : Inv X pins σ H s) : ∀ x c, X.env.cells.lookup x = some c → c ≠ X.env.locals := fun x c e z => by
  obtain ⟨v, o, ho, hd⟩ := I.cell x c e
  obtain ⟨m, ⟨o', es, ep, ho', hd', _⟩, _⟩ := I.loc
  rw [z, ho'] at ho; cases ho; rw [hd'] at hd; cases hd
theorem Inv.funs (I : Inv X pins σ H s) : s.heap.FunFrames X.base X.outer := by
  have all : ∀ (l : List Env), (∀ b ∈ frs l, b ∈ X.fs) → X.s₀.heap.FunFrames X.base l → s.heap.FunFrames X.base l := by
    intro l
    induction l with
    | nil => intro _ _; trivial
    | cons env r ih =>
      intro hs hl
      obtain ⟨hk, ⟨L, o, hf, hn, ho, hd⟩, hr⟩ := hl
      have hL : L ∈ X.fs := hs L (by unfold frs; rw [List.filterMap_cons, hf]; exact List.mem_cons_self)
      obtain ⟨sl, e⟩ := I.base.slot L o ho (I.ok.frf L hL) hL fun z => I.ok.exfs L z hL
      exact ⟨hk, ⟨L, _, hf, hn, e, hd⟩, ih (fun b hb => hs b (by unfold frs; rw [List.filterMap_cons, hf]; exact List.mem_cons_of_mem _ hb)) hr⟩
  exact all X.outer (fun _ hb => hb) I.ok.funs
theorem Inv.stack (I : Inv X pins σ H s) : s.heap.FunFrames X.base X.stack := by
  rcases I.ok.stk with e | ⟨e, hf⟩
  · rw [e]; exact I.funs
  · rw [e]
    obtain ⟨m, hn, _⟩ := I.loc
    refine .cons (by rw [I.ok.kind]; decide) hf hn ?_ I.funs
    exact Heap.get?_none_of_le (Nat.le_trans I.ok.bsz I.ok.above)
theorem Inv.stkSub (I : Inv X pins σ H s) : ∀ b ∈ frs X.stack, b ∈ X.env.locals :: X.fs := fun b hb => by
  rcases I.ok.stk with e | ⟨e, hf⟩
  · rw [e] at hb; exact List.mem_cons_of_mem _ hb
  · rw [e] at hb
    unfold frs at hb
    rw [List.filterMap_cons, hf] at hb
    exact hb
theorem Inv.stkFree (I : Inv X pins σ H s) : ∀ b ∈ frs X.stack, H b = none := fun b hb => by
  rcases List.mem_cons.mp (I.stkSub b hb) with e | hb
  · rw [e]; exact I.free
  · obtain ⟨_, o, ho, _⟩ := I.ok.funs.mem hb
    exact I.base.free b o ho (I.ok.frf b hb) fun z => I.ok.exfs b z hb
theorem Inv.step {g' : Array GenState} {t' : Nat} {d' : Drawn} {ch : List Addr} (I : Inv X pins σ H s)
    (hch : ∀ b ∈ ch, (b ∈ X.ex ∨ X.s₀.heap.objs.size ≤ b) ∧ b ≠ X.env.locals ∧ (∀ x c, X.env.cells.lookup x = some c → c ≠ b) ∧ ∀ p ∈ X.pn ++ pins, p.1 ≠ b)
    (keep : ∀ b o, b ≠ X.env.locals → b ∉ X.fs → b ∉ ch → s.heap.get? b = some o → H b = none → h'.get? b = some o)
    (slot : ∀ b o, b ≠ X.env.locals → b ∈ X.fs → b ∉ ch → s.heap.get? b = some o → H b = none → ∃ sl, h'.get? b = some { o with slots := sl }) (free : ∀ b o, b ∉ ch → s.heap.get? b = some o → H b = none → H' b = none)
    (there : ∀ b o, b ∉ ch → s.heap.get? b = some o → ∃ o', h'.get? b = some o')
    (tups : ∀ b xs, H b = some (.tup xs) → H' b = some (.tup xs)) (frzs : ∀ b o u, H b = some (.frz o u) → H' b = some (.frz o u)) (tbls : ∀ b ps, H b = some (.tbl ps) → ∃ more, H' b = some (.tbl (ps ++ more)))
    (ns : ∀ m, s.heap.Ns X.env.locals m → h'.Ns X.env.locals m) (hok : HOk X.prog X.w H' h') (hg : AllBare g') :
    Inv X pins σ H' { s with heap := h', gens := g', drawn := d', toks := t' } := by
  have neL : ∀ b o, X.s₀.heap.get? b = some o → b ≠ X.env.locals := fun b o e => Nat.ne_of_lt (Nat.lt_of_lt_of_le (Heap.lt_size e) I.ok.above)
  have neC : ∀ b o, X.s₀.heap.get? b = some o → b ∉ X.ex → b ∉ ch := fun b o e hx hb => by
    rcases (hch b hb).1 with z | z
    · exact hx z
    · exact absurd (Nat.lt_of_lt_of_le (Heap.lt_size e) z) (Nat.lt_irrefl _)
  have cellK : ∀ x c, X.env.cells.lookup x = some c → ∀ v, s.heap.IsCell c v → h'.IsCell c v := fun x c e v ⟨o, ho, hd⟩ => by
    have nch : c ∉ ch := fun z => (hch c z).2.2.1 x c e rfl
    by_cases hc : c ∈ X.fs
    · obtain ⟨sl, q⟩ := slot c o (I.cne x c e) hc nch ho (I.freeC x c e)
      exact ⟨_, q, hd⟩
    · exact ⟨o, keep c o (I.cne x c e) hc nch ho (I.freeC x c e), hd⟩
  refine ⟨I.ok, I.os, hg, ⟨fun b o e n hb hx => ?_, fun b o e n hb hx => ?_, fun b o e n hx => ?_, fun b o e hx => ?_, fun b xs e => tups b xs (I.base.tups b xs e), fun b o xs e => frzs b o xs (I.base.frzs b o xs e), fun b ps e => ?_⟩, ?_, fun x c e => ?_, ?_, fun x c e => ?_, fun p hp => ?_, hok, I.len⟩
  · exact keep b o (neL b o e) hb (neC b o e hx) (I.base.keep b o e n hb hx) (I.base.free b o e n hx)
  · obtain ⟨sl, e1⟩ := I.base.slot b o e n hb hx
    obtain ⟨sl', e2⟩ := slot b _ (neL b o e) hb (neC b o e hx) e1 (I.base.free b o e n hx)
    exact ⟨sl', e2⟩
  · obtain ⟨o', e1⟩ := I.base.there b o e hx
    exact free b o' (neC b o e hx) e1 (I.base.free b o e n hx)
  · obtain ⟨o', e1⟩ := I.base.there b o e hx
    exact there b o' (neC b o e hx) e1
  · obtain ⟨m1, e1⟩ := I.base.tbls b ps e
    obtain ⟨m2, e2⟩ := tbls b _ e1
    exact ⟨m1 ++ m2, by rw [e2, Array.append_assoc]⟩
  · obtain ⟨m, hn, hl⟩ := I.loc
    refine ⟨m, ns m hn, fun i x v e1 e2 e3 => ?_⟩
    obtain ⟨u, r, l⟩ := hl i x v e1 e2 e3
    refine ⟨u, r, ?_⟩
    rcases l with l | ⟨k, c, e, z⟩
    · exact .inl l
    · exact .inr ⟨k, c, e, cellK x c e _ z⟩
  · obtain ⟨v, z⟩ := I.cell x c e
    exact ⟨v, cellK x c e v z⟩
  · obtain ⟨m, ⟨o, _, _, ho, _⟩, _⟩ := I.loc
    exact free _ o (fun z => (hch _ z).2.1 rfl) ho I.free
  · obtain ⟨v, o, ho, hd⟩ := I.cell x c e
    exact free c o (fun z => (hch c z).2.2.1 x c e rfl) ho (I.freeC x c e)
  · obtain ⟨e, n, ne, nf, d⟩ := I.pin p hp
    have nch : p.1 ∉ ch := fun z => (hch p.1 z).2.2.2 p hp rfl
    exact ⟨keep p.1 p.2 ne nf nch e n, free p.1 p.2 nch e n, ne, nf, d⟩
theorem Inv.un {t' : Nat} (I : Inv X pins σ H s) (u : Un X.fs [] H H' s.heap h') (hok : HOk X.prog X.w H' h') : Inv X pins σ H' { s with heap := h', toks := t' } := by
  obtain ⟨m, ⟨o, es, ep, ho, r⟩, _⟩ := id I.loc
  obtain ⟨sl, hL⟩ := u.any ho I.free (by simp)
  exact I.step (g' := s.gens) (d' := s.drawn) (ch := []) (fun _ z => nomatch z) (fun b o _ hb _ e n => u.keep b o e n hb (by simp)) (fun b o _ hb _ e n => u.slot b o e n hb (by simp)) (fun b o _ e n => u.free b o e n (by simp)) (fun b o _ e => u.there b o e (by simp)) u.tups u.frzs u.tbls (fun m' hm => by
    obtain ⟨o', es', ep', ho', r'⟩ := hm
    rw [ho] at ho'; cases ho'
    exact ⟨_, es', ep', hL, r'⟩) hok I.bare
theorem Inv.call {g' : Array GenState} {t' : Nat} {d' : Drawn} {ch : List Addr} (I : Inv X pins σ H s) (u : Un (frs X.stack) ch H H' s.heap h') (hok : HOk X.prog X.w H' h') (hg : AllBare g')
    (hch : ∀ b ∈ ch, (b ∈ X.ex ∨ X.s₀.heap.objs.size ≤ b) ∧ b ≠ X.env.locals ∧ (∀ x c, X.env.cells.lookup x = some c → c ≠ b) ∧ ∀ p ∈ X.pn ++ pins, p.1 ≠ b) :
    Inv X pins σ H' { s with heap := h', gens := g', drawn := d', toks := t' } := by
  obtain ⟨m, ⟨o, es, ep, ho, r⟩, _⟩ := id I.loc
  obtain ⟨sl, hL⟩ := u.any ho I.free fun z => (hch _ z).2.1 rfl
  exact I.step (ch := ch) hch (fun b o hL hb hc e n => u.keep b o e n (fun z => (List.mem_cons.mp (I.stkSub b z)).elim hL hb) hc) (fun b o _ _ hc e n => u.any e n hc) (fun b o hc e n => u.free b o e n hc) (fun b o hc e => u.there b o e hc) u.tups u.frzs u.tbls (fun m' hm => by
    obtain ⟨o', es', ep', ho', r'⟩ := hm
    rw [ho] at ho'; cases ho'
    exact ⟨_, es', ep', hL, r'⟩) hok hg
theorem Inv.turned {t' : Nat} {it : Addr} (I : Inv X pins σ H s) (k : ∀ b o, b ≠ it → s.heap.get? b = some o → h'.get? b = some o) (hn : H it = none) (hL : it ≠ X.env.locals)
    (h1 : it ∈ X.ex ∨ X.s₀.heap.objs.size ≤ it) (h2 : ∀ x c, X.env.cells.lookup x = some c → c ≠ it) (h3 : ∀ p ∈ X.pn ++ pins, p.1 ≠ it) : Inv X pins σ H { s with heap := h', toks := t' } := by
  have nit : ∀ b u, H b = some u → b ≠ it := fun b u e z => by rw [z, hn] at e; cases e
  refine I.step (g' := s.gens) (d' := s.drawn) (ch := [it]) (fun b hb => ?_) (fun b o _ _ hc e _ => k b o (fun z => hc (by simp [z])) e) (fun b o _ _ hc e _ => ⟨o.slots, k b o (fun z => hc (by simp [z])) e⟩) (fun _ _ _ _ n => n)
    (fun b o hc e => ⟨o, k b o (fun z => hc (by simp [z])) e⟩) (fun _ _ e => e) (fun _ _ _ e => e) (fun b ps e => ⟨#[], by rw [e]; simp⟩) (fun m hm => ?_) (fun b u e => ?_) I.bare
  · have e : b = it := by simpa using hb
    subst e
    exact ⟨h1, hL, h2, h3⟩
  · obtain ⟨o, es, ep, ho, r⟩ := hm
    exact ⟨o, es, ep, k _ o (Ne.symm hL) ho, r⟩
  · refine (I.hok b u e).stay (fun c v hc q => k c v ?_ q) (fun _ q => q) fun _ _ q => q
    rcases hc with z | z
    · rw [z]; exact nit b u e
    · exact nit c _ z
theorem Inv.tok (I : Inv X pins σ H s) (t : Nat) : Inv X pins σ H { s with toks := t } := I.un (h' := s.heap) (t' := t) Un.refl I.hok
theorem Inv.kept {t' : Nat} (I : Inv X pins σ H s) (k : ∀ b u, s.heap.get? b = some u → h'.get? b = some u) : Inv X pins σ H { s with heap := h', toks := t' } := I.un (Un.kept k) (I.hok.kept k)
theorem Inv.laid {a : Addr} {o : HO} {t' : Nat} (I : Inv X pins σ H s) (k : ∀ b u, s.heap.get? b = some u → h'.get? b = some u) (hp : s.heap.objs.size ≤ a) (new : ObjOk X.prog X.w (upd H a o) h' a o) :
    Inv X pins σ (upd H a o) { s with heap := h', toks := t' } := I.un (Un.laid k hp (I.hok.fresh hp)) (I.hok.laid k hp new)
theorem Inv.write {x e : Addr} {o : HO} {t' : Nat} (I : Inv X pins σ H s) (mu : Mut (H x)) (he : e = x ∨ H e = some (.own x)) (k : ∀ b u, b ≠ e → s.heap.get? b = some u → h'.get? b = some u) (heo : ∃ u, h'.get? e = some u)
    (new : ObjOk X.prog X.w (upd H x o) h' x o) : Inv X pins σ (upd H x o) { s with heap := h', toks := t' } := I.un (Un.write mu he k heo) (I.hok.write mu he k heo new)
theorem Inv.pins_of {pins' : List (Addr × Obj)} (I : Inv X pins σ H s) (h : ∀ p ∈ pins', s.heap.get? p.1 = some p.2 ∧ H p.1 = none ∧ p.1 ≠ X.env.locals ∧ p.1 ∉ X.fs ∧ ∀ v, p.2.data ≠ .cell v) : Inv X pins' σ H s :=
  ⟨I.ok, I.os, I.bare, I.base, I.loc, I.cell, I.free, I.freeC, fun p hp => (List.mem_append.mp hp).elim (fun z => I.pin p (List.mem_append_left _ z)) (h p), I.hok, I.len⟩
theorem nodup_ix {N : List Str} (hN : N.Nodup) {i j : Nat} {x : Str} (a : N[i]? = some x) (b : N[j]? = some x) : i = j := by
  obtain ⟨h1, e1⟩ := List.getElem?_eq_some_iff.mp a
  obtain ⟨h2, e2⟩ := List.getElem?_eq_some_iff.mp b
  exact (List.getElem_inj hN).mp (e1.trans e2.symm)
theorem store_ok2 {M : Model} {A : Around} {E : Value → Shared → Prop} {i : Nat} {x : Str} {v : V} {u : Value} {Q : Unit → Shared → Prop} (I : Inv X pins σ H s) (hN : X.N.Nodup) (hi : X.N[i]? = some x) (hx : Loc X.env.scope x) (r : RelV v u)
    (h : ∀ s', Inv X pins (σ.set i (some v)) H s' → (∃ a, Heap.SameBut a s.heap s'.heap ∧ (a = X.env.locals ∨ X.env.cells.lookup x = some a)) → Q () s') (hf : X.fn x = true ∨ X.env.scope.names.lookup x = some .local := by first | exact .inl rfl | exact .inr rfl | assumption) : wpAny M A (storeName X.env x u) Q E s := by
  obtain ⟨m, hn, hl⟩ := id I.loc
  have hcls : (X.env.scope.kind == .class || (X.env.scope.kind == .module && X.env.locals != X.env.globals)) = false := by rw [I.ok.kind]; rfl
  have hiσ : i < σ.length := by rw [I.len]; exact (List.getElem?_eq_some_iff.mp hi).1
  have cne := I.cne
  have tracked : ∀ {a : Addr} {h' : Heap}, (∃ o, s.heap.get? a = some o ∧ H a = none) → Heap.SameBut a s.heap h' → HOk X.prog X.w H h' := fun {a h'} ha hs b ob e => by
    obtain ⟨_, _, hfree⟩ := ha
    refine (I.hok b ob e).stay (fun c w' hc q => (hs.2 c ?_).trans q) (fun _ q => q) fun _ _ q => q
    rintro rfl
    rcases hc with rfl | hc
    · rw [hfree] at e; cases e
    · rw [hfree] at hc; cases hc
  rcases hx with hk | hk
  · refine wpAny_storeName_local hk hn (fun h' hn' hs => ?_) hcls
    obtain ⟨oL, _, _, hoL, _⟩ := id hn
    refine h _ ⟨I.ok, I.os, I.bare, ⟨fun b o e n hb hx => ?_, fun b o e n hb hx => ?_, I.base.free, fun b o e hx => ?_, I.base.tups, I.base.frzs, I.base.tbls⟩, ⟨_, hn', fun j y v' e1 e2 e3 => ?_⟩, fun y c e => ?_, I.free, I.freeC, fun p hp => ?_, tracked ⟨oL, hoL, I.free⟩ hs, by simpa using I.len⟩ ⟨_, hs, .inl rfl⟩
    · exact (hs.2 b (Nat.ne_of_lt (Nat.lt_of_lt_of_le (Heap.lt_size e) I.ok.above))).trans (I.base.keep b o e n hb hx)
    · obtain ⟨sl, e1⟩ := I.base.slot b o e n hb hx
      exact ⟨sl, (hs.2 b (Nat.ne_of_lt (Nat.lt_of_lt_of_le (Heap.lt_size e) I.ok.above))).trans e1⟩
    · obtain ⟨o', e1⟩ := I.base.there b o e hx
      exact ⟨o', (hs.2 b (Nat.ne_of_lt (Nat.lt_of_lt_of_le (Heap.lt_size e) I.ok.above))).trans e1⟩
    · by_cases hj : j = i
      · subst hj
        rw [hi] at e1; cases e1
        rw [List.getElem?_set_self hiσ] at e2
        cases e2
        exact ⟨u, r, .inl ⟨hk, by simp⟩⟩
      · rw [List.getElem?_set_ne (Ne.symm hj)] at e2
        obtain ⟨u', r', q⟩ := hl j y v' e1 e2 e3
        refine ⟨u', r', ?_⟩
        rcases q with ⟨k, e⟩ | ⟨k, c, e, z⟩
        · refine .inl ⟨k, ?_⟩
          have : y ≠ x := fun e => hj (nodup_ix hN e1 (e ▸ hi))
          simp [this, e]
        · exact .inr ⟨k, c, e, z.sameBut hs (cne y c e)⟩
    · obtain ⟨w', z⟩ := I.cell y c e
      exact ⟨w', z.sameBut hs (cne y c e)⟩
    · obtain ⟨e, n, ne, nf, d⟩ := I.pin p hp
      exact ⟨(hs.2 p.1 ne).trans e, n, ne, nf, d⟩
  · have hfn : X.fn x = true := by
      rcases hf with z | z
      · exact z
      · rw [z] at hk; cases hk
    obtain ⟨c, hc⟩ := I.ok.has x (.inl hk)
    obtain ⟨w', z⟩ := I.cell x c hc
    refine wpAny_storeName_cell I.ok.kind hk hc z (fun h' hc' hs => ?_)
    obtain ⟨oc, hoc, hocd⟩ := id z
    refine h { s with heap := h' } ⟨I.ok, I.os, I.bare, ⟨fun b o e n hb hx => ?_, fun b o e n hb hx => ?_, I.base.free, fun b o e hx => ?_, I.base.tups, I.base.frzs, I.base.tbls⟩, ⟨m, hn.sameBut hs (Ne.symm (cne x c hc)), fun j y v' e1 e2 e3 => ?_⟩, fun y c' e => ?_, I.free, I.freeC, fun p hp => ?_, tracked ⟨oc, hoc, I.freeC x c hc⟩ hs, by simpa using I.len⟩ ⟨c, hs, .inr hc⟩
    · exact (hs.2 b (Nat.ne_of_lt (Nat.lt_of_lt_of_le (Heap.lt_size e) (I.ok.cab x c hfn hc)))).trans (I.base.keep b o e n hb hx)
    · obtain ⟨sl, e1⟩ := I.base.slot b o e n hb hx
      exact ⟨sl, (hs.2 b (Nat.ne_of_lt (Nat.lt_of_lt_of_le (Heap.lt_size e) (I.ok.cab x c hfn hc)))).trans e1⟩
    · obtain ⟨o', e1⟩ := I.base.there b o e hx
      exact ⟨o', (hs.2 b (Nat.ne_of_lt (Nat.lt_of_lt_of_le (Heap.lt_size e) (I.ok.cab x c hfn hc)))).trans e1⟩
    · by_cases hj : j = i
      · subst hj
        rw [hi] at e1; cases e1
        rw [List.getElem?_set_self hiσ] at e2
        cases e2
        exact ⟨u, r, .inr ⟨.inl hk, c, hc, hc'⟩⟩
      · rw [List.getElem?_set_ne (Ne.symm hj)] at e2
        obtain ⟨u', r', q⟩ := hl j y v' e1 e2 e3
        refine ⟨u', r', ?_⟩
        rcases q with q | ⟨k, c', e, z'⟩
        · exact .inl q
        · refine .inr ⟨k, c', e, z'.sameBut hs ?_⟩
          rintro rfl
          exact hj (nodup_ix hN e1 (I.ok.inj _ _ _ e hc ▸ hi))
    · by_cases hcc : c' = c
      · subst hcc; exact ⟨_, hc'⟩
      · obtain ⟨w2, z2⟩ := I.cell y c' e
        exact ⟨w2, z2.sameBut hs hcc⟩
    · obtain ⟨e, n, ne, nf, d⟩ := I.pin p hp
      refine ⟨(hs.2 p.1 ?_).trans e, n, ne, nf, d⟩
      intro q
      rw [q, hoc] at e
      have q' : oc = p.2 := Option.some.inj e
      exact d w' (by rw [← q']; exact hocd)
theorem store_ok {M : Model} {A : Around} {E : Value → Shared → Prop} {i : Nat} {x : Str} {v : V} {u : Value} {Q : Unit → Shared → Prop} (I : Inv X pins σ H s) (hN : X.N.Nodup) (hi : X.N[i]? = some x) (hx : Loc X.env.scope x) (r : RelV v u)
    (h : ∀ s', Inv X pins (σ.set i (some v)) H s' → Q () s') (hf : X.fn x = true ∨ X.env.scope.names.lookup x = some .local := by first | exact .inl rfl | exact .inr rfl | assumption) : wpAny M A (storeName X.env x u) Q E s :=
  store_ok2 I hN hi hx r (fun s' I' _ => h s' I') hf
theorem Inv.call' {s' : Shared} {ch : List Addr} (I : Inv X pins σ H s) (ho : s'.os = s.os) (u : Un (frs X.stack) ch H H' s.heap s'.heap) (hok : HOk X.prog X.w H' s'.heap) (hg : AllBare s'.gens)
    (hch : ∀ b ∈ ch, (b ∈ X.ex ∨ X.s₀.heap.objs.size ≤ b) ∧ b ≠ X.env.locals ∧ (∀ x c, X.env.cells.lookup x = some c → c ≠ b) ∧ ∀ p ∈ X.pn ++ pins, p.1 ≠ b) : Inv X pins σ H' s' := by
  obtain ⟨h', g', d', t', o'⟩ := s'
  have e : o' = s.os := ho
  subst e
  exact I.call (g' := g') (t' := t') (d' := d') u hok hg hch
end
abbrev XK := Value → Option Addr → Hp → Prop
abbrev St := List (Option V)
abbrev VK := V → Hp → Prop
abbrev TE := St → Hp → VK → Prop
abbrev TT := St → Hp → (Bool → Hp → Prop) → Prop
abbrev TA := St → Hp → (List V → Hp → Prop) → Prop
structure Ends where
  nx : St → Hp → Prop
  rt : VK
  bk : St → Hp → Prop := fun _ _ => False
  ct : St → Hp → Prop := fun _ _ => False
abbrev TS := Ends → St → Hp → Prop
def EP (X : Cx) (pins : List (Addr × Obj)) (σ : St) (Q : VK) (u : Value) (s' : Shared) : Prop := ∃ v H', Inv X pins σ H' s' ∧ RelV v u ∧ Q v H'
def TP (X : Cx) (pins : List (Addr × Obj)) (σ : St) (Q : Bool → Hp → Prop) (b : Bool) (s' : Shared) : Prop := ∃ H', Inv X pins σ H' s' ∧ Q b H'
def AP (X : Cx) (pins : List (Addr × Obj)) (σ : St) (Q : List V → Hp → Prop) (us : List Value) (s' : Shared) : Prop := ∃ vs H', Inv X pins σ H' s' ∧ Vals vs us ∧ Q vs H'
def SP (X : Cx) (pins : List (Addr × Obj)) (D : Ends) (f : Flow) (s' : Shared) : Prop :=
  match f with
  | .next => ∃ σ' H', Inv X pins σ' H' s' ∧ D.nx σ' H'
  | .brk => ∃ σ' H', Inv X pins σ' H' s' ∧ D.bk σ' H'
  | .cont => ∃ σ' H', Inv X pins σ' H' s' ∧ D.ct σ' H'
  | .ret u => ∃ v σ' H', Inv X pins σ' H' s' ∧ RelV v u ∧ D.rt v H'
def PE (X : Cx) (e : Expr) (t : TE) : Prop :=
  ∀ (pins : List (Addr × Obj)) (s : Shared) (σ : St) (H : Hp) (Q : VK), Inv X pins σ H s → t σ H Q → wpAny (model X.prog X.w) X.A (eval e X.env) (EP X pins σ Q) X.xe s
def PT (X : Cx) (e : Expr) (t : TT) : Prop :=
  ∀ (pins : List (Addr × Obj)) (s : Shared) (σ : St) (H : Hp) (Q : Bool → Hp → Prop), Inv X pins σ H s → t σ H Q → wpAny (model X.prog X.w) X.A (isTrue e X.env (eval e X.env)) (TP X pins σ Q) X.xe s
def PW (X : Cx) (e : Expr) (t : TT) : Prop :=
  ∀ (whole : Sem Value) (pins : List (Addr × Obj)) (s : Shared) (σ : St) (H : Hp) (Q : Bool → Hp → Prop), Inv X pins σ H s → t σ H Q → wpAny (model X.prog X.w) X.A (isTrue e X.env whole) (TP X pins σ Q) X.xe s
theorem PW.pt {X : Cx} {e : Expr} {t : TT} (h : PW X e t) : PT X e t := h _
def PA (X : Cx) (es : List Expr) (t : TA) : Prop :=
  ∀ (pos : Pos) (pins : List (Addr × Obj)) (s : Shared) (σ : St) (H : Hp) (Q : List V → Hp → Prop), Inv X pins σ H s → t σ H Q → wpAny (model X.prog X.w) X.A (spliced (backTo pos (starEach es X.env))) (AP X pins σ Q) X.xe s
def PS (X : Cx) (st : Stmt) (t : TS) : Prop :=
  ∀ (pins : List (Addr × Obj)) (s : Shared) (σ : St) (H : Hp) (D : Ends), Inv X pins σ H s → t D σ H → wpAny (model X.prog X.w) X.A (exec st X.env) (SP X pins D) X.xe s
def PSs (X : Cx) (st : List Stmt) (t : TS) : Prop :=
  ∀ (pins : List (Addr × Obj)) (s : Shared) (σ : St) (H : Hp) (D : Ends), Inv X pins σ H s → t D σ H → wpAny (model X.prog X.w) X.A (execs st X.env) (SP X pins D) X.xe s
theorem thn {α : Type} {t : Sem α} {Q Q' : α → Shared → Prop} {M : Model} {A : Around} {E : Value → Shared → Prop} {s : Shared} (h : wpAny M A t Q E s) (hQ : ∀ a s, Q a s → Q' a s) : wpAny M A t Q' E s := wpAny_mono h hQ fun _ _ x => x
end L2
namespace L2
open PySem PySem.Spec PyProof.Rows
section
variable {X : Cx}
theorem bin {a b : Expr} {ta tb : TE} (ha : PE X a ta) (hb : PE X b tb) {pins : List (Addr × Obj)} {s : Shared} {σ : St} {H : Hp} {R : V → V → Hp → Prop} (I : Inv X pins σ H s) (h : ta σ H fun x H1 => tb σ H1 fun y H2 => R x y H2)
    {α : Type} {Q : α → Shared → Prop} {f : Value → Value → Sem α}
    (hf : ∀ v u s2 x y H2, Inv X pins σ H2 s2 → RelV x v → RelV y u → R x y H2 → wpAny (model X.prog X.w) X.A (f v u) Q X.xe s2) :
    wpAny (model X.prog X.w) X.A (eval a X.env) (fun v s₁ => wpAny (model X.prog X.w) X.A (eval b X.env) (fun u s₂ => wpAny (model X.prog X.w) X.A (f v u) Q X.xe s₂) X.xe s₁) X.xe s := by
  refine thn (ha pins s σ H _ I h) fun v s1 ⟨x, H1, I1, r1, q1⟩ => ?_
  refine thn (hb pins s1 σ H1 _ I1 q1) fun u s2 ⟨y, H2, I2, r2, q2⟩ => ?_
  exact hf v u s2 x y H2 I2 r1 r2 q2
def tVar (i : Nat) : TE := fun σ H Q => ∃ v, σ[i]? = some (some v) ∧ Q v H
def tC (v : V) : TE := fun _ H Q => Q v H
theorem pe_var {i : Nat} {x : Str} {pos : Pos} (hN : X.N[i]? = some x) (hv : Vis X.env.scope x) (hd : (x == ("__debug__" : Str)) = false := by decide) (hcd : (x == ("__classdict__" : Str)) = false := by decide) : PE X (.Name x pos) (tVar i) := by
  intro pins s σ H Q I h
  obtain ⟨v, e, h⟩ := h
  obtain ⟨m, hn, hl⟩ := I.loc
  obtain ⟨u, r, l⟩ := hl i x v hN e hv
  have fin : EP X pins σ Q u s := ⟨v, H, I, r, h⟩
  rcases l with ⟨hk, hm⟩ | ⟨hk, c, hc, hcell⟩
  · exact wpAny_Name (wpAny_loadName_local I.ok.kind hk hn hm fin) hd
  · rcases hk with hk | hk
    · exact wpAny_Name (wpAny_loadName_cell I.ok.kind hk hc hcell fin) hd
    · exact wpAny_Name (wpAny_loadName_free I.ok.kind hk hc hcell fin hcd) hd
theorem pe_int {i j pos} : PE X (.Constant (.int i) j pos) (tC (.int i)) := fun _ _ _ H _ I h => wpAny_Constant_int ⟨.int i, H, I.tok _, ⟨_, rfl⟩, h⟩
theorem pe_bl {b j pos} : PE X (.Constant (.bool b) j pos) (tC (.bl b)) := fun _ _ _ H _ I h => Constant_bool ⟨.bl b, H, I, rfl, h⟩
theorem pe_non {j pos} : PE X (.Constant .none j pos) (tC .non) := fun _ _ _ H _ I h => Constant_none ⟨.non, H, I, rfl, h⟩
theorem pe_str {x j pos} : PE X (.Constant (.str x) j pos) (tC (.str x)) := fun _ _ _ H _ I h => Calls.Constant_str ⟨.str x, H, I.tok _, ⟨_, rfl⟩, h⟩
def Gl (X : Cx) (x : Str) : Prop := X.env.kindOf x = some .globalImplicit
theorem ld_glob {E : Value → Shared → Prop} {pins : List (Addr × Obj)} {s : Shared} {σ : St} {H : Hp} {x : Str} {u : Value} {pos : Pos} {Q : Value → Shared → Prop} (I : Inv X pins σ H s) (hg : Gl X x) (hm : X.mg x = some u) (h : Q u s)
    (hd : (x == ("__debug__" : Str)) = false := by decide) : wpAny (model X.prog X.w) X.A (eval (.Name x pos) X.env) Q E s :=
  Calls.Name_function_global I.ok.kind hg (Calls.loadGlobal_global (by rw [I.ok.glob]; exact I.mod.glob.keeps I.bk) hm h) hd
theorem ld_blt {E : Value → Shared → Prop} {pins : List (Addr × Obj)} {s : Shared} {σ : St} {H : Hp} {x : Str} {u : Value} {pos : Pos} {Q : Value → Shared → Prop} (I : Inv X pins σ H s) (hg : Gl X x) (hm : X.mg x = none) (hv : bootBuiltins x = some u) (h : Q u s)
    (hn : x ≠ "__name__" := by decide) (hd : (x == ("__debug__" : Str)) = false := by decide) : wpAny (model X.prog X.w) X.A (eval (.Name x pos) X.env) Q E s := by
  obtain ⟨mb, h1, h2⟩ := I.mod.blt
  exact Calls.Name_function_global I.ok.kind hg (Calls.loadGlobal_builtin (by rw [I.ok.glob]; exact I.mod.glob.keeps I.bk) hm (by rw [I.ok.blt]; exact h1.keeps I.bk) ((h2 x hn).trans hv) h) hd
theorem pe_glob {x : Str} {v : V} {u : Value} {pos : Pos} (hg : Gl X x) (hm : X.mg x = some u) (r : RelV v u) (hd : (x == ("__debug__" : Str)) = false := by decide) : PE X (.Name x pos) (tC v) :=
  fun _ _ _ H _ I h => ld_glob I hg hm ⟨v, H, I, r, h⟩ hd
theorem pe_bltn {x : Str} {v : V} {u : Value} {pos : Pos} (hg : Gl X x) (hm : X.mg x = none) (hv : bootBuiltins x = some u) (r : RelV v u) (hn : x ≠ "__name__" := by decide) (hd : (x == ("__debug__" : Str)) = false := by decide) : PE X (.Name x pos) (tC v) :=
  fun _ _ _ H _ I h => ld_blt I hg hm hv ⟨v, H, I, r, h⟩ hn hd
variable {a b : Expr} {ta tb : TE} {pos : Pos}
def PC (X : Cx) (op : CmpOp) (a b : Expr) (t : TE) : Prop :=
  ∀ (pins : List (Addr × Obj)) (s : Shared) (σ : St) (H : Hp) (Q : VK), Inv X pins σ H s → t σ H Q →
    wpAny (model X.prog X.w) X.A (eval a X.env) (fun v s₁ => wpAny (model X.prog X.w) X.A (eval b X.env) (fun u s₂ => wpAny (model X.prog X.w) X.A (compareOp op v u) (EP X pins σ Q) X.xe s₂) X.xe s₁) X.xe s
theorem nobehind (b : Expr) {op : CmpOp} (h : op ≠ .In) (h2 : op ≠ .NotIn) : behindInMarks op b = false := by
  have e1 : (op == CmpOp.In) = false := by cases op <;> first | rfl | exact absurd rfl h
  have e2 : (op == CmpOp.NotIn) = false := by cases op <;> first | rfl | exact absurd rfl h2
  cases b <;> simp [behindInMarks, e1, e2]
def tB (t : TE) : TT := fun σ H Q => t σ H fun x H1 => ∃ c, x = .bl c ∧ Q c H1
theorem pt_cmp {op : CmpOp} {t : TE} (h : PC X op a b t) (h1 : behindInMarks op b = false := by first | exact nobehind _ (by decide) (by decide) | rfl) : PT X (.Compare a [op] [b] pos) (tB t) := by
  intro pins s σ H Q I hw
  refine wpAny_isTrue_Compare1 (thn (h pins s σ H _ I hw) fun v s1 h1 => thn h1 fun u s2 h2 => thn h2 fun c s3 ⟨x, H1, I1, r1, q1⟩ => ?_) h1
  obtain ⟨d, rfl, q⟩ := q1
  cases r1
  exact wpAny_truthy_bool ⟨H1, I1, q⟩
theorem pt_val {e : Expr} {t : TE} (h : PE X e t) (he : ∀ whole, isTrue e X.env whole = (do let v ← whole; standAt e.pos; holding [v] (truthy v)) := by intro _; rfl) : PT X e (tB t) := by
  intro pins s σ H Q I hw
  refine isTrue_plain (thn (h pins s σ H _ I hw) fun v s1 ⟨x, H1, I1, r1, q1⟩ => ?_) (he _)
  obtain ⟨d, rfl, q⟩ := q1
  cases r1
  exact wpAny_truthy_bool ⟨H1, I1, q⟩
variable {tA tB' : TT} {rest : List Expr}
def tOr (t u : TT) : TT := fun σ H Q => t σ H fun c H1 => if c = true then Q true H1 else u σ H1 Q
def tNot (t : TT) : TT := fun σ H Q => t σ H fun c H1 => Q (!c) H1
theorem pw_or1 (ha : PT X a tA) : PW X (.BoolOp .Or [a] pos) tA := by
  intro wh pins s σ H Q I h
  refine isTrue_or (thn (ha pins s σ H Q I h) fun c s1 e => ?_)
  cases c with
  | false => exact isTrue_or_nil e
  | true => exact e
theorem pw_or (ha : PT X a tA) (hb : PW X (.BoolOp .Or (b :: rest) pos) tB') : PW X (.BoolOp .Or (a :: b :: rest) pos) (tOr tA tB') := by
  intro wh pins s σ H Q I h
  refine isTrue_or (thn (ha pins s σ H _ I h) fun c s1 ⟨H1, I1, q1⟩ => ?_)
  cases c with
  | true => exact ⟨H1, I1, q1⟩
  | false => exact hb wh pins s1 σ H1 Q I1 q1
theorem pt_not (ha : PT X a tA) : PT X (.UnaryOp .Not a pos) (tNot tA) := by
  intro pins s σ H Q I h
  exact isTrue_not (ha pins s σ H (fun c H1 => Q (!c) H1) I h)
def tAndV (ta tb : TE) : TE := fun σ H Q => ta σ H fun x H1 => ∃ c, x = .bl c ∧ if c = true then tb σ H1 Q else Q (.bl false) H1
theorem pe_one {op} {t : TE} (h : PE X a t) : PE X (.BoolOp op [a] pos) t := fun pins s σ H Q I hw => BoolOp_one (h pins s σ H Q I hw)
theorem pe_and (ha : PE X a ta) (hb : PE X (.BoolOp .And (b :: rest) pos) tb) : PE X (.BoolOp .And (a :: b :: rest) pos) (tAndV ta tb) := by
  intro pins s σ H Q I h
  refine BoolOp_and (thn (ha pins s σ H _ I h) fun v s1 ⟨x, H1, I1, r1, q1⟩ => ?_)
  obtain ⟨c, rfl, q1⟩ := q1
  cases r1
  refine wpAny_truthy_bool ?_
  cases c with
  | true => exact hb pins s1 σ H1 Q I1 q1
  | false => exact ⟨.bl false, H1, I1, rfl, q1⟩
end
end L2
namespace L2
open PySem PySem.Spec PyProof.Rows
def SqL (K : PySem.W.Frag) (H : Hp) (a : Addr) (xs : List V) : Prop :=
  Rd H a (.lst xs) ∨
    ∃ (o : Obj) (its : Array Value) (n : Nat), K.lookup a = some o ∧ o.cls = .type "list" ∧ o.dict = none ∧ o.data = .seq its n ∧ its.size ≤ sizeLine ∧ Vals xs its.toList
def SqT (K : PySem.W.Frag) (H : Hp) (a : Addr) (xs : List V) : Prop :=
  Rd H a (.tup xs) ∨
    ∃ (o : Obj) (its : Array Value) (n : Nat), K.lookup a = some o ∧ o.cls = .type "tuple" ∧ o.data = .seq its n ∧ its.size ≤ sizeLine ∧ Vals xs its.toList
def absV : Value → Option V
  | .none => some .non
  | .bool b => some (.bl b)
  | .int i _ => some (.int i)
  | .str x _ => some (.str x)
  | .bytes b _ => some (.byt b)
  | .float b _ => some (.flt b)
  | .ref a => some (.ref a)
  | .type n => some (.ty n)
  | _ => none
theorem RelV.abs {x : V} {u : Value} (r : RelV x u) : absV u = some x := by
  cases x with
  | non => cases r; rfl
  | bl _ => cases r; rfl
  | int _ => obtain ⟨t, rfl⟩ := r; rfl
  | str _ => obtain ⟨t, rfl⟩ := r; rfl
  | byt _ => obtain ⟨t, rfl⟩ := r; rfl
  | flt _ => obtain ⟨t, rfl⟩ := r; rfl
  | ref _ => cases r; rfl
  | ty _ => cases r; rfl
theorem RelV.inj {x y : V} {u : Value} (r : RelV x u) (q : RelV y u) : x = y := Option.some.inj (r.abs.symm.trans q.abs)
theorem Vals.inj : ∀ {xs ys : List V} {us : List Value}, Vals xs us → Vals ys us → xs = ys
  | _, _, _, .nil, .nil => rfl
  | _, _, _, .cons r t, .cons r' t' => by rw [r.inj r', Vals.inj t t']
section
variable {X : Cx} {pins : List (Addr × Obj)} {σ : St} {H : Hp} {s : Shared} {a : Addr} {xs ys : List V}
theorem SqL.of {K : PySem.W.Frag} (h : H a = some (.lst xs)) : SqL K H a xs := .inl (.inl h)
theorem SqT.of {K : PySem.W.Frag} (h : H a = some (.tup xs)) : SqT K H a xs := .inl (.inl h)
theorem Inv.list (I : Inv X pins σ H s) (h : SqL X.K H a xs) : ∃ its : List Value, Vals xs its ∧ PlainL s.heap a its.toArray ∧ xs.length ≤ sizeLine := by
  rcases h with h | ⟨o, its, n, hk, hc, hd, hs, hz, r⟩
  · obtain ⟨z, its, n, r, e⟩ := h.ok I.hok
    exact ⟨its, r, ⟨_, n, e, rfl, rfl, rfl⟩, z⟩
  · refine ⟨its.toList, r, ⟨o, n, I.kIn a o hk, hc, hd, by simpa using hs⟩, ?_⟩
    have e := r.length
    simp only [Array.length_toList] at e
    omega
theorem Inv.tuple (I : Inv X pins σ H s) (h : SqT X.K H a xs) : ∃ its : List Value, Vals xs its ∧ IsTup s.heap a its.toArray ∧ xs.length ≤ sizeLine := by
  rcases h with h | ⟨o, its, n, hk, hc, hs, hz, r⟩
  · obtain ⟨z, its, r, p⟩ := h.ok I.hok
    exact ⟨its, r, p, z⟩
  · refine ⟨its.toList, r, ⟨o, I.kIn a o hk, hc, n, by simpa using hs⟩, ?_⟩
    have e := r.length
    simp only [Array.length_toList] at e
    omega
theorem Inv.list_inj (I : Inv X pins σ H s) (h : SqL X.K H a xs) (h' : SqL X.K H a ys) : xs = ys := by
  obtain ⟨its, r, ⟨o, n, e, _, _, d⟩, _⟩ := I.list h
  obtain ⟨its', r', ⟨o', n', e', _, _, d'⟩, _⟩ := I.list h'
  rw [e] at e'; cases e'
  rw [d] at d'
  injection d' with d1 _
  have : its = its' := by simpa using congrArg Array.toList d1
  subst this
  exact r.inj r'
end
abbrev Cx.wish (X : Cx) (E : Value → Shared → Prop) : Cx := { X with xe := E }
abbrev Cx.nox (X : Cx) : Cx := X.wish fun _ _ => False
theorem Cx.Ok.wish {X : Cx} (ok : X.Ok) (E : Value → Shared → Prop) : (X.wish E).Ok :=
  ⟨ok.mod, ok.kind, ok.glob, ok.blt, ok.above, ok.inj, ok.has, ok.cab, ok.hd, ok.frames, ok.stk, ok.exf, ok.bs, ok.bsz, ok.noex, ok.exfs, ok.funs, ok.frf⟩
theorem Cx.Ok.unwish {X : Cx} {E : Value → Shared → Prop} (ok : (X.wish E).Ok) : X.Ok :=
  ⟨ok.mod, ok.kind, ok.glob, ok.blt, ok.above, ok.inj, ok.has, ok.cab, ok.hd, ok.frames, ok.stk, ok.exf, ok.bs, ok.bsz, ok.noex, ok.exfs, ok.funs, ok.frf⟩
section
variable {X : Cx} {pins : List (Addr × Obj)} {σ : St} {H : Hp} {s : Shared} {E : Value → Shared → Prop}
theorem Inv.wish (I : Inv X pins σ H s) (E : Value → Shared → Prop) : Inv (X.wish E) pins σ H s := ⟨I.ok.wish E, I.os, I.bare, I.base, I.loc, I.cell, I.free, I.freeC, I.pin, I.hok, I.len⟩
theorem Inv.unwish (I : Inv (X.wish E) pins σ H s) : Inv X pins σ H s := ⟨I.ok.unwish, I.os, I.bare, I.base, I.loc, I.cell, I.free, I.freeC, I.pin, I.hok, I.len⟩
theorem SP.unwish {D : Ends} {f : Flow} {s' : Shared} (h : SP (X.wish E) pins D f s') : SP X pins D f s' := by
  cases f with
  | next => obtain ⟨σ', H', I, q⟩ := h; exact ⟨σ', H', I.unwish, q⟩
  | brk => obtain ⟨σ', H', I, q⟩ := h; exact ⟨σ', H', I.unwish, q⟩
  | cont => obtain ⟨σ', H', I, q⟩ := h; exact ⟨σ', H', I.unwish, q⟩
  | ret u => obtain ⟨v, σ', H', I, r, q⟩ := h; exact ⟨v, σ', H', I.unwish, r, q⟩
theorem PE.nox {e : Expr} {t : TE} (h : PE X.nox e t) : PE X e t := fun pins s σ H Q I hw =>
  wpAny_mono (h pins s σ H Q (I.wish _) hw) (fun _ _ ⟨v, H', I', r, q⟩ => ⟨v, H', I'.unwish, r, q⟩) fun _ _ z => False.elim z
theorem PT.nox {e : Expr} {t : TT} (h : PT X.nox e t) : PT X e t := fun pins s σ H Q I hw =>
  wpAny_mono (h pins s σ H Q (I.wish _) hw) (fun _ _ ⟨H', I', q⟩ => ⟨H', I'.unwish, q⟩) fun _ _ z => False.elim z
theorem PSs.nox {st : List Stmt} {t : TS} (h : PSs X.nox st t) : PSs X st t := fun pins s σ H D I hw =>
  wpAny_mono (h pins s σ H D (I.wish _) hw) (fun _ _ q => q.unwish) fun _ _ z => False.elim z
end
section
variable {X : Cx} {st : Stmt} {rest : List Stmt} {t u : TS} {e : Expr} {te : TE} {pos : Pos}
def tNext : TS := fun D σ H => D.nx σ H
def tSeq (t u : TS) : TS := fun D σ H => t { D with nx := u D } σ H
theorem pss_nil : PSs X [] tNext := fun _ _ σ H _ I h => wpAny_execs_nil ⟨σ, H, I, h⟩
theorem pss_cons (h1 : PS X st t) (h2 : PSs X rest u) : PSs X (st :: rest) (tSeq t u) := by
  intro pins s σ H D I h
  refine wpAny_execs_cons (thn (h1 pins s σ H { D with nx := u D } I h) fun f s1 q => ?_)
  cases f with
  | next =>
    obtain ⟨σ', H', I', q⟩ := q
    exact h2 pins s1 σ' H' D I' q
  | ret v => exact q
  | brk => exact q
  | cont => exact q
theorem pss_one (h1 : PS X st t) : PSs X [st] t := by
  intro pins s σ H D I h
  refine wpAny_execs_cons (thn (h1 pins s σ H D I h) fun f s1 q => ?_)
  cases f with
  | next => exact wpAny_execs_nil q
  | ret v => exact q
  | brk => exact q
  | cont => exact q
theorem Inv.quiet {pins : List (Addr × Obj)} {σ : St} {H : Hp} {s : Shared} (I : Inv X pins σ H s) : interactive X.env = false := by simp [interactive, I.ok.kind]
def tDrop (te : TE) : TS := fun D σ H => te σ H fun _ H1 => D.nx σ H1
theorem ps_expr (he : PE X e te) (hs : swapsWith e none pos.line X.env = pure false := by rfl) : PS X (.Expr e pos) (tDrop te) := by
  intro pins s σ H D I h
  exact wpAny_Expr_any (thn (he pins s σ H _ I h) fun v s1 ⟨x, H1, I1, r1, q1⟩ => ⟨σ, H1, I1, q1⟩) I.quiet hs
def tRet (te : TE) : TS := fun D σ H => te σ H D.rt
theorem ps_ret (he : PE X e te) : PS X (.Return (some e) pos) (tRet te) := by
  intro pins s σ H D I h
  exact wpAny_Return_some (thn (he pins s σ H _ I h) fun v s1 ⟨x, H1, I1, r1, q1⟩ => ⟨x, σ, H1, I1, r1, q1⟩)
def tIfS (c : TT) (t u : TS) : TS := fun D σ H => c σ H fun b H1 => if b = true then t D σ H1 else u D σ H1
theorem ps_if {c : Expr} {a b : List Stmt} {tc : TT} (hc : PT X c tc) (ha : PSs X a t) (hb : PSs X b u) : PS X (.If c a b pos) (tIfS tc t u) := by
  intro pins s σ H D I h
  refine wpAny_If (thn (hc pins s σ H _ I h) fun d s1 ⟨H1, I1, q1⟩ => ?_)
  cases d with
  | true => exact ha pins s1 σ H1 D I1 q1
  | false => exact hb pins s1 σ H1 D I1 q1
end
abbrev TG := V → St → Hp → (St → Hp → Prop) → Prop
def PG (X : Cx) (target : Expr) (t : TG) : Prop :=
  ∀ (pins : List (Addr × Obj)) (s : Shared) (σ : St) (H : Hp) (v : V) (u : Value) (Q : St → Hp → Prop), Inv X pins σ H s → RelV v u → t v σ H Q →
    wpAny (model X.prog X.w) X.A (assign target X.env u) (fun _ s' => ∃ σ' H', Inv X pins σ' H' s' ∧ Q σ' H') X.xe s
section
variable {X : Cx} {pos : Pos}
def gName (i : Nat) : TG := fun v σ H Q => Q (σ.set i (some v)) H
theorem pg_name {i : Nat} {x : Str} (hN : X.N.Nodup) (hi : X.N[i]? = some x) (hx : Loc X.env.scope x) (hf : X.fn x = true ∨ X.env.scope.names.lookup x = some .local := by first | exact .inl rfl | exact .inr rfl | assumption) : PG X (.Name x pos) (gName i) := by
  intro pins s σ H v u Q I r h
  exact wpAny_assign_Name (store_ok I hN hi hx r (fun s' I' => ⟨_, H, I', h⟩) hf)
def tAsg (te : TE) (g : TG) : TS := fun D σ H => te σ H fun x H1 => g x σ H1 D.nx
theorem ps_set {i : Nat} {x : Str} {e : Expr} {te : TE} {pos' : Pos} (hN : X.N.Nodup) (hi : X.N[i]? = some x) (hx : Loc X.env.scope x) (he : PE X e te) (hs : swapsWith e (some (.Name x pos')) pos.line X.env = pure false := by rfl) (hf : X.fn x = true ∨ X.env.scope.names.lookup x = some .local := by first | exact .inl rfl | exact .inr rfl | assumption) :
    PS X (.Assign [.Name x pos'] e pos) (tAsg te (gName i)) := by
  intro pins s σ H D I h
  refine wpAny_Assign_Name (thn (he pins s σ H _ I h) fun v s1 ⟨y, H1, I1, r1, q1⟩ => ?_) hs
  exact store_ok I1 hN hi hx r1 (fun s2 I2 => ⟨_, H1, I2, q1⟩) hf
end
section
variable {X : Cx} {pos : Pos}
end
structure It where
  go : Nat → Hp → Prop
  yld : Nat → Hp → V → Hp → Prop
  stop : Nat → Hp → Prop
def FpOk (X : Cx) (pins : List (Addr × Obj)) (H : Hp) (b : Addr) : Prop :=
  H b = none ∧ b ≠ X.env.locals ∧ b ∉ X.fs ∧ (b ∈ X.ex ∨ X.s₀.heap.objs.size ≤ b) ∧ (∀ x c, X.env.cells.lookup x = some c → c ≠ b) ∧ ∀ p ∈ X.pn ++ pins, p.1 ≠ b
theorem Inv.fpOk {X : Cx} {pins : List (Addr × Obj)} {σ : St} {H H' : Hp} {s : Shared} {b : Addr} (I : Inv X pins σ H s) (hb : s.heap.objs.size ≤ b) (hn : H' b = none) : FpOk X pins H' b := by
  refine ⟨hn, Nat.ne_of_gt (Nat.lt_of_lt_of_le I.lt hb), I.nofs hb, .inr (Nat.le_trans I.sz hb), fun x c e z => ?_, fun p hp z => ?_⟩
  · obtain ⟨v, q⟩ := I.cell x c e
    exact absurd (Nat.lt_of_lt_of_le q.lt (by rw [z]; exact hb)) (Nat.lt_irrefl _)
  · exact absurd (Nat.lt_of_lt_of_le (Heap.lt_size (I.pin p hp).1) (by rw [z]; exact hb)) (Nat.lt_irrefl _)
structure Turn (P : Program) (w : World) (K : PySem.W.Frag) (tg : Expr) (J : It) (fp : List Addr) (it : Addr) (tn : Nat → Heap → Prop) : Prop where
  mem : it ∈ fp
  obj : ∀ i h, tn i h → ∀ b ∈ fp, ∃ o, h.get? b = some o ∧ ∀ v, o.data ≠ .cell v
  keep : ∀ i h h', tn i h → (∀ b ∈ fp, ∀ o, h.get? b = some o → h'.get? b = some o) → tn i h'
  item : ∀ (X : Cx), X.prog = P → X.w = w → X.K = K → X.calm = true → ∀ (i : Nat) (pins : List (Addr × Obj)) (s : Shared) (σ : St) (H : Hp) (E : Value → Shared → Prop), Inv X pins σ H s → (∀ b ∈ fp, FpOk X pins H b) → tn i s.heap → J.go i H →
    wpAny (model P w) X.A (pyNext (.ref it)) (fun r s1 => ∃ u, r = some u ∧
      wpAny (model P w) X.A (letOwnedTupleGo tg (.ref it) u) (fun _ s2 => ∃ x H', Inv X pins σ H' s2 ∧ RelV x u ∧ J.yld i H x H' ∧ tn (i + 1) s2.heap ∧ ∀ b ∈ fp, H' b = none) E s1) E s
  done : ∀ (X : Cx), X.prog = P → X.w = w → X.K = K → X.calm = true → ∀ (i : Nat) (pins : List (Addr × Obj)) (s : Shared) (σ : St) (H : Hp) (E : Value → Shared → Prop), Inv X pins σ H s → (∀ b ∈ fp, FpOk X pins H b) → tn i s.heap → J.stop i H →
    wpAny (model P w) X.A (pyNext (.ref it)) (fun r s1 => r = none ∧ Inv X pins σ H s1) E s
  self : ∀ (A : Around) (i : Nat) (s : Shared) (Q : Value → Shared → Prop) (E : Value → Shared → Prop), tn i s.heap → Q (.ref it) s → wpAny (model P w) A (pyIter (.ref it)) Q E s
abbrev TI := St → Hp → (It → Hp → Prop) → Prop
def PIE (X : Cx) (pins : List (Addr × Obj)) (σ : St) (tg : Expr) (R : It → Hp → Prop) (itv : Value) (s2 : Shared) : Prop :=
  ∃ (it : Addr) (fp : List Addr) (tn : Nat → Heap → Prop) (J : It) (H' : Hp), itv = .ref it ∧ Inv X pins σ H' s2 ∧ Turn X.prog X.w X.K tg J fp it tn ∧ tn 0 s2.heap ∧ (∀ b ∈ fp, FpOk X pins H' b) ∧ R J H'
def PI (X : Cx) (tg iter : Expr) (wi : TI) : Prop :=
  ∀ (pins : List (Addr × Obj)) (s : Shared) (σ : St) (H : Hp) (R : It → Hp → Prop), Inv X pins σ H s → wi σ H R →
    wpAny (model X.prog X.w) X.A (eval iter X.env) (fun v s1 => wpAny (model X.prog X.w) X.A (pyIter v) (PIE X pins σ tg R) X.xe s1) X.xe s
theorem go_of {M : Model} {A : Around} {E : Value → Shared → Prop} {s : Shared} {tg : Expr} {it : Addr} {u : Value} {o : Obj} {n : String} {vs : Array Value} {Q : Unit → Shared → Prop} (ho : s.heap.get? it = some o) (hc : o.cls = .type n) (hd : o.data = .fields vs)
    (hn : ["enumerate", "zip", "dict_itemiterator", "dict_reverseitemiterator", "odict_iterator", "itertools.zip_longest", "itertools.pairwise"].contains n = false) (hQ : Q () s) : wpAny M A (letOwnedTupleGo tg (.ref it) u) Q E s := by
  unfold letOwnedTupleGo
  cases tg <;> first
    | exact wpAny_pure hQ
    | (cases u <;> first
        | exact wpAny_pure hQ
        | (refine wpAny_bind (wpAny_load ho ?_)
           rw [hc, hd]
           show wpAny M A (if (["enumerate", "zip", "dict_itemiterator", "dict_reverseitemiterator", "odict_iterator", "itertools.zip_longest", "itertools.pairwise"].contains n && vs[0]? == some (rawInt _)) = true then _ else _) Q E s
           rw [if_neg (by intro h; rw [hn, Bool.false_and] at h; cases h)]
           exact wpAny_pure hQ))
def Itl (K : PySem.W.Frag) (a : Addr) : It :=
  ⟨fun i H => ∃ xs x, SqL K H a xs ∧ xs[i]? = some x, fun i H x H' => H' = H ∧ ∀ xs, SqL K H a xs → xs[i]? = some x, fun i H => ∃ xs, SqL K H a xs ∧ xs.length ≤ i⟩
def Itr (lo : Int) (n : Nat) : It := ⟨fun i _ => i < n, fun i H x H' => H' = H ∧ x = .int (lo + i), fun i _ => n ≤ i⟩
theorem turn_list {P : Program} {w : World} {K : PySem.W.Frag} {tg : Expr} (a it : Addr) : Turn P w K tg (Itl K a) [it] it (fun i h => h.IsListIter it a i) where
  mem := by simp
  obj := fun i h st b hb => by
    have e : b = it := by simpa using hb
    subst e
    obtain ⟨o, e, c, d⟩ := st
    exact ⟨o, e, fun v z => by rw [d] at z; cases z⟩
  keep := fun i h h' st k => st.at fun o e => k it (by simp) o e
  item := by
    intro X hP hw hK hc i pins s σ H E I hf st hg
    subst hP hw hK
    obtain ⟨xs, x, hq, hx⟩ := hg
    obtain ⟨its, rv, p, hz⟩ := I.list hq
    obtain ⟨u, hu, ru⟩ := rv.get hx
    obtain ⟨f0, f1, f2, f3, f4, f5⟩ := hf it (by simp)
    refine wpAny_pyNext_list_item st p.isList (x := u) (by simpa using hu) fun h' st' sb => ?_
    have I1 : Inv X pins σ H { s with heap := h' } := I.turned (t' := s.toks) (fun b o hb e => (sb.2 b hb).trans e) f0 f1 f3 f4 f5
    obtain ⟨o, e, c, d⟩ := id st'
    exact ⟨u, rfl, go_of (s := { s with heap := h' }) e c d (by decide) ⟨x, H, I1, ru, ⟨rfl, fun ys hy => by rw [I.list_inj hy hq]; exact hx⟩, st', fun b hb => (hf b hb).1⟩⟩
  done := by
    intro X hP hw hK hc i pins s σ H E I hf st hg
    subst hP hw hK
    obtain ⟨xs, hq, hx⟩ := hg
    obtain ⟨its, rv, p, hz⟩ := I.list hq
    obtain ⟨f0, f1, f2, f3, f4, f5⟩ := hf it (by simp)
    have hl := rv.length
    exact wpAny_pyNext_list_end (I.ok.hd hc) st p.isList (by simp; omega) fun h' eb => ⟨rfl, I.turned (t' := s.toks) (fun b o hb e => eb b o hb e) f0 f1 f3 f4 f5⟩
  self := fun _ _ _ _ _ st h => wpAny_pyIter_listiter st h
theorem turn_range {P : Program} {w : World} {K : PySem.W.Frag} {tg : Expr} (it : Addr) (lo : Int) (n : Nat) : Turn P w K tg (Itr lo n) [it] it (fun i h => IsRangeIter h it (lo + (i : Nat) * 1) ((n : Int) - (i : Nat)) 1) where
  mem := by simp
  obj := fun i h st b hb => by
    have e : b = it := by simpa using hb
    subst e
    exact ⟨_, st, fun v z => by
      have z' : Data.fields _ = Data.cell v := z
      cases z'⟩
  keep := fun i h h' st k => k it (by simp) _ st
  item := by
    intro X hP hw hK hc i pins s σ H E I hf st hg
    subst hP hw hK
    obtain ⟨f0, f1, f2, f3, f4, f5⟩ := hf it (by simp)
    have W := Walks.range (prog := X.prog) (w := X.w) (I.ok.hd hc) it lo 1 n
    refine W.item i s _ _ hg st fun v h' tk hv st' kk => ?_
    obtain ⟨t, rfl⟩ := hv
    have I1 : Inv X pins σ H { s with heap := h', toks := tk } := I.turned (fun b o hb e => kk b o (by simpa using hb) e) f0 f1 f3 f4 f5
    refine ⟨_, rfl, go_of (s := { s with heap := h', toks := tk }) (n := "range_iterator") st' rfl rfl (by decide) ⟨.int (lo + i), H, I1, ⟨t, ?_⟩, ⟨rfl, rfl⟩, st', fun b hb => (hf b hb).1⟩⟩
    rw [Int.mul_one]
  done := by
    intro X hP hw hK hc i pins s σ H E I hf st hg
    subst hP hw hK
    obtain ⟨f0, f1, f2, f3, f4, f5⟩ := hf it (by simp)
    exact wpAny_pyNext_range_end (I.ok.hd hc) st (by have : n ≤ i := hg; omega) fun h' eb => ⟨rfl, I.turned (t' := s.toks) (fun b o hb e => eb b o hb e) f0 f1 f3 f4 f5⟩
  self := fun _ _ _ _ _ st h => wpAny_pyIter_rangeiter st h
end L2
namespace L2
open PySem PySem.Spec PyProof.Rows
section
variable {X : Cx} {tg : Expr}
def iList (K : PySem.W.Frag) (tl : TE) : TI := fun σ H R => tl σ H fun x H1 => ∃ a, x = .ref a ∧ (∃ xs, SqL K H1 a xs) ∧ R (Itl K a) H1
theorem pi_list {l : Expr} {tl : TE} (hl : PE X l tl) : PI X tg l (iList X.K tl) := by
  intro pins s σ H R I h
  refine thn (hl pins s σ H _ I h) fun v s1 ⟨x, H1, I1, r1, q1⟩ => ?_
  obtain ⟨a, e, ⟨xs, hq⟩, q⟩ := q1
  subst e
  cases r1
  obtain ⟨its, rv, p, hz⟩ := I1.list hq
  refine wpAny_pyIter_list p.isList ?_
  refine ⟨s1.heap.objs.size, [s1.heap.objs.size], _, _, H1, rfl, I1.kept (t' := s1.toks) fun b o e => Heap.get?_push_of_some _ e, turn_list a _, ⟨_, Heap.get?_push_size _ rfl, rfl, rfl⟩, fun b hb => ?_, q⟩
  have e : b = s1.heap.objs.size := by simpa using hb
  subst e
  exact I1.fpOk (Nat.le_refl _) (I1.hok.fresh (Nat.le_refl _))
theorem range_it {pins : List (Addr × Obj)} {σ : St} {H : Hp} {s : Shared} {R : It → Hp → Prop} {E : Value → Shared → Prop} {lo hi : Int} {t u v : Tok} {tk : Nat} (I : Inv X pins σ H s) (h1 : -(2 ^ 62) ≤ lo) (h2 : lo < 2 ^ 62) (h3 : -(2 ^ 62) ≤ hi) (h4 : hi < 2 ^ 62)
    (q : R (Itr lo (hi - lo).toNat) H) : wpAny (model X.prog X.w) X.A (pyIter (.ref s.heap.objs.size)) (PIE X pins σ tg R) E { s with heap := s.heap.push { cls := .type "range", data := .fields #[.int lo t, .int hi u, .int 1 v] }, toks := tk } := by
  refine wpAny_pyIter_range (IsRange.new ..) (small_one h1 h2 h3 h4) ?_
  have I1 : Inv X pins σ H { s with heap := s.heap.push { cls := .type "range", data := .fields #[.int lo t, .int hi u, .int 1 v] }, toks := tk } := I.kept fun b o e => Heap.get?_push_of_some _ e
  refine ⟨(s.heap.push { cls := .type "range", data := .fields #[.int lo t, .int hi u, .int 1 v] }).objs.size, [(s.heap.push { cls := .type "range", data := .fields #[.int lo t, .int hi u, .int 1 v] }).objs.size], _, _, H, rfl,
    I1.kept (t' := tk) fun b o e => Heap.get?_push_of_some _ e, turn_range _ lo (hi - lo).toNat, ?_, fun b hb => ?_, q⟩
  · have e1 : lo + ((0 : Nat) : Int) * 1 = lo := by simp
    have e2 : (((hi - lo).toNat : Nat) : Int) - ((0 : Nat) : Int) = Builtin.Range.rangeSize lo hi 1 := by rw [rangeSize_one]; split <;> omega
    show IsRangeIter _ _ (lo + ((0 : Nat) : Int) * 1) ((((hi - lo).toNat : Nat) : Int) - ((0 : Nat) : Int)) 1
    rw [e1, e2]
    exact Heap.get?_push_size _ rfl
  · have e : b = (s.heap.push { cls := .type "range", data := .fields #[.int lo t, .int hi u, .int 1 v] }).objs.size := by simpa using hb
    subst e
    exact I1.fpOk (Nat.le_refl _) (I1.hok.fresh (Nat.le_refl _))
def iRng1 (ta : TA) : TI := fun σ H R => ta σ H fun vs H1 => ∃ j : Int, vs = [.int j] ∧ -(2 ^ 62) ≤ j ∧ j < 2 ^ 62 ∧ R (Itr 0 j.toNat) H1
theorem pi_range1 {a : Expr} {ta : TA} {p pos : Pos} (hg : Gl X "range") (hm : X.mg "range" = none) (ha : PA X [a] ta) (hs : starEach [a] X.env = [(false, eval a X.env)] := by rfl) : PI X tg (.Call (.Name "range" p) [a] [] pos) (iRng1 ta) := by
  intro pins s σ H R I h
  refine Call_ (ld_blt I hg hm boot_range (PyProof.Rows.callWith_type1 (thn (ha pos pins s σ H _ I h) fun us s1 ⟨vs, H1, I1, r1, q1⟩ => ?_) hs rfl))
  obtain ⟨j, e, q1, q2, q⟩ := q1
  subst e
  cases r1 with
  | cons r rr =>
    cases rr
    obtain ⟨t, rfl⟩ := r
    exact call_range_1 (range_it I1 (by omega) (by omega) q1 q2 (by simpa using q))
def tFor (wi : TI) (g : TG) (tb : TS) : TS := fun D σ H => wi σ H fun J H1 => ∃ W : Nat → Nat → St → Hp → Prop, (∃ m, W 0 m σ H1) ∧ ∀ i m σ H, W i m σ H →
  (J.stop i H ∧ D.nx σ H) ∨ (J.go i H ∧ ∃ N : St → Hp → Prop, (∀ σ' H', N σ' H' → ∃ m', m' < m ∧ W (i + 1) m' σ' H') ∧ ∀ x H', J.yld i H x H' → g x σ H' fun σ2 H2 => tb { D with nx := N, ct := N, bk := D.nx } σ2 H2)
def pinsAt (fp : List Addr) (h : Heap) : List (Addr × Obj) := fp.filterMap fun b => (h.get? b).map fun o => (b, o)
theorem mem_pinsAt {fp : List Addr} {h : Heap} {b : Addr} {o : Obj} (hb : b ∈ fp) (e : h.get? b = some o) : (b, o) ∈ pinsAt fp h := List.mem_filterMap.mpr ⟨b, hb, by rw [e]; rfl⟩
theorem of_pinsAt {fp : List Addr} {h : Heap} {p : Addr × Obj} (hp : p ∈ pinsAt fp h) : p.1 ∈ fp ∧ h.get? p.1 = some p.2 := by
  obtain ⟨b, hb, e⟩ := List.mem_filterMap.mp hp
  cases q : h.get? b with
  | none => rw [q] at e; cases e
  | some o =>
    rw [q] at e
    have e' : (b, o) = p := Option.some.inj e
    subst e'
    exact ⟨hb, q⟩
theorem Inv.pinned {pins : List (Addr × Obj)} {σ : St} {H : Hp} {s : Shared} {fp : List Addr} (I : Inv X pins σ H s) (hf : ∀ b ∈ fp, FpOk X pins H b) (ho : ∀ b ∈ fp, ∃ o, s.heap.get? b = some o ∧ ∀ v, o.data ≠ .cell v) : Inv X (pins ++ pinsAt fp s.heap) σ H s :=
  I.pins_of fun p hp => (List.mem_append.mp hp).elim (fun z => I.pin p (List.mem_append_right _ z)) fun z => by
    obtain ⟨hb, e⟩ := of_pinsAt z
    obtain ⟨f0, f1, f2, _⟩ := hf p.1 hb
    obtain ⟨o, e', d⟩ := ho p.1 hb
    rw [e] at e'; cases e'
    exact ⟨e, f0, f1, f2, d⟩
theorem Inv.unpinned {pins pl : List (Addr × Obj)} {σ : St} {H : Hp} {s : Shared} (I : Inv X (pins ++ pl) σ H s) : Inv X pins σ H s := I.pins_of fun p hp => I.pin p (List.mem_append_right _ (List.mem_append_left _ hp))
theorem ps_for {iter : Expr} {body : List Stmt} {wi : TI} {g : TG} {tb : TS} {pos : Pos} (hp : PassesOwn (model X.prog X.w) X.A X.env X.xe) (hc : X.calm = true) (hi : PI X tg iter wi) (hg : PG X tg g) (hb : PSs X body tb)
    (hs : ∀ x, foldedSetIterable iter X.env x = pure x := by intro _; rfl) : PS X (.For tg iter body [] pos) (tFor wi g tb) := by
  intro pins s σ H D I h
  refine wpAny_For (thn (hi pins s σ H _ I h) fun v s1 h1 => thn h1 fun itv s2 h2 => ?_) hs
  obtain ⟨it, fp, tn, J, H2, e, I2, T, st2, f2, W, ⟨m0, w0⟩, turn⟩ := h2
  subst e
  have stat : ∀ {H' : Hp}, (∀ b ∈ fp, H' b = none) → ∀ b ∈ fp, FpOk X pins H' b := fun hn b hb => ⟨hn b hb, (f2 b hb).2⟩
  refine codeAny_forLoop_any (fun n s' => ∃ i σ' H', Inv X pins σ' H' s' ∧ tn i s'.heap ∧ (∀ b ∈ fp, H' b = none) ∧ W i n σ' H') ?_ m0 ⟨0, σ, H2, I2, st2, fun b hb => (f2 b hb).1, w0⟩
  rintro n s3 ⟨i, σ3, H3, I3, st3, fr3, w3⟩
  rcases turn i n σ3 H3 w3 with ⟨stop, qn⟩ | ⟨go, N, hN, step⟩
  · refine wpAny_passesOwn hp (thn (T.done X rfl rfl rfl hc i pins s3 σ3 H3 X.xe I3 (stat fr3) st3 stop) fun r s4 ⟨hr, I4⟩ => ?_)
    subst hr
    exact wpAny_execs_nil ⟨σ3, H3, I4, qn⟩
  · refine wpAny_passesOwn hp (thn (T.item X rfl rfl rfl hc i pins s3 σ3 H3 X.xe I3 (stat fr3) st3 go) fun r s4 ⟨u, hr, h4⟩ => ?_)
    subst hr
    refine wpAny_passesOwn hp (thn h4 fun _ s5 ⟨x, H5, I5, r5, y5, st5, fr5⟩ => ?_)
    have I5' := I5.pinned (stat fr5) (T.obj _ _ st5)
    refine wpAny_passesOwn hp (thn (hg _ s5 σ3 H5 x u _ I5' r5 (step x H5 y5)) fun _ s6 ⟨σ6, H6, I6, q6⟩ => ?_)
    refine wpAny_passesOwn hp (thn (hb _ s6 σ6 H6 _ I6 q6) fun f s7 q7 => ?_)
    have again : ∀ {σ7 : St} {H7 : Hp}, Inv X (pins ++ pinsAt fp s5.heap) σ7 H7 s7 → N σ7 H7 → ∃ m, m < n ∧ ∃ i σ' H', Inv X pins σ' H' s7 ∧ tn i s7.heap ∧ (∀ b ∈ fp, H' b = none) ∧ W i m σ' H' := fun {σ7 H7} I7 n7 => by
      obtain ⟨m', hm, w7⟩ := hN σ7 H7 n7
      refine ⟨m', hm, i + 1, σ7, H7, I7.unpinned, T.keep _ _ _ st5 fun b hb o e => (I7.pin (b, o) (List.mem_append_right _ (List.mem_append_right _ (mem_pinsAt hb e)))).1, fun b hb => ?_, w7⟩
      obtain ⟨o, e, d⟩ := T.obj _ _ st5 b hb
      exact (I7.pin (b, o) (List.mem_append_right _ (List.mem_append_right _ (mem_pinsAt hb e)))).2.1
    cases f with
    | next => obtain ⟨σ7, H7, I7, n7⟩ := q7; exact again I7 n7
    | cont => obtain ⟨σ7, H7, I7, n7⟩ := q7; exact again I7 n7
    | brk => obtain ⟨σ7, H7, I7, q7⟩ := q7; exact ⟨σ7, H7, I7.unpinned, q7⟩
    | ret v => obtain ⟨x7, σ7, H7, I7, r7, q7⟩ := q7; exact ⟨x7, σ7, H7, I7.unpinned, r7, q7⟩
end
end L2
namespace L2
open PySem PySem.Spec PyProof.Rows
abbrev R2 := V → V → Hp → VK → Prop
def OpR (X : Cx) (f : Value → Value → Sem Value) (r : R2) : Prop :=
  ∀ (pins : List (Addr × Obj)) (s : Shared) (σ : St) (H : Hp) (x y : V) (v u : Value) (Q : VK), Inv X pins σ H s → RelV x v → RelV y u → r x y H Q →
    wpAny (model X.prog X.w) X.A (f v u) (EP X pins σ Q) X.xe s
def UnR (X : Cx) (f : Value → Sem Value) (r : V → Hp → VK → Prop) : Prop :=
  ∀ (pins : List (Addr × Obj)) (s : Shared) (σ : St) (H : Hp) (x : V) (v : Value) (Q : VK), Inv X pins σ H s → RelV x v → r x H Q →
    wpAny (model X.prog X.w) X.A (f v) (EP X pins σ Q) X.xe s
def CallR (X : Cx) (f : Value) (r : List V → Hp → VK → Prop) : Prop :=
  ∀ (pins : List (Addr × Obj)) (s : Shared) (σ : St) (H : Hp) (xs : List V) (us : List Value) (Q : VK), Inv X pins σ H s → Vals xs us → r xs H Q →
    wpAny (model X.prog X.w) X.A (call f us) (EP X pins σ Q) X.xe s
def tOp (r : R2) (ta tb : TE) : TE := fun σ H Q => ta σ H fun x H1 => tb σ H1 fun y H2 => r x y H2 Q
def tUn (r : V → Hp → VK → Prop) (ta : TE) : TE := fun σ H Q => ta σ H fun x H1 => r x H1 Q
def rI (C : Int → Int → Prop) (g : Int → Int → V) : R2 := fun x y H Q => ∃ i j, x = .int i ∧ y = .int j ∧ C i j ∧ Q (g i j) H
def rI0 (g : Int → Int → V) : R2 := fun x y H Q => ∃ i j, x = .int i ∧ y = .int j ∧ Q (g i j) H
def rU (g : Int → V) : V → Hp → VK → Prop := fun x H Q => ∃ i, x = .int i ∧ Q (g i) H
section
variable {X : Cx} {a b c : Expr} {ta tb tc : TE} {pos : Pos}
theorem binT (ha : PE X a ta) (hb : PE X b tb) {pins : List (Addr × Obj)} {s : Shared} {σ : St} {H : Hp} {R : V → V → Hp → Prop} (I : Inv X pins σ H s)
    (h : ta σ H fun x H1 => tb σ H1 fun y H2 => R x y H2) {Q : Value → Shared → Prop} {f : Value → Value → Sem Value}
    (hf : ∀ v u s2 x y H2, Inv X pins σ H2 s2 → RelV x v → RelV y u → R x y H2 → wpAny (model X.prog X.w) X.A (f v u) Q X.xe s2) :
    wpAny (model X.prog X.w) X.A (eval a X.env) (fun v s₁ => wpAny (model X.prog X.w) X.A (eval b X.env) (fun u s₂ => wpAny (model X.prog X.w) X.A (f v u) Q X.xe s₂) X.xe s₁) X.xe s := by
  refine thn (ha pins s σ H _ I h) fun v s1 ⟨x, H1, I1, r1, q1⟩ => ?_
  refine thn (hb pins s1 σ H1 _ I1 q1) fun u s2 ⟨y, H2, I2, r2, q2⟩ => ?_
  exact hf v u s2 x y H2 I2 r1 r2 q2
theorem pe_op {op : Operator} {r : R2} (ho : OpR X (binaryOp op) r) (ha : PE X a ta) (hb : PE X b tb) : PE X (.BinOp a op b pos) (tOp r ta tb) := by
  intro pins s σ H Q I h
  exact wpAny_BinOp (binT ha hb I h fun v u s2 x y H2 I2 rx ry q => ho pins s2 σ H2 x y v u Q I2 rx ry q)
theorem pe_un {op : UnaryOp} {r : V → Hp → VK → Prop} (ho : UnR X (unaryOp op) r) (ha : PE X a ta) : PE X (.UnaryOp op a pos) (tUn r ta) := by
  intro pins s σ H Q I h
  exact UnaryOp_ (thn (ha pins s σ H _ I h) fun v s1 ⟨x, H1, I1, r1, q1⟩ => ho pins s1 σ H1 x v Q I1 r1 q1)
theorem opI {f : Value → Value → Sem Value} {C : Int → Int → Prop} {g : Int → Int → Int}
    (rule : ∀ (i j : Int) (t u : Tok) (s : Shared) (Q : Value → Shared → Prop) (E : Value → Shared → Prop), C i j → Q (.int (g i j) s.toks) { s with toks := s.toks + 1 } → wpAny (model X.prog X.w) X.A (f (.int i t) (.int j u)) Q E s) :
    OpR X f (rI C fun i j => .int (g i j)) := by
  intro pins s σ H x y v u Q I rx ry h
  obtain ⟨i, j, rfl, rfl, hc, q⟩ := h
  obtain ⟨t, rfl⟩ := rx
  obtain ⟨t', rfl⟩ := ry
  exact rule i j t t' s _ _ hc ⟨.int (g i j), H, I.tok _, ⟨_, rfl⟩, q⟩
theorem opI0 {f : Value → Value → Sem Value} {g : Int → Int → Int}
    (rule : ∀ (i j : Int) (t u : Tok) (s : Shared) (Q : Value → Shared → Prop) (E : Value → Shared → Prop), Q (.int (g i j) s.toks) { s with toks := s.toks + 1 } → wpAny (model X.prog X.w) X.A (f (.int i t) (.int j u)) Q E s) :
    OpR X f (rI0 fun i j => .int (g i j)) := by
  intro pins s σ H x y v u Q I rx ry h
  obtain ⟨i, j, rfl, rfl, q⟩ := h
  obtain ⟨t, rfl⟩ := rx
  obtain ⟨t', rfl⟩ := ry
  exact rule i j t t' s _ _ ⟨.int (g i j), H, I.tok _, ⟨_, rfl⟩, q⟩
def CPow (i j : Int) : Prop := 0 ≤ j ∧ j ≤ 1000000 ∧ i.natAbs < 2 ^ 64
def CMul (i j : Int) : Prop := (-(2 ^ 64) < i ∧ i < 2 ^ 64) ∨ (-(2 ^ 64) < j ∧ j < 2 ^ 64)
theorem CMul.ok {i j : Int} (h : CMul i j) : IntMulOk i j := by
  rcases h with ⟨h1, h2⟩ | ⟨h1, h2⟩
  · exact .of_left (intBits_le_64 h1 h2)
  · exact .of_right (intBits_le_64 h1 h2)
theorem op_add : OpR X (binaryOp .Add) (rI0 fun i j => .int (i + j)) := opI0 fun _ _ _ _ _ _ _ q => add_int q
theorem op_sub : OpR X (binaryOp .Sub) (rI0 fun i j => .int (i - j)) := opI0 fun _ _ _ _ _ _ _ q => sub_int q
theorem op_mul : OpR X (binaryOp .Mult) (rI CMul fun i j => .int (i * j)) := opI fun _ _ _ _ _ _ _ hc q => mul_int q hc.ok
theorem op_mod : OpR X (binaryOp .Mod) (rI (fun _ j => 0 < j) fun i j => .int (i % j)) := opI fun i j _ _ _ _ _ hc q => by
  have h1 : (0 : Int) < j := hc
  exact mod_int' (by omega) (by rw [Int.fmod_eq_emod_of_nonneg i (by omega)]; exact q)
theorem op_pow : OpR X (binaryOp .Pow) (rI CPow fun i j => .int (i ^ j.toNat)) := opI fun _ _ _ _ _ _ _ hc q => pow_int_small hc.1 hc.2.1 hc.2.2 q
theorem unI {f : Value → Sem Value} {g : Int → Int}
    (rule : ∀ (i : Int) (t : Tok) (s : Shared) (Q : Value → Shared → Prop) (E : Value → Shared → Prop), Q (.int (g i) s.toks) { s with toks := s.toks + 1 } → wpAny (model X.prog X.w) X.A (f (.int i t)) Q E s) :
    UnR X f (rU fun i => .int (g i)) := by
  intro pins s σ H x v Q I rx h
  obtain ⟨i, rfl, q⟩ := h
  obtain ⟨t, rfl⟩ := rx
  exact rule i t s _ _ ⟨.int (g i), H, I.tok _, ⟨_, rfl⟩, q⟩
theorem un_neg : UnR X (unaryOp .USub) (rU fun i => .int (-i)) := unI fun _ _ _ _ _ q => neg_int q
end
section
variable {X : Cx} {a b c : Expr} {ta tb tc : TE} {pos : Pos}
theorem nomark (b : Expr) {op : CmpOp} (h : op ≠ .In := by decide) (h2 : op ≠ .NotIn := by decide) : behindInMarks op b = false := by
  have e1 : (op == CmpOp.In) = false := by cases op <;> first | rfl | exact absurd rfl h
  have e2 : (op == CmpOp.NotIn) = false := by cases op <;> first | rfl | exact absurd rfl h2
  cases b <;> simp [behindInMarks, e1, e2]
theorem pe_cmpR {op : CmpOp} {r : R2} (ho : OpR X (compareOp op) r) (ha : PE X a ta) (hb : PE X b tb) (hm : behindInMarks op b = false) : PE X (.Compare a [op] [b] pos) (tOp r ta tb) := by
  intro pins s σ H Q I h
  exact wpAny_Compare1 (binT ha hb I h fun v u s2 x y H2 I2 rx ry q => ho pins s2 σ H2 x y v u Q I2 rx ry q) hm
def tTest (t : TE) : TT := fun σ H Q => t σ H fun x H' => ∃ k, x = .bl k ∧ Q k H'
theorem pt_cmpR {op : CmpOp} {r : R2} (ho : OpR X (compareOp op) r) (ha : PE X a ta) (hb : PE X b tb) (hm : behindInMarks op b = false) : PT X (.Compare a [op] [b] pos) (tTest (tOp r ta tb)) := by
  intro pins s σ H Q I h
  refine wpAny_isTrue_Compare1 (thn (ha pins s σ H _ I h) fun v s1 ⟨x, H1, I1, r1, q1⟩ => thn (hb pins s1 σ H1 _ I1 q1) fun u s2 ⟨y, H2, I2, r2, q2⟩ =>
    thn (ho pins s2 σ H2 x y v u _ I2 r1 r2 q2) fun c s3 ⟨z, H3, I3, r3, k, e, q3⟩ => ?_) hm
  subst e
  cases r3
  exact wpAny_truthy_bool ⟨H3, I3, q3⟩
theorem line63 : (sizeLine : Nat) < 2 ^ 63 := by rw [sizeLine_eq]; decide
theorem vals1 {x : V} {us : List Value} (r : Vals [x] us) : ∃ u, us = [u] ∧ RelV x u := by
  cases r with
  | cons r1 r2 => cases r2; exact ⟨_, rfl, r1⟩
theorem vals2 {x y : V} {us : List Value} (r : Vals [x, y] us) : ∃ u w', us = [u, w'] ∧ RelV x u ∧ RelV y w' := by
  cases r with
  | cons r1 r2 =>
    cases r2 with
    | cons r3 r4 => cases r4; exact ⟨_, _, rfl, r1, r3⟩
end
end L2
namespace L2
open PySem PySem.Spec PyProof.Rows
section
variable {prog : Program} {w : World} {A : Around} {E : Value → Shared → Prop} {s : Shared} {K : PySem.W.Frag} {x dx C f : Addr} {mA : Str → Option Value} {name : Str} {v : Value}
end
def putF (f : Str) (v : V) : List (Str × V) → List (Str × V)
  | [] => [(f, v)]
  | (g, x) :: r => if g = f then (g, v) :: r else (g, x) :: putF f v r
theorem RelO.some_of {v : V} {o : Option Value} (r : RelO (some v) o) : ∃ u, o = some u ∧ RelV v u := by
  cases o with
  | none => exact (show False from r).elim
  | some u => exact ⟨u, rfl, r⟩
section
variable {P : Program} {w : World} {H H' : Hp} {h h' : Heap} {a C dx : Addr} {fs fs' : List (Str × V)}
end
structure Cls (K : PySem.W.Frag) (C : Addr) : Prop where
  pg : PySem.W.plainGet K C Str.empty = true
  hd : PySem.W.hasDictIn K C = true
  po : PySem.W.plainOver K C = true
  sa : PySem.W.findIn K (.ref C) "__setattr__" = some (some (.builtin "object.__setattr__"))
theorem Cls.get {K : PySem.W.Frag} {C : Addr} (c : Cls K C) (f : Str) : PySem.W.plainGet K C f = true := c.pg
section
variable {X : Cx} {pins : List (Addr × Obj)} {σ : St} {H : Hp} {s : Shared} {a C dx : Addr} {fs : List (Str × V)} {f : Str} {v : V} {A : Around} {E : Value → Shared → Prop}
end
section
variable {X : Cx} {o e value : Expr} {f : Str} {pos pos' tpos : Pos} {ta tv : TE}
end
section
variable {X : Cx} {pins : List (Addr × Obj)} {σ : St} {H : Hp} {s : Shared} {A : Around} {E : Value → Shared → Prop} {Q : Value → Shared → Prop} {c : Value} {b : Bool}
end
end L2
namespace L2
open PySem PySem.Spec PyProof.Rows
structure Room (k : Nat) (A : Around) : Prop where
  hd : A.handled = none
  dp : A.depth + 3 * k + 5 < recursionLimit
  un : A.units + 16 * k + 200 < cLine
theorem Room.mono {j k : Nat} {A : Around} (r : Room k A) (h : j ≤ k) : Room j A := ⟨r.hd, by have := r.dp; omega, by have := r.un; omega⟩
theorem Room.deeper {k : Nat} {A : Around} (r : Room (k + 1) A) (env : Env) : Room k (A.deeper env) :=
  ⟨r.hd, by have := r.dp; show A.depth + 1 + 3 * k + 5 < _; omega, by have := r.un; show A.units + 3 + 16 * k + 200 < _; omega⟩
theorem Room.depth {k : Nat} {A : Around} (r : Room k A) : A.depth < recursionLimit := by have := r.dp; omega
theorem Room.units {k : Nat} {A : Around} (r : Room k A) : A.units + 64 < cLine := by have := r.un; omega
def tNil : TA := fun _ H Q => Q [] H
def tCons (ta : TE) (tr : TA) : TA := fun σ H Q => ta σ H fun x H1 => tr σ H1 fun xs H2 => Q (x :: xs) H2
section
variable {X : Cx} {e : Expr} {es : List Expr} {te : TE} {t : TA} {pos : Pos}
theorem pa_nil : PA X [] tNil := fun _ _ _ _ H Q I h => Calls.spliced_nil ⟨[], H, I, .nil, h⟩
theorem pa_cons (ha : PE X e te) (hr : PA X es t) (hs : starEach (e :: es) X.env = (false, eval e X.env) :: starEach es X.env := by rfl) : PA X (e :: es) (tCons te t) := by
  intro pos pins s σ H Q I h
  rw [hs]
  show wpAny _ _ (spliced ((false, eval e X.env) :: backTo pos (starEach es X.env))) _ _ s
  refine Calls.spliced_cons (thn (ha pins s σ H _ I h) fun u s1 ⟨x, H1, I1, r1, q1⟩ => ?_)
  exact thn (hr pos pins s1 σ H1 _ I1 q1) fun us s2 ⟨xs, H2, I2, r2, q2⟩ => ⟨x :: xs, H2, I2, .cons r1 r2, q2⟩
def tTup (t : TA) : TE := fun σ H Q => t σ H fun xs H1 => xs.length ≤ sizeLine ∧ ∀ p, H1 p = none → Q (.ref p) (upd H1 p (.tup xs))
def tLst (t : TA) : TE := fun σ H Q => t σ H fun xs H1 => xs.length ≤ sizeLine ∧ ∀ p, H1 p = none → Q (.ref p) (upd H1 p (.lst xs))
theorem pe_tup {x1} (h : PA X es t) : PE X (.Tuple es x1 pos) (tTup t) := by
  intro pins s σ H Q I hq
  refine wpAny_Tuple_spliced (thn (h pos pins s σ H _ I hq) fun us s1 ⟨xs, H1, I1, r, z, q⟩ => ⟨by rw [← r.length]; exact z, ?_⟩)
  have hf : H1 s1.heap.objs.size = none := I1.hok.fresh (Nat.le_refl _)
  refine ⟨.ref s1.heap.objs.size, upd H1 s1.heap.objs.size (.tup xs), I1.laid (t' := s1.toks) (fun b u e => Heap.get?_push_of_some _ e) (Nat.le_refl _) ?_, rfl, q _ hf⟩
  exact ⟨z, us, r, ⟨_, Heap.get?_push_size _ rfl, rfl, _, rfl⟩⟩
theorem pe_lst (h : PA X es t) : PE X (.List es pos) (tLst t) := by
  intro pins s σ H Q I hq
  refine wpAny_List_spliced (thn (h pos pins s σ H _ I hq) fun us s1 ⟨xs, H1, I1, r, z, q⟩ => ⟨by rw [← r.length]; exact z, ?_⟩)
  have hf : H1 s1.heap.objs.size = none := I1.hok.fresh (Nat.le_refl _)
  refine ⟨.ref s1.heap.objs.size, upd H1 s1.heap.objs.size (.lst xs), I1.laid (t' := s1.toks) (fun b u e => Heap.get?_push_of_some _ e) (Nat.le_refl _) ?_, rfl, q _ hf⟩
  exact ⟨z, us, 0, r, Heap.get?_push_size _ rfl⟩
end
abbrev Sp := List V → Hp → VK → XK → Prop
abbrev CXT := List Env → Hp → Shared → XK → Value → Shared → Prop
structure Env0 (P : Program) (w : World) (K : PySem.W.Frag) (mg : Str → Option Value) (base : Heap) (A : Around) (outer : List Env) (s : Shared) (H : Hp) : Prop where
  frames : A.frames = some outer
  mod : Mod K mg base
  bs : ∀ b o, base.get? b = some o → s.heap.get? b = some o ∧ H b = none
  bsz : base.objs.size ≤ s.heap.objs.size
  funs : s.heap.FunFrames base outer
  frf : ∀ b ∈ frs outer, H b = none
  hok : HOk P w H s.heap
  bare : AllBare s.gens
def CE (outer : List Env) (P : Program) (w : World) (H : Hp) (s : Shared) (Q : VK) (u : Value) (s' : Shared) : Prop :=
  ∃ v H', s'.os = s.os ∧ AllBare s'.gens ∧ Un (frs outer) [] H H' s.heap s'.heap ∧ HOk P w H' s'.heap ∧ RelV v u ∧ Q v H'
def CR (CX : CXT) (outer : List Env) (P : Program) (w : World) (H : Hp) (s : Shared) (Q : VK) (E : XK) (r : Result) (s' : Shared) : Prop :=
  match r with
  | .ok (.ret u) => CE outer P w H s Q u s'
  | .ok _ => False
  | .error e => CX outer H s E e s'
structure FnOk (P : Program) (w : World) (K : PySem.W.Frag) (mg : Str → Option Value) (base : Heap) (CX : CXT) (k : Nat) (f : Addr) (fd : FuncData) (ps : List Str) (sp : Sp) : Prop where
  len : ∀ vs H Q E, sp vs H Q E → vs.length = ps.length
  run : ∀ (A : Around) (outer : List Env) (s : Shared) (H : Hp) (args : Args) (us : List Value) (vs : List V) (Q : VK) (E : XK), Room k A → Env0 P w K mg base A outer s H → BindsTo s fd args (ps.zip us) → Vals vs us → sp vs H Q E →
    codeAny (model P w) A (.call (.ref f) args) (CR CX outer P w H s Q E) s
theorem FnOk.mono {P : Program} {w : World} {K : PySem.W.Frag} {mg : Str → Option Value} {base : Heap} {CX : CXT} {j k : Nat} {f : Addr} {fd : FuncData} {ps : List Str} {sp : Sp} (F : FnOk P w K mg base CX j f fd ps sp) (h : j ≤ k) :
    FnOk P w K mg base CX k f fd ps sp := ⟨F.len, fun A outer s H args us vs Q E hr => F.run A outer s H args us vs Q E (hr.mono h)⟩
theorem FnOk.imp {P : Program} {w : World} {K : PySem.W.Frag} {mg : Str → Option Value} {base : Heap} {CX : CXT} {k : Nat} {f : Addr} {fd : FuncData} {ps : List Str} {sp sp' : Sp} (F : FnOk P w K mg base CX k f fd ps sp)
    (h : ∀ vs H Q E, sp' vs H Q E → sp vs H Q E) : FnOk P w K mg base CX k f fd ps sp' :=
  ⟨fun vs H Q E q => F.len vs H Q E (h _ _ _ _ q), fun A outer s H args us vs Q E hr he hb hv hs => F.run A outer s H args us vs Q E hr he hb hv (h _ _ _ _ hs)⟩
section
variable {X : Cx} {pins : List (Addr × Obj)} {σ : St} {H : Hp} {s s' : Shared}
theorem Inv.env0 (I : Inv X pins σ H s) : Env0 X.prog X.w X.K X.mg X.base X.A X.stack s H :=
  ⟨I.ok.frames, I.ok.mod, I.bs, Nat.le_trans I.ok.bsz I.sz, I.stack, I.stkFree, I.hok, I.bare⟩
theorem Inv.after {Q : VK} {u : Value} (I : Inv X pins σ H s) (h : CE X.stack X.prog X.w H s Q u s') : EP X pins σ Q u s' := by
  obtain ⟨v, H', os, bare, un, hok, r, q⟩ := h
  obtain ⟨hh, g, d, t, os'⟩ := s'
  obtain rfl : os' = s.os := os
  exact ⟨v, H', I.call (h' := hh) (g' := g) (d' := d) (t' := t) (ch := []) un hok bare (fun b z => absurd z (by simp)), r, q⟩
end
def tCall (sp : Sp) (dvs : List V) (E : XK) (t : TA) : TE := fun σ H Q => t σ H fun vs H1 => sp (vs ++ dvs) H1 Q E
def Binds (K : PySem.W.Frag) (fd : FuncData) (ps : List Str) (ds : List Value) : Prop :=
  ∀ (s : Shared) (us : List Value), K.In s.heap → (us ++ ds).length = ps.length → BindsTo s fd ⟨us, []⟩ (ps.zip (us ++ ds))
theorem Binds.all {K : PySem.W.Frag} {fd : FuncData} {ps : List Str} (h : ∀ us : List Value, us.length = ps.length → bindArgs fd ⟨us, []⟩ = pure (ps.zip us)) : Binds K fd ps [] := fun s us _ hl => by
  rw [List.append_nil] at hl ⊢
  exact .of_eq (h us hl)
def Passes (CX : CXT) (X : Cx) (E : XK) : Prop := ∀ (pins : List (Addr × Obj)) (σ : St) (H : Hp) (s : Shared) (e : Value) (s' : Shared), Inv X pins σ H s → CX X.stack H s E e s' → X.xe e s'
section
variable {X : Cx} {CX : CXT} {k : Nat} {f C : Addr} {fd : FuncData} {ps : List Str} {sp : Sp} {dvs : List V} {ds : List Value} {E : XK} {x m : Str} {p pos apos : Pos} {e o : Expr} {es : List Expr} {ta : TE} {t : TA}
theorem run_fn {pins : List (Addr × Obj)} {σ : St} {H : Hp} {s : Shared} {Q : VK} {us : List Value} {vs : List V} (F : FnOk X.prog X.w X.K X.mg X.base CX k f fd ps sp) (hr : Room k X.A) (hb : Binds X.K fd ps ds) (hd : Vals dvs ds) (hx : Passes CX X E)
    (I : Inv X pins σ H s) (r : Vals vs us) (h : sp (vs ++ dvs) H Q E) : wpAny (model X.prog X.w) X.A (call (.ref f) us) (EP X pins σ Q) X.xe s := by
  have r2 : Vals (vs ++ dvs) (us ++ ds) := r.append hd
  have hl : (us ++ ds).length = ps.length := by rw [← r2.length]; exact F.len _ _ _ _ h
  refine wpAny_call (codeAny_mono (F.run X.A X.stack s H ⟨us, []⟩ (us ++ ds) (vs ++ dvs) Q E hr I.env0 (hb s us I.kIn hl) r2 h) fun r s' hq => ?_)
  cases r with
  | error e => exact hx pins σ H s e s' I hq
  | ok fl =>
    cases fl with
    | ret u => exact I.after hq
    | next => exact False.elim hq
    | brk => exact False.elim hq
    | cont => exact False.elim hq
theorem pe_call (F : FnOk X.prog X.w X.K X.mg X.base CX k f fd ps sp) (hr : Room k X.A) (hg : Gl X x) (hm : X.mg x = some (.ref f)) (hk : PySem.W.keepIn X.K (.ref f) = true) (hb : Binds X.K fd ps ds) (hd : Vals dvs ds) (hx : Passes CX X E)
    (ha : PA X (e :: es) t) (hdb : (x == ("__debug__" : Str)) = false := by decide) (he : starEach (e :: es) X.env = (false, eval e X.env) :: starEach es X.env := by rfl) (hpl : (backTo pos (starEach es X.env)).any (·.1) = false := by rfl) :
    PE X (.Call (.Name x p) (e :: es) [] pos) (tCall sp dvs E t) := by
  intro pins s σ H Q I h
  refine wpAny_Call_Name_kw (ld_glob I hg hm ?_ hdb)
  refine PySem.W.callWith_K (h₀ := X.base) I.ok.mod.kin hk (thn (ha pos pins s σ H _ I h) fun us s1 ⟨vs, H1, I1, r, q⟩ => ⟨I1.kIn, ?_⟩) he hpl
  exact run_fn F hr hb hd hx I1 r q
end
section
variable {X : Cx} {CX : CXT} {k : Nat} {f C : Addr} {fd : FuncData} {ps ks : List Str} {sp : Sp} {E : XK} {x m : Str} {p pos apos kpos : Pos} {e o : Expr} {es : List Expr} {kws : List Keyword} {te ta : TE} {t tk : TA} {nm : Option Str}
variable {g : List Value → List Value → List Value} {gV : List V → List V → List V}
end
structure FnScope (N P : List Str) (sc : Scope) : Prop where
  kind : sc.kind = .function
  co : sc.isCoroutine = false
  gen : sc.isGenerator = false
  nd : N.Nodup
  pre : N.take P.length = P
  par : ∀ x ∈ P, sc.names.lookup x = some .local ∨ sc.names.lookup x = some .cell
  nofree : ∀ y ∈ sc.names, y.2 ≠ .free
theorem bindL_out {kindOf : Str → Option NameKind} {x : Str} : ∀ {binds : List (Str × Value)} {m : Str → Option Value}, (∀ v, (x, v) ∉ binds) → bindL kindOf binds m x = m x
  | [], _, _ => rfl
  | (n, v) :: r, m, h => by
    unfold bindL
    rw [bindL_out fun w hw => h w (List.mem_cons_of_mem _ hw)]
    split
    · have : x ≠ n := by rintro rfl; exact h v List.mem_cons_self
      simp [this]
    · rfl
theorem bindC_out {kindOf : Str → Option NameKind} {x : Str} : ∀ {binds : List (Str × Value)} {m : Str → Option Value}, (∀ v, (x, v) ∉ binds) → bindC kindOf binds m x = m x
  | [], _, _ => rfl
  | (n, v) :: r, m, h => by
    unfold bindC
    rw [bindC_out fun w hw => h w (List.mem_cons_of_mem _ hw)]
    split
    · rfl
    · have : x ≠ n := by rintro rfl; exact h v List.mem_cons_self
      simp [this]
theorem bindL_get {kindOf : Str → Option NameKind} {x : Str} {v : Value} : ∀ {P : List Str} {vs : List Value} {i : Nat} {m : Str → Option Value}, P.Nodup → P[i]? = some x → vs[i]? = some v → kindOf x = some .local →
    bindL kindOf (P.zip vs) m x = some v
  | [], _, _, _, _, h, _, _ => by simp at h
  | _ :: _, [], _, _, _, _, h, _ => by simp at h
  | p :: P, w :: vs, 0, m, nd, h1, h2, hk => by
    simp at h1 h2; subst h1; subst h2
    show bindL kindOf ((p, w) :: P.zip vs) m p = _
    unfold bindL
    rw [bindL_out fun v hv => (List.nodup_cons.mp nd).1 (List.of_mem_zip hv).1, if_pos hk]
    simp
  | p :: P, w :: vs, i + 1, m, nd, h1, h2, hk => by
    show bindL kindOf ((p, w) :: P.zip vs) m x = _
    unfold bindL
    exact bindL_get (i := i) (List.nodup_cons.mp nd).2 (by simpa using h1) (by simpa using h2) hk
theorem bindC_get {kindOf : Str → Option NameKind} {x : Str} {v : Value} : ∀ {P : List Str} {vs : List Value} {i : Nat} {m : Str → Option Value}, P.Nodup → P[i]? = some x → vs[i]? = some v → kindOf x ≠ some .local →
    bindC kindOf (P.zip vs) m x = some v
  | [], _, _, _, _, h, _, _ => by simp at h
  | _ :: _, [], _, _, _, _, h, _ => by simp at h
  | p :: P, w :: vs, 0, m, nd, h1, h2, hk => by
    simp at h1 h2; subst h1; subst h2
    show bindC kindOf ((p, w) :: P.zip vs) m p = _
    unfold bindC
    rw [bindC_out fun v hv => (List.nodup_cons.mp nd).1 (List.of_mem_zip hv).1, if_neg hk]
    simp
  | p :: P, w :: vs, i + 1, m, nd, h1, h2, hk => by
    show bindC kindOf ((p, w) :: P.zip vs) m x = _
    unfold bindC
    exact bindC_get (i := i) (List.nodup_cons.mp nd).2 (by simpa using h1) (by simpa using h2) hk
def start (N : List Str) (vs : List V) : St := vs.map some ++ List.replicate (N.length - vs.length) none
def cxOf (CX : CXT) (P : Program) (w : World) (K : PySem.W.Frag) (mg : Str → Option Value) (base : Heap) (N : List Str) (qual : Str) (scope : Scope) (f : Addr) (cd : Value) (A : Around) (outer : List Env) (s : Shared) (H : Hp) (E : XK) : Cx where
  prog := P
  w := w
  K := K
  mg := mg
  base := base
  A := A.deeper (envOfC qual scope s.heap.objs.size f cd)
  N := N
  s₀ := s
  H₀ := H
  env := envOfC qual scope s.heap.objs.size f cd
  outer := outer
  stack := envOfC qual scope s.heap.objs.size f cd :: outer
  ex := []
  calm := true
  fn := fun _ => true
  pn := []
  xe := fun e s' => wpAny (model P w) (A.deeper (envOfC qual scope s.heap.objs.size f cd)) (leaving (envOfC qual scope s.heap.objs.size f cd) e) (fun _ s'' => CX outer H s E e s'') (fun e' s'' => CX outer H s E e' s'') s'
theorem cell_has {sc : Scope} {n : Nat} {x : Str} (h : sc.names.lookup x = some .cell) : ∃ c, (cellsFrom n sc.names []).lookup x = some c := by
  have q := PySem.W.cellsFrom_some sc.names n [] (.inl h)
  exact Option.isSome_iff_exists.mp q
theorem inv_start {CX : CXT} {P : Program} {w : World} {K : PySem.W.Frag} {mg : Str → Option Value} {base : Heap} {N ps : List Str} {qual : Str} {scope : Scope} {f : Addr} {cd : Value} {A : Around} {outer : List Env} {s s1 : Shared} {H : Hp} {E : XK} {us : List Value} {vs : List V}
    (S : FnScope N ps scope) (hd : A.handled = none) (e0 : Env0 P w K mg base A outer s H) (hl : vs.length = ps.length) (r : Vals vs us)
    (x : InCallC s s.heap.objs.size (bindL (envOfC qual scope s.heap.objs.size f cd).kindOf (ps.zip us) fun _ => none) (cellsFrom (s.heap.objs.size + 1) scope.names []) (bindC (envOfC qual scope s.heap.objs.size f cd).kindOf (ps.zip us) fun _ => none) s1) :
    Inv (cxOf CX P w K mg base N qual scope f cd A outer s H E) [] (start N vs) H s1 := by
  have hpl : ps.length ≤ N.length := by have := congrArg List.length S.pre; rw [List.length_take] at this; omega
  obtain ⟨h1, tk, rfl, hk⟩ := x.done
  have noA : ∀ b : Addr, b ∉ (cxOf CX P w K mg base N qual scope f cd A outer s H E).ex := fun b z => absurd (show b ∈ ([] : List Addr) from z) (by simp)
  refine ⟨⟨e0.mod, S.kind, rfl, rfl, Nat.le_refl _, fun y z c h1 h2 => ?_, fun y hy => ?_, fun y c _ h => ?_, fun _ => hd, Around.frames_deeper e0.frames, .inr ⟨rfl, rfl⟩, fun b z => absurd z (noA b), e0.bs, e0.bsz, fun b _ _ => noA b, fun b z => absurd z (noA b), e0.funs, e0.frf⟩,
    rfl, e0.bare, Un.kept hk, ⟨_, x.toInCall.ns, fun i y v h1 h2 h3 => ?_⟩, fun y c h => ⟨_, x.cell y c h⟩, e0.hok.fresh (Nat.le_refl _), fun y c h => ?_, fun p hp => absurd (show p ∈ ([] : List (Addr × Obj)) from hp) (by simp), e0.hok.kept hk, ?_⟩
  · exact name_of_addr x.apart (PySem.mem_of_lookup h1) (PySem.mem_of_lookup h2)
  · have hy : scope.names.lookup y = some .cell ∨ scope.names.lookup y = some .free := hy
    rcases hy with hy | hy
    · exact cell_has hy
    · exact absurd rfl (S.nofree _ (PySem.mem_of_lookup hy))
  · exact Nat.le_of_lt (x.above y c (PySem.mem_of_lookup h))
  · have hi : i < vs.length := by
      unfold start at h2
      by_cases hi : i < vs.length
      · exact hi
      · rw [List.getElem?_append_right (by simpa using hi)] at h2
        rw [List.getElem?_replicate] at h2
        split at h2 <;> cases h2
    have ha : vs[i]? = some v := by
      unfold start at h2
      rw [List.getElem?_append_left (by simpa using hi), List.getElem?_map] at h2
      cases e : vs[i]? with
      | none => rw [e] at h2; cases h2
      | some a => rw [e] at h2; cases h2; rfl
    obtain ⟨u, hu, rv⟩ := r.get ha
    have hp : ps[i]? = some y := by
      rw [← S.pre, List.getElem?_take_of_lt (by omega)]; exact h1
    have ndP : ps.Nodup := by rw [← S.pre]; exact S.nd.sublist (List.take_sublist _ _)
    refine ⟨u, rv, ?_⟩
    rcases S.par y (List.mem_of_getElem? hp) with k | k
    · exact .inl ⟨k, bindL_get ndP hp hu k⟩
    · obtain ⟨c, e⟩ := cell_has (n := s.heap.objs.size + 1) k
      refine .inr ⟨.inl k, c, e, ?_⟩
      have q := x.cell y c e
      rw [bindC_get ndP hp hu (by show scope.names.lookup y ≠ _; rw [k]; decide)] at q
      exact q
  · exact e0.hok.fresh (Nat.le_of_lt (x.above y c (PySem.mem_of_lookup h)))
  · unfold start
    show _ = N.length
    rw [List.length_append, List.length_map, List.length_replicate]
    omega
theorem fn_of {CX : CXT} {P : Program} {w : World} {K : PySem.W.Frag} {mg : Str → Option Value} {base : Heap} {k : Nat} {f : Addr} {name qual : Str} {params : Arguments} {body : List Stmt} {scope : Scope} {dV kV doc pm cdv ct oc : Value} {an od : Option Addr}
    {osl : Array (Option Value)} {N ps : List Str} {sp : Sp} (lk : K.lookup f = some ⟨oc, od, .func (PySem.W.fnOf name qual params body scope dV kV doc pm an cdv ct), osl⟩) (hcd : PySem.W.codeIn K cdv qual = true) (S : FnScope N ps scope)
    (len : ∀ vs H Q E, sp vs H Q E → vs.length = ps.length)
    (hbody : ∀ (A : Around) (outer : List Env) (s : Shared) (H : Hp) (vs : List V) (Q : VK) (E : XK), Room k (A.deeper (envOfC qual scope s.heap.objs.size f cdv)) → sp vs H Q E →
      ∃ t, PSs (cxOf CX P w K mg base N qual scope f cdv A outer s H E) body t ∧ t { nx := fun _ H' => Q .non H', rt := Q } (start N vs) H) :
    FnOk P w K mg base CX (k + 1) f (PySem.W.fnOf name qual params body scope dV kV doc pm an cdv ct) ps sp := by
  refine ⟨len, fun A outer s H args us vs Q E hr e0 hb r hsp => ?_⟩
  have hl := len _ _ _ _ hsp
  have KX : K.In s.heap := e0.mod.kin.keeps fun b o e => (e0.bs b o e).1
  have lim : s.heap.NoLimit := e0.mod.nolimit.keeps fun b o e => (e0.bs b o e).1
  have hkind : ∀ y ∈ ps.zip us, scope.names.lookup y.1 = some .local ∨ (scope.names.lookup y.1 = some .cell ∧ ((cellsFrom (s.heap.objs.size + 1) scope.names []).lookup y.1).isSome = true) := fun ⟨n, v⟩ hy => by
    rcases S.par n (List.of_mem_zip hy).1 with q | q
    · exact .inl q
    · exact .inr ⟨q, PySem.W.cellsFrom_some _ _ _ (.inl q)⟩
  refine codeAny_call_function hr.depth (KX _ _ lk) rfl S.co S.gen rfl (PySem.W.codeRec_of KX hcd) (hb _ _ _ _ ?_)
  refine wpAny_newFunctionEnv_cells S.kind hkind fun env he s1 x => ?_
  subst he
  refine ⟨lim.keeps x.toInCall.keep, codeAny_func ?_⟩
  obtain ⟨t, ht, hq⟩ := hbody A outer s H vs Q E (hr.deeper _) hsp
  have I : Inv (cxOf CX P w K mg base N qual scope f cdv A outer s H E) [] (start N vs) H s1 := inv_start S hr.hd e0 hl r x
  refine wpAny_mono (ht [] s1 (start N vs) H _ I hq) (fun fl s' hs => ?_) fun e s' hs => hs
  have fin : ∀ {σ' : St} {H' : Hp} {v : V} {u : Value}, Inv (cxOf CX P w K mg base N qual scope f cdv A outer s H E) [] σ' H' s' → RelV v u → Q v H' → CE outer P w H s Q u s' :=
    fun {σ' H' v u} J rv q => ⟨v, H', J.os, J.bare, J.base, J.hok, rv, q⟩
  cases fl with
  | ret u =>
    obtain ⟨v, σ', H', J, rv, q⟩ := hs
    exact fin J rv q
  | next =>
    obtain ⟨σ', H', J, q⟩ := hs
    exact fin (v := V.non) (u := Value.none) J rfl q
  | brk =>
    obtain ⟨_, _, _, q⟩ := hs
    exact False.elim q
  | cont =>
    obtain ⟨_, _, _, q⟩ := hs
    exact False.elim q
end L2
namespace L2
open PySem PySem.Spec PyProof.Rows
section
variable {X : Cx} {x : Str} {p pos : Pos} {e : Expr} {es : List Expr} {t : TA} {id T : String} {r : List V → Hp → VK → Prop}
def tCB (r : List V → Hp → VK → Prop) (t : TA) : TE := fun σ H Q => t σ H fun vs H1 => r vs H1 Q
theorem pe_callB (hc : CallR X (.builtin id) r) (hg : Gl X x) (hm : X.mg x = none) (hv : bootBuiltins x = some (.builtin id)) (ha : PA X (e :: es) t) (hn : x ≠ "__name__" := by decide) (hdb : (x == ("__debug__" : Str)) = false := by decide)
    (he : starEach (e :: es) X.env = (false, eval e X.env) :: starEach es X.env := by rfl) (hpl : (backTo pos (starEach es X.env)).any (·.1) = false := by rfl) : PE X (.Call (.Name x p) (e :: es) [] pos) (tCB r t) := by
  intro pins s σ H Q I h
  refine wpAny_Call_Name_kw (ld_blt I hg hm hv ?_ hn hdb)
  exact PyProof.Rows.callWith_builtin1 (thn (ha pos pins s σ H _ I h) fun us s1 ⟨vs, H1, I1, r1, q1⟩ => hc pins s1 σ H1 vs us Q I1 r1 q1) he hpl
theorem pe_callTy (hc : CallR X (.type T) r) (hg : Gl X x) (hm : X.mg x = none) (hv : bootBuiltins x = some (.type T)) (ha : PA X (e :: es) t) (hn : x ≠ "__name__" := by decide) (hdb : (x == ("__debug__" : Str)) = false := by decide)
    (he : starEach (e :: es) X.env = (false, eval e X.env) :: starEach es X.env := by rfl) (hpl : (backTo pos (starEach es X.env)).any (·.1) = false := by rfl) : PE X (.Call (.Name x p) (e :: es) [] pos) (tCB r t) := by
  intro pins s σ H Q I h
  refine wpAny_Call_Name_kw (ld_blt I hg hm hv ?_ hn hdb)
  exact PyProof.Rows.callWith_type1 (thn (ha pos pins s σ H _ I h) fun us s1 ⟨vs, H1, I1, r1, q1⟩ => hc pins s1 σ H1 vs us Q I1 r1 q1) he hpl
end
end L2
namespace HT
open PySem PyProof.Rows
section
open PySem.SeqAt
open PySem.AutoSeq1 (wpAny_loadPart')
open PySem.MeetsSeq PySem.MeetsSeq2 PySem.MeetsSeq3
end
section
variable {prog : Program} {w : World} {A : Around} {E : Value → Shared → Prop} {s : Shared}
theorem cat_tup {t b : Addr} {vs ws : List Value} {Q : Value → Shared → Prop} (ht : IsTup s.heap t vs.toArray) (hb : IsTup s.heap b ws.toArray) (hv : vs ≠ [])
    (h1 : ws = [] → Q (.ref t) s) (h2 : ws ≠ [] → Q (.ref s.heap.objs.size) { s with heap := s.heap.push { cls := .type "tuple", data := .seq (vs ++ ws).toArray } })
    (hsz : vs.length + ws.length ≤ sizeLine) : wpAny (model prog w) A (binaryOp .Add (.ref t) (.ref b)) Q E s := by
  obtain ⟨⟨cls, dd, data, sl⟩, ho, hc, n, hd⟩ := id ht
  obtain ⟨⟨cls2, dd2, data2, sl2⟩, ho2, hc2, n2, hd2⟩ := id hb
  simp only at hc hd hc2 hd2
  subst hc hd hc2 hd2
  have e : vs.toArray ++ ws.toArray = (vs ++ ws).toArray := by simp
  by_cases hw : ws = []
  · exact concat_meets ⟨_, ho, rfl⟩ ⟨_, ho2, rfl⟩ noFill_tuple_add seq_tuple_add PySem.F.slot_tuple_add PySem.F.entry_tuple_add (PySem.F.args_tuple_add_2 _ _)
      (tuple_addW1 t b vs.toArray ws.toArray n n2 dd dd2 sl sl2 (by simpa using hv) (by simp [hw])) ⟨ho, ho2, h1 hw⟩
  · refine concat_meets ⟨_, ho, rfl⟩ ⟨_, ho2, rfl⟩ noFill_tuple_add seq_tuple_add PySem.F.slot_tuple_add PySem.F.entry_tuple_add (PySem.F.args_tuple_add_2 _ _)
      (tuple_addW2 t b vs.toArray ws.toArray n n2 dd dd2 sl sl2 (by simpa using hv) (by simpa using hw) (by rw [List.size_toArray, List.size_toArray]; exact hsz)) ⟨ho, ho2, ?_⟩
    rw [e]
    exact h2 hw
def sIx (n d : Nat) : Option Int → Nat
  | none => d
  | some v => if v < 0 then (v + (n : Int)).toNat else min v.toNat n
theorem sIx_nat (n d k : Nat) : sIx n d (some (k : Int)) = min k n := by
  show (if (k : Int) < 0 then ((k : Int) + (n : Int)).toNat else min (k : Int).toNat n) = min k n
  rw [if_neg (by omega), Int.toNat_natCast]
theorem sIx_le (n d : Nat) (hd : d ≤ n) (o : Option Int) : sIx n d o ≤ n := by
  cases o with
  | none => exact hd
  | some v =>
    show (if v < 0 then (v + (n : Int)).toNat else min v.toNat n) ≤ n
    by_cases hv : v < 0
    · rw [if_pos hv]; omega
    · rw [if_neg hv]; exact Nat.min_le_right _ _
theorem clip_eq (v : Int) (n d : Nat) : (if v < 0 then max (v + (n : Int)) 0 else min v (n : Int)) = ((sIx n d (some v) : Nat) : Int) := by
  show (if v < 0 then max (v + (n : Int)) 0 else min v (n : Int)) = (((if v < 0 then (v + (n : Int)).toNat else min v.toNat n) : Nat) : Int)
  by_cases hv : v < 0
  · simp only [if_pos hv]; omega
  · simp only [if_neg hv]; omega
theorem adjust_gen (lo hi : Option Int) (n : Nat) : Builtin.Slice.sliceAdjust lo hi 1 (n : Int) = (((sIx n 0 lo : Nat) : Int), ((sIx n n hi : Nat) : Int)) := by
  have h1 : ¬ ((1 : Int) < 0) := by omega
  unfold Builtin.Slice.sliceAdjust
  simp only [h1, if_false]
  refine Prod.ext ?_ ?_
  · cases lo with
    | none => rfl
    | some v => exact clip_eq v n 0
  · cases hi with
    | none => rfl
    | some v => exact clip_eq v n n
theorem places_gen (i j : Nat) : Builtin.Slice.slicePlaces (i : Int) (j : Int) 1 = j - i := by
  unfold Builtin.Slice.slicePlaces
  have h1 : (1 : Int) > 0 := by omega
  simp only [h1, if_true, Int.ediv_one]
  split <;> omega
theorem slicePart_ {v : Value} {o : Option Int} {Q : Option Int → Shared → Prop} (p : IsPart v o) (h : Q o s) : wpAny (model prog w) A (Builtin.Slice.slicePartIndex v) Q E s := by
  cases p with
  | none => exact slicePart_none h
  | int i t => exact slicePart_int h
theorem sliceApplied_gen {sl : Addr} {vl vu : Value} {lo hi : Option Int} {n : Nat} {Q : Int × Int × Nat → Shared → Prop} (hs : s.heap.IsSliceOf sl vl vu .none) (pl : IsPart vl lo) (pu : IsPart vu hi)
    (h : Q (((sIx n 0 lo : Nat) : Int), 1, sIx n n hi - sIx n 0 lo) s) : wpAny (model prog w) A (Builtin.Slice.sliceApplied (.ref sl) (pure (n : Int))) Q E s := by
  obtain ⟨os, hos, hcs, hds⟩ := id hs
  unfold Builtin.Slice.sliceApplied Builtin.Slice.sliceFields
  refine wpAny_bind (wpAny_bind (wpAny_field hos hds (x := vl) rfl (wpAny_bind (wpAny_field hos hds (x := vu) rfl (wpAny_bind (wpAny_field hos hds (x := .none) rfl (wpAny_pure ?_)))))))
  refine wpAny_bind (slicePart_none ?_)
  show wpAny _ _ (if ((1 : Int) == 0) = true then _ else _) _ _ s
  rw [if_neg (by decide)]
  refine wpAny_bind (slicePart_ pl (wpAny_bind (slicePart_ pu (wpAny_bind (wpAny_pure ?_)))))
  show wpAny _ _ (match Builtin.Slice.sliceAdjust lo hi 1 (n : Int) with | (lo, hi) => pure (lo, (1 : Int), Builtin.Slice.slicePlaces lo hi 1)) _ _ s
  rw [adjust_gen lo hi n]
  show wpAny _ _ (pure (((sIx n 0 lo : Nat) : Int), (1 : Int), Builtin.Slice.slicePlaces ((sIx n 0 lo : Nat) : Int) ((sIx n n hi : Nat) : Int) 1)) _ _ s
  rw [places_gen]
  exact wpAny_pure h
theorem pick_gen (xs : Array Value) (i k : Nat) : ((List.range k).filterMap fun (m : Nat) => xs[((i : Int) + (m : Int) * 1).toNat]?).toArray = ((xs.toList.drop i).take k).toArray := by
  have e : (fun (m : Nat) => xs[((i : Int) + (m : Int) * 1).toNat]?) = fun m => xs[i + m]? := by
    funext m
    have : ((i : Int) + (m : Int) * 1).toNat = i + m := by omega
    rw [this]
  rw [e]
  have := pick_run xs i k
  rw [List.filterMap_map] at this
  have e2 : ((fun x => xs[x]?) ∘ fun x => i + x) = fun m => xs[i + m]? := rfl
  rw [e2] at this
  rw [this]
theorem getItem_tuple_cut {t sl : Addr} {items : Array Value} {vl vu : Value} {lo hi : Option Int} {Q : Value → Shared → Prop} (ht : IsTup s.heap t items) (hs : s.heap.IsSliceOf sl vl vu .none) (pl : IsPart vl lo) (pu : IsPart vu hi)
    (hw : ¬ (sIx items.size 0 lo = 0 ∧ sIx items.size items.size hi = items.size))
    (h : Q (.ref s.heap.objs.size) { s with heap := s.heap.push { cls := .type "tuple", data := .seq ((items.toList.drop (sIx items.size 0 lo)).take (sIx items.size items.size hi - sIx items.size 0 lo)).toArray } })
    (hsz : items.size ≤ sizeLine) : wpAny (model prog w) A (getItem (.ref t) (.ref sl)) Q E s := by
  have htake : sizeOk (.seq ((items.toList.drop (sIx items.size 0 lo)).take (sIx items.size items.size hi - sIx items.size 0 lo)).toArray) := by
    show ((items.toList.drop (sIx items.size 0 lo)).take (sIx items.size items.size hi - sIx items.size 0 lo)).toArray.size ≤ sizeLine
    rw [List.size_toArray, List.length_take, List.length_drop, Array.length_toList]
    omega
  have hj : sIx items.size items.size hi ≤ items.size := sIx_le _ _ (Nat.le_refl _) hi
  obtain ⟨os, hos, hcs, hds⟩ := id hs
  have hTs : s.TypeIs (.ref sl) "slice" := ⟨os, hos, hcs⟩
  unfold getItem
  try with_reducible refine wpAny_holding ?_
  first | refine wpAny_bind (wpAny_pure ?_) | skip
  refine wpAny_bind (wpAny_sequenceKey ht.typeIs (by decide) ?_)
  refine wpAny_bind (wpAny_callSpecial?_slot (name := Str.ofString "__getitem__") ht.typeIs PyProof.Rows.slot_tuple_getitem
    (wpAny_call_entry PyProof.Rows.slot_tuple_getitem ht.typeIs entry_tuple_getitem ?_ (args_tuple_getitem _ _)))
  show wpAny _ _ (Builtin.Tuple.tupleItemsOf (.ref t) >>= _) _ _ s
  refine wpAny_bind (tupleItemsOf_ ht ?_)
  refine wpAny_bind (wpAny_typeOf hTs ?_)
  rw [if_pos (by decide)]
  refine wpAny_bind (sliceApplied_gen hs pl pu ?_)
  have hno : ¬ ((((sIx items.size 0 lo : Nat) : Int) == 0 && (1 : Int) == 1 && (sIx items.size items.size hi - sIx items.size 0 lo) == items.size) = true) := by
    intro q
    rw [Bool.and_eq_true, Bool.and_eq_true] at q
    have q1 : ((sIx items.size 0 lo : Nat) : Int) = 0 := eq_of_beq q.1.1
    have q2 : sIx items.size items.size hi - sIx items.size 0 lo = items.size := eq_of_beq q.2
    exact hw ⟨by omega, by omega⟩
  show wpAny _ _ (if (((sIx items.size 0 lo : Nat) : Int) == 0 && (1 : Int) == 1 && (sIx items.size items.size hi - sIx items.size 0 lo) == items.size) = true then _ else _) _ _ s
  rw [if_neg hno, pick_gen]
  first
    | exact wpAny_bind (m := Builtin.Tuple.tupleExact _) (wpAny_newObj_type (wpAny_pure ⟨_, rfl, wpAny_pure h⟩) htake)
    | exact wpAny_bind (m := Builtin.Tuple.tupleExact _) (wpAny_newObj_type (wpAny_bind (wpAny_pure (wpAny_pure ⟨_, rfl, wpAny_pure h⟩))) htake)
    | exact wpAny_bind (wpAny_bind (m := Builtin.Tuple.tupleExact _) (wpAny_newObj_type (wpAny_pure (wpAny_pure ⟨_, rfl, wpAny_pure h⟩)) htake))
    | exact wpAny_bind (wpAny_bind (m := Builtin.Tuple.tupleExact _) (wpAny_newObj_type (wpAny_pure ⟨_, rfl, wpAny_pure h⟩) htake))
end
end HT
namespace L2
open PySem PySem.Spec PyProof.Rows
abbrev TO := St → Hp → (Option Int → Hp → Prop) → Prop
def PO (X : Cx) (e : Option Expr) (t : TO) : Prop :=
  ∀ (pins : List (Addr × Obj)) (s : Shared) (σ : St) (H : Hp) (Q : Option Int → Hp → Prop), Inv X pins σ H s → t σ H Q →
    wpAny (model X.prog X.w) X.A (evalPart e X.env) (fun u s' => ∃ o H', Inv X pins σ H' s' ∧ IsPart u o ∧ Q o H') X.xe s
def tNoPart : TO := fun _ H Q => Q none H
def tPart (t : TE) : TO := fun σ H Q => t σ H fun x H1 => ∃ i, x = .int i ∧ Q (some i) H1
section
variable {X : Cx} {e : Expr} {te : TE} {lo hi : Option Expr} {tl th : TO} {pos p2 : Pos}
theorem po_none : PO X none tNoPart := by
  intro pins s σ H Q I h
  rw [evalPart_none]
  exact wpAny_pure ⟨none, H, I, .none, h⟩
theorem po_some (h : PE X e te) : PO X (some e) (tPart te) := by
  intro pins s σ H Q I hw
  rw [evalPart_some]
  refine thn (h pins s σ H _ I hw) fun u s1 ⟨x, H1, I1, r1, q1⟩ => ?_
  obtain ⟨i, rfl, q⟩ := q1
  obtain ⟨t, rfl⟩ := r1
  exact ⟨some i, H1, I1, .int i t, q⟩
def SlR (X : Cx) (r : V → Option Int → Option Int → Hp → VK → Prop) : Prop :=
  ∀ (pins : List (Addr × Obj)) (s : Shared) (σ : St) (H : Hp) (x : V) (v vl vu : Value) (lo hi : Option Int) (sl : Addr) (Q : VK), Inv X pins σ H s → RelV x v → s.heap.IsSliceOf sl vl vu .none → IsPart vl lo → IsPart vu hi → r x lo hi H Q →
    ∃ T id, typeLookup (.type T) "__getitem__" = pure (some (.builtin id)) ∧ s.TypeIs v T ∧ wpAny (model X.prog X.w) X.A (getItem v (.ref sl)) (EP X pins σ Q) X.xe s
def tSl (r : V → Option Int → Option Int → Hp → VK → Prop) (te : TE) (tl th : TO) : TE := fun σ H Q => te σ H fun x H1 => tl σ H1 fun l H2 => th σ H2 fun u H3 => r x l u H3 Q
theorem pe_slice {r : V → Option Int → Option Int → Hp → VK → Prop} (hr : SlR X r) (he : PE X e te) (hl : PO X lo tl) (hu : PO X hi th) : PE X (.Subscript e (.Slice lo hi none p2) pos) (tSl r te tl th) := by
  intro pins s σ H Q I h
  refine Subscript_ (thn (he pins s σ H _ I h) fun v s1 ⟨x, H1, I1, r1, q1⟩ => ?_)
  refine wpAny_Slice (thn (hl pins s1 σ H1 _ I1 q1) fun vl s2 ⟨l, H2, I2, pl, q2⟩ => thn (hu pins s2 σ H2 _ I2 q2) fun vu s3 ⟨u, H3, I3, pu, q3⟩ => ?_)
  rw [evalPart_none]
  refine wpAny_pure ?_
  have I4 : Inv X pins σ H3 { s3 with heap := s3.heap.push { cls := .type "slice", data := .fields #[vl, vu, .none] } } := I3.kept (t' := s3.toks) fun b ob q => Heap.get?_push_of_some _ q
  obtain ⟨T, id, hT, ht, hg⟩ := hr pins { s3 with heap := s3.heap.push { cls := .type "slice", data := .fields #[vl, vu, .none] } } σ H3 x v vl vu l u s3.heap.objs.size Q I4 r1 (Heap.IsSliceOf.new ..) pl pu q3
  show wpAny (model X.prog X.w) X.A (subscriptTail e (.Slice lo hi none p2) v (.ref s3.heap.objs.size)) (EP X pins σ Q) X.xe { s3 with heap := s3.heap.push { cls := .type "slice", data := .fields #[vl, vu, .none] } }
  exact tail_any (ops := [.ref s3.heap.objs.size, v]) ht hT hg (by with_unfolding_all rfl)
def cutV (xs : List V) (lo hi : Option Int) : List V := (xs.drop (HT.sIx xs.length 0 lo)).take (HT.sIx xs.length xs.length hi - HT.sIx xs.length 0 lo)
theorem cutV_length (xs : List V) (lo hi : Option Int) : (cutV xs lo hi).length ≤ xs.length := by
  unfold cutV
  rw [List.length_take, List.length_drop]
  omega
def rSlT (K : PySem.W.Frag) : V → Option Int → Option Int → Hp → VK → Prop := fun x lo hi H Q => ∃ a xs, x = .ref a ∧ SqT K H a xs ∧
  ¬ (HT.sIx xs.length 0 lo = 0 ∧ HT.sIx xs.length xs.length hi = xs.length) ∧ ∀ p, H p = none → Q (.ref p) (upd H p (.tup (cutV xs lo hi)))
theorem sl_tup : SlR X (rSlT X.K) := by
  intro pins s σ H x v vl vu lo hi sl Q I rx hs pl pu h
  obtain ⟨a, xs, rfl, hx, hw, q⟩ := h
  cases rx
  obtain ⟨its, r, ht, hz⟩ := I.tuple hx
  have hlen : its.toArray.size = xs.length := by rw [List.size_toArray]; exact r.length.symm
  refine ⟨"tuple", _, PyProof.Rows.slot_tuple_getitem.lookup, ht.typeIs, ?_⟩
  refine HT.getItem_tuple_cut ht hs pl pu (by rw [hlen]; exact hw) ?_ (by rw [hlen]; exact hz)
  rw [hlen]
  refine ⟨.ref s.heap.objs.size, _, I.laid (t' := s.toks) (o := .tup (cutV xs lo hi)) (fun b ob q => Heap.get?_push_of_some _ q) (Nat.le_refl _) ?_, rfl, q _ (I.hok.fresh (Nat.le_refl _))⟩
  exact ⟨Nat.le_trans (cutV_length xs lo hi) hz, _, (r.drop (HT.sIx xs.length 0 lo)).take (HT.sIx xs.length xs.length hi - HT.sIx xs.length 0 lo), IsTup.new _ _⟩
def rCatT (K : PySem.W.Frag) : R2 := fun x y H Q => ∃ a b xs ys, x = .ref a ∧ y = .ref b ∧ SqT K H a xs ∧ SqT K H b ys ∧ xs ≠ [] ∧ xs.length + ys.length ≤ sizeLine ∧
  (ys = [] → Q (.ref a) H) ∧ (ys ≠ [] → ∀ p, H p = none → Q (.ref p) (upd H p (.tup (xs ++ ys))))
theorem Vals.nil_iff {xs : List V} {us : List Value} (r : Vals xs us) : us = [] ↔ xs = [] := by
  cases r with
  | nil => simp
  | cons _ _ => simp
theorem op_catT : OpR X (binaryOp .Add) (rCatT X.K) := by
  intro pins s σ H x y v u Q I rx ry h
  obtain ⟨a, b, xs, ys, rfl, rfl, ha, hb, hx, hz, q1, q2⟩ := h
  cases rx
  cases ry
  obtain ⟨its, r1, p1, _⟩ := I.tuple ha
  obtain ⟨its2, r2, p2, _⟩ := I.tuple hb
  refine HT.cat_tup p1 p2 (fun z => hx (r1.nil_iff.mp z)) (fun z => ⟨.ref a, H, I, rfl, q1 (r2.nil_iff.mp z)⟩) (fun z => ?_) (by rw [← r1.length, ← r2.length]; exact hz)
  refine ⟨.ref s.heap.objs.size, _, I.laid (t' := s.toks) (o := .tup (xs ++ ys)) (fun b ob q => Heap.get?_push_of_some _ q) (Nat.le_refl _) ?_, rfl, q2 (fun w => z (r2.nil_iff.mpr w)) _ (I.hok.fresh (Nat.le_refl _))⟩
  exact ⟨by rw [List.length_append]; exact hz, _, r1.append r2, IsTup.new _ _⟩
end
end L2
namespace L2
open PySem PySem.Spec PyProof.Rows
def ixN (n : Nat) (i : Int) : Option Nat := if 0 ≤ i then (if i < n then some i.toNat else none) else if -(n : Int) ≤ i then some (i + n).toNat else none
def atI {α : Type} (xs : List α) (i : Int) : Option α := (ixN xs.length i).bind fun j => xs[j]?
theorem ixN_seq {n : Nat} {i : Int} {j : Nat} (h : ixN n i = some j) : seqIndex? i n = some j ∧ j < n ∧ -(n : Int) ≤ i ∧ i < n := by
  unfold ixN at h
  by_cases h0 : 0 ≤ i
  · rw [if_pos h0] at h
    by_cases h1 : i < n
    · rw [if_pos h1] at h
      have e : i.toNat = j := Option.some.inj h
      exact ⟨by rw [seqIndex_of h0 h1, e], by omega, by omega, h1⟩
    · rw [if_neg h1] at h; cases h
  · rw [if_neg h0] at h
    by_cases h1 : -(n : Int) ≤ i
    · rw [if_pos h1] at h
      have e : (i + n).toNat = j := Option.some.inj h
      exact ⟨by rw [seqIndex_neg (by omega) h1, e], by omega, h1, by omega⟩
    · rw [if_neg h1] at h; cases h
theorem atI_get {α : Type} {xs : List α} {i : Int} {v : α} (h : atI xs i = some v) : ∃ j, seqIndex? i xs.length = some j ∧ xs[j]? = some v ∧ j < xs.length ∧ -(xs.length : Int) ≤ i ∧ i < xs.length := by
  unfold atI at h
  cases e : ixN xs.length i with
  | none => rw [e] at h; cases h
  | some j =>
    rw [e] at h
    obtain ⟨h1, h2, h3, h4⟩ := ixN_seq e
    exact ⟨j, h1, h, h2, h3, h4⟩
theorem atI_nat {α : Type} {xs : List α} {j : Nat} {v : α} (h : xs[j]? = some v) : atI xs (j : Int) = some v := by
  have hj : j < xs.length := (List.getElem?_eq_some_iff.mp h).1
  have e : ixN xs.length (j : Int) = some j := by
    unfold ixN
    rw [if_pos (by omega), if_pos (by omega)]; simp
  unfold atI; rw [e]; exact h
def PlainIx (b : Expr) : Prop := ∀ o i, subscripted b false o i = operate [o, i] (getItem o i)
def IxR (X : Cx) (r : R2) : Prop :=
  ∀ (value slice : Expr) (pins : List (Addr × Obj)) (s : Shared) (σ : St) (H : Hp) (x y : V) (v u : Value) (Q : VK), Inv X pins σ H s → RelV x v → RelV y u → r x y H Q →
    subscripted slice false v u = operate [v, u] (getItem v u) → wpAny (model X.prog X.w) X.A (subscriptTail value slice v u) (EP X pins σ Q) X.xe s
def MtR (X : Cx) (id : String) (r : V → List V → Hp → VK → Prop) : Prop :=
  ∀ (pins : List (Addr × Obj)) (s : Shared) (σ : St) (H : Hp) (x : V) (xs : List V) (v : Value) (us : List Value) (Q : VK), Inv X pins σ H s → RelV x v → Vals xs us → r x xs H Q →
    wpAny (model X.prog X.w) X.A (call (.builtin id) (v :: us)) (EP X pins σ Q) X.xe s
section
variable {X : Cx} {a b : Expr} {ta tb : TE} {pos : Pos}
theorem pe_ix {r : R2} (hr : IxR X r) (ha : PE X a ta) (hb : PE X b tb) (hs : PlainIx b) : PE X (.Subscript a b pos) (tOp r ta tb) := by
  intro pins s σ H Q I h
  exact Subscript_ (binT ha hb I h fun v u s2 x y H2 I2 rx ry q => hr a b pins s2 σ H2 x y v u Q I2 rx ry q (hs _ _))
def rIxL (K : PySem.W.Frag) : R2 := fun x y H Q => ∃ p xs i v, x = .ref p ∧ y = .int i ∧ SqL K H p xs ∧ atI xs i = some v ∧ Q v H
def rIxT (K : PySem.W.Frag) : R2 := fun x y H Q => ∃ p xs i v, x = .ref p ∧ y = .int i ∧ SqT K H p xs ∧ atI xs i = some v ∧ Q v H
theorem ix_list : IxR X (rIxL X.K) := by
  intro value slice pins s σ H x y v u Q I rx ry h hs
  obtain ⟨p, xs, i, z, rfl, rfl, hq, he, q⟩ := h
  cases rx
  obtain ⟨t, rfl⟩ := ry
  obtain ⟨its, r, pl, hz⟩ := I.list hq
  obtain ⟨j, h1, h2, h3, h4, h5⟩ := atI_get he
  obtain ⟨w, ew, rw'⟩ := r.get h2
  have hl := r.length
  have hn := line63
  have fin : EP X pins σ Q w s := ⟨z, H, I, rw', q⟩
  by_cases h0 : 0 ≤ i
  · have hj : i.toNat = j := by
      rw [seqIndex_of h0 h5] at h1
      exact Option.some.inj h1
    exact item_listR pl.isList h0 (by omega) (by rw [hj]; simpa using ew) fin hs
  · have hj : (i + (its.toArray.size : Int)).toNat = j := by
      rw [seqIndex_neg (by omega) h4] at h1
      rw [List.size_toArray, ← hl]
      exact Option.some.inj h1
    exact subscriptTail_builtinR (x := w) pl.isList.typeIs slot_list_getitem.lookup
      (wpAny_getItem_list_neg (Q := fun r s' => r = w ∧ EP X pins σ Q r s') pl.isList (by omega) (by rw [List.size_toArray] <;> omega) (by omega) (by rw [hj]; simpa using ew) ⟨rfl, fin⟩) hs
theorem ix_tup : IxR X (rIxT X.K) := by
  intro value slice pins s σ H x y v u Q I rx ry h hs
  obtain ⟨p, xs, i, z, rfl, rfl, hq, he, q⟩ := h
  cases rx
  obtain ⟨t, rfl⟩ := ry
  obtain ⟨its, r, pl, hz⟩ := I.tuple hq
  obtain ⟨j, h1, h2, h3, h4, h5⟩ := atI_get he
  obtain ⟨w, ew, rw'⟩ := r.get h2
  have hl := r.length
  have hn := line63
  have fin : EP X pins σ Q w s := ⟨z, H, I, rw', q⟩
  exact subscriptTail_builtinR (x := w) pl.typeIs slot_tuple_getitem.lookup
    (getItem_tuple (j := j) (Q := fun r s' => r = w ∧ EP X pins σ Q r s') pl (by omega) (by omega) (by rw [List.size_toArray, ← hl]; exact h1) (by simpa using ew) ⟨rfl, fin⟩) hs
theorem Inv.lst {pins : List (Addr × Obj)} {σ : St} {H : Hp} {s : Shared} {p : Addr} {xs : List V} (I : Inv X pins σ H s) (h : H p = some (.lst xs)) :
    ∃ (its : List Value) (n : Nat), Vals xs its ∧ s.heap.get? p = some { cls := .type "list", data := .seq its.toArray n } ∧ xs.length ≤ sizeLine := by
  obtain ⟨z, its, n, r, e⟩ := I.hok p _ h
  exact ⟨its, n, r, e, z⟩
theorem slice_bounds (lo hi : Option Int) (n : Nat) : (sliceBounds lo hi none n).1 = ((HT.sIx n 0 lo : Nat) : Int) ∧ (sliceBounds lo hi none n).2.1 = ((HT.sIx n n hi : Nat) : Int) ∧ (sliceBounds lo hi none n).2.2 = 1 := by
  refine ⟨?_, ?_, rfl⟩
  · cases lo with
    | none => simp [sliceBounds, HT.sIx]
    | some i =>
      simp only [sliceBounds, HT.sIx, Option.getD_none, show (1 : Int) > 0 by decide, if_true]
      by_cases h : i < 0
      · simp only [h, if_true] <;> omega
      · simp only [h, if_false] <;> omega
  · cases hi with
    | none => simp [sliceBounds, HT.sIx]
    | some i =>
      simp only [sliceBounds, HT.sIx, Option.getD_none, show (1 : Int) > 0 by decide, if_true]
      by_cases h : i < 0
      · simp only [h, if_true] <;> omega
      · simp only [h, if_false] <;> omega
theorem slicePick_cut (its : List Value) (lo hi : Option Int) : slicePick its.toArray lo hi none = ((its.drop (HT.sIx its.length 0 lo)).take (HT.sIx its.length its.length hi - HT.sIx its.length 0 lo)).toArray := by
  obtain ⟨h1, h2, h3⟩ := slice_bounds lo hi its.toArray.size
  unfold slicePick
  rw [h1, h2, h3]
  simp only [sliceRange_one, pick_run, List.size_toArray] <;> rfl
def rSlL (K : PySem.W.Frag) : V → Option Int → Option Int → Hp → VK → Prop := fun x lo hi H Q => ∃ a xs, x = .ref a ∧ SqL K H a xs ∧ ∀ p, H p = none → Q (.ref p) (upd H p (.lst (cutV xs lo hi)))
theorem sl_list : SlR X (rSlL X.K) := by
  intro pins s σ H x v vl vu lo hi sl Q I rx hs pl pu h
  obtain ⟨a, xs, rfl, hx, q⟩ := h
  cases rx
  obtain ⟨its, r, ht, hz⟩ := I.list hx
  have hlen := r.length
  refine ⟨"list", _, slot_list_getitem.lookup, ht.isList.typeIs, ?_⟩
  refine wpAny_getItem_list_slice ht.isList hs pl pu .none (by simp) ?_ (by rw [List.size_toArray] <;> omega)
  rw [slicePick_cut, ← hlen]
  refine ⟨.ref s.heap.objs.size, _, I.laid (t' := s.toks) (o := .lst (cutV xs lo hi)) (fun b ob q => Heap.get?_push_of_some _ q) (Nat.le_refl _) ?_, rfl, q _ (I.hok.fresh (Nat.le_refl _))⟩
  exact ⟨Nat.le_trans (cutV_length xs lo hi) hz, _, 0, (r.drop (HT.sIx xs.length 0 lo)).take (HT.sIx xs.length xs.length hi - HT.sIx xs.length 0 lo), Heap.get?_push_size _ rfl⟩
def flatV : V → Bool
  | .non => true
  | .bl _ => true
  | .int _ => true
  | .str _ => true
  | _ => false
def eqV : V → V → Bool
  | .non, .non => true
  | .bl a, .bl b => a == b
  | .bl a, .int b => (if a then 1 else 0) == b
  | .int a, .bl b => a == (if b then 1 else 0)
  | .int a, .int b => a == b
  | .str a, .str b => a == b
  | _, _ => false
theorem eqAt_V {A : Around} {s : Shared} {y x : V} {u v : Value} (ry : RelV y u) (rx : RelV x v) (fy : flatV y = true) (fx : flatV x = true) : SeqAt.EqAt A s u v (eqV y x) := by
  cases y with
  | non =>
    cases ry
    cases x with
    | non => cases rx; exact SeqAt.EqAt.same _
    | bl b => cases rx; exact SeqAt.EqAt.none_bool b
    | int b => obtain ⟨t, rfl⟩ := rx; exact SeqAt.EqAt.none_int b t
    | str b => obtain ⟨t, rfl⟩ := rx; exact SeqAt.EqAt.none_str b t
    | _ => exact absurd (show false = true from fx) Bool.false_ne_true
  | bl a =>
    cases ry
    cases x with
    | non => cases rx; exact SeqAt.EqAt.bool_none a
    | bl b => cases rx; exact SeqAt.EqAt.bool_bool a b
    | int b => obtain ⟨t, rfl⟩ := rx; exact SeqAt.EqAt.bool_int a b t
    | str b => obtain ⟨t, rfl⟩ := rx; exact SeqAt.EqAt.bool_str a b t
    | _ => exact absurd (show false = true from fx) Bool.false_ne_true
  | int a =>
    obtain ⟨t', rfl⟩ := ry
    cases x with
    | non => cases rx; exact SeqAt.EqAt.int_none a t'
    | bl b => cases rx; exact SeqAt.EqAt.int_bool a t' b
    | int b => obtain ⟨t, rfl⟩ := rx; exact SeqAt.EqAt.int_int a t' b t
    | str b => obtain ⟨t, rfl⟩ := rx; exact SeqAt.EqAt.int_str a t' b t
    | _ => exact absurd (show false = true from fx) Bool.false_ne_true
  | str a =>
    obtain ⟨t', rfl⟩ := ry
    cases x with
    | non => cases rx; exact SeqAt.EqAt.str_none a t'
    | bl b => cases rx; exact SeqAt.EqAt.str_bool a t' b
    | int b => obtain ⟨t, rfl⟩ := rx; exact SeqAt.EqAt.str_int a t' b t
    | str b => obtain ⟨t, rfl⟩ := rx; exact SeqAt.EqAt.str_str a t' b t
    | _ => exact absurd (show false = true from fx) Bool.false_ne_true
  | _ => exact absurd (show false = true from fy) Bool.false_ne_true
def eqU (x : V) (u : Value) : Bool := match u with
  | .none => eqV .non x
  | .bool b => eqV (.bl b) x
  | .int i _ => eqV (.int i) x
  | .str z _ => eqV (.str z) x
  | _ => false
theorem eqU_of {x y : V} {u : Value} (r : RelV y u) (f : flatV y = true) : eqU x u = eqV y x := by
  cases y with
  | non => cases r; rfl
  | bl b => cases r; rfl
  | int i => obtain ⟨t, rfl⟩ := r; rfl
  | str z => obtain ⟨t, rfl⟩ := r; rfl
  | _ => exact absurd (show false = true from f) Bool.false_ne_true
theorem any_eqU {x : V} : ∀ {xs : List V} {us : List Value}, Vals xs us → xs.all flatV = true → us.any (eqU x) = xs.any fun y => eqV y x
  | _, _, .nil, _ => rfl
  | y :: xs, u :: us, .cons r t, f => by
    rw [List.all_cons, Bool.and_eq_true] at f
    rw [List.any_cons, List.any_cons, eqU_of r f.1, any_eqU t f.2]
theorem mem_eqAt {A : Around} {s : Shared} {x : V} {v : Value} (rx : RelV x v) (fx : flatV x = true) : ∀ {xs : List V} {us : List Value}, Vals xs us → xs.all flatV = true → ∀ u ∈ us, SeqAt.EqAt A s u v (eqU x u)
  | _, _, .nil, _ => fun u hu => by cases hu
  | y :: xs, u :: us, .cons r t, f => fun u' hu => by
    rw [List.all_cons, Bool.and_eq_true] at f
    rcases List.mem_cons.mp hu with rfl | hu
    · rw [eqU_of r f.1]; exact eqAt_V r rx f.1 fx
    · exact mem_eqAt rx fx t f.2 u' hu
def inV (x : V) (xs : List V) : Bool := xs.any fun y => eqV y x
def rIn (K : PySem.W.Frag) (neg : Bool) : R2 := fun x y H Q => ∃ p xs, y = .ref p ∧ (SqL K H p xs ∨ SqT K H p xs) ∧ flatV x = true ∧ xs.all flatV = true ∧ Q (.bl (if neg then !inV x xs else inV x xs)) H
theorem op_in_seq : OpR X (compareOp .In) (rIn X.K false) := by
  intro pins s σ H x y v u Q I rx ry h
  obtain ⟨p, xs, rfl, hq, fx, fs, q⟩ := h
  cases ry
  rcases hq with hq | hq
  · obtain ⟨its, r, pl, hz⟩ := I.list hq
    refine SeqAt.in_listAt (eqU x) pl.isList (fun w hw => mem_eqAt rx fx r fs w (by simpa using hw)) ⟨.bl _, H, I, rfl, ?_⟩
    rw [show its.toArray.any (eqU x) = its.any (eqU x) by simp, any_eqU r fs]
    exact q
  · obtain ⟨its, r, pl, hz⟩ := I.tuple hq
    refine SeqAt.in_tupleAt (eqU x) pl (fun w hw => mem_eqAt rx fx r fs w (by simpa using hw)) ⟨.bl _, H, I, rfl, ?_⟩
    rw [show its.toArray.any (eqU x) = its.any (eqU x) by simp, any_eqU r fs]
    exact q
theorem call_list_of : CallR X (.type "list") (fun xs H Q => ∃ p ys, xs = [.ref p] ∧ (SqL X.K H p ys ∨ SqT X.K H p ys) ∧ ∀ l, H l = none → Q (.ref l) (upd H l (.lst ys))) := by
  intro pins s σ H xs us Q I r h
  obtain ⟨p, ys, rfl, hq, q⟩ := h
  obtain ⟨u, rfl, rx⟩ := vals1 r
  cases rx
  have fin : ∀ (its : List Value), Vals ys its → ys.length ≤ sizeLine → ∀ (h' : Heap) (c' : Nat), (∀ b o', s.heap.get? b = some o' → h'.get? b = some o') →
      h'.get? s.heap.objs.size = some { cls := .type "list", dict := none, data := .seq its.toArray c', slots := #[] } → EP X pins σ Q (.ref s.heap.objs.size) { s with heap := h' } := fun its r' hz h' c' kp e =>
    ⟨.ref s.heap.objs.size, _, I.laid (t' := s.toks) kp (Nat.le_refl _) (show ObjOk X.prog X.w _ h' _ (.lst ys) from ⟨hz, its, c', r', e⟩), rfl, q _ (I.hok.fresh (Nat.le_refl _))⟩
  rcases hq with hq | hq
  · obtain ⟨its, r', pl, hz⟩ := I.list hq
    have hlen := r'.length
    obtain ⟨o, ho, hc, n, hd⟩ := pl.isList
    exact call_list_seq p (.inl rfl) ho hc hd (fun h' c' kp e => fin its r' hz h' c' kp e) (by simp only [List.size_toArray] <;> omega)
  · obtain ⟨its, r', pl, hz⟩ := I.tuple hq
    have hlen := r'.length
    obtain ⟨o, ho, hc, n, hd⟩ := pl
    exact call_list_seq p (.inr rfl) ho hc hd (fun h' c' kp e => fin its r' hz h' c' kp e) (by simp only [List.size_toArray] <;> omega)
theorem call_tuple_of : CallR X (.type "tuple") (fun xs H Q => ∃ p ys, xs = [.ref p] ∧ ((SqL X.K H p ys ∧ ∀ l, H l = none → Q (.ref l) (upd H l (.tup ys))) ∨ (SqT X.K H p ys ∧ Q (.ref p) H))) := by
  intro pins s σ H xs us Q I r h
  obtain ⟨p, ys, rfl, h⟩ := h
  obtain ⟨u, rfl, rx⟩ := vals1 r
  cases rx
  rcases h with ⟨hq, q⟩ | ⟨hq, q⟩
  · obtain ⟨its, r', pl, hz⟩ := I.list hq
    have hlen := r'.length
    refine call_tuple_list pl.isList (fun h' kp => ?_) (by simp only [List.size_toArray] <;> omega)
    have I1 : Inv X pins σ H { s with heap := h' } := I.kept (t' := s.toks) kp
    have I2 : Inv X pins σ (upd H h'.objs.size (.tup ys)) { s with heap := h'.push { cls := .type "tuple", data := .seq its.toArray } } :=
      I1.laid (t' := s.toks) (fun b o e => Heap.get?_push_of_some _ e) (Nat.le_refl _) (show ObjOk X.prog X.w _ _ _ (.tup ys) from ⟨hz, its, r', IsTup.new _ _⟩)
    exact ⟨.ref h'.objs.size, _, I2, rfl, q _ (I1.hok.fresh (Nat.le_refl _))⟩
  · obtain ⟨its, r', pl, hz⟩ := I.tuple hq
    exact call_tuple_same pl ⟨.ref p, H, I, rfl, q⟩
def tyV (K : PySem.W.Frag) (T : String) (x : V) (H : Hp) : Prop := match x with
  | .str _ => T = "str"
  | .int _ => T = "int"
  | .ref p => (T = "list" ∧ ∃ xs, SqL K H p xs) ∨ (T = "tuple" ∧ ∃ o, K.lookup p = some o ∧ o.cls = .type "tuple" ∧ o.dict = none) ∨
      (T = "dict" ∧ ((∃ kvs, H p = some (.dK kvs)) ∨ ∃ kvs, H p = some (.dT kvs))) ∨ (T = "set" ∧ ∃ S n, H p = some (.set S n))
  | _ => False
theorem tyV_is {pins : List (Addr × Obj)} {σ : St} {H : Hp} {s : Shared} {T : String} {x : V} {v : Value} (I : Inv X pins σ H s) (r : RelV x v) (ty : tyV X.K T x H) :
    s.TypeIs v T ∧ ∀ a, v = .ref a → ∃ ob, s.heap.get? a = some ob ∧ ob.dict = none := by
  cases x with
  | str z =>
    obtain ⟨t, rfl⟩ := r
    cases (show T = "str" from ty)
    exact ⟨typeIs_str s z t, fun _ e => nomatch e⟩
  | int i =>
    obtain ⟨t, rfl⟩ := r
    cases (show T = "int" from ty)
    exact ⟨typeIs_int s i t, fun _ e => nomatch e⟩
  | ref p =>
    cases r
    rcases ty with ⟨rfl, xs, hq⟩ | ⟨rfl, o, hk, hc, hd⟩ | ⟨rfl, hk⟩ | ⟨rfl, S, n, hk⟩
    · obtain ⟨its, _, pl, _⟩ := I.list hq
      refine ⟨pl.isList.typeIs, fun a e => ?_⟩
      cases e
      obtain ⟨o, n, e, c, hd, _⟩ := pl
      exact ⟨o, e, hd⟩
    · refine ⟨⟨o, I.kIn p o hk, hc⟩, fun a e => ?_⟩
      cases e
      exact ⟨o, I.kIn _ o hk, hd⟩
    · have z : ∃ o, s.heap.get? p = some o ∧ o.ExactDict := by
        rcases hk with ⟨kvs, hk⟩ | ⟨kvs, hk⟩
        · obtain ⟨_, _, _, _, o, _, _, e, ex, _⟩ := I.hok p _ hk
          exact ⟨o, e, ex⟩
        · obtain ⟨_, _, _, _, o, _, _, e, ex, _⟩ := I.hok p _ hk
          exact ⟨o, e, ex⟩
      obtain ⟨o, e, ex⟩ := z
      refine ⟨⟨o, e, ex.1⟩, fun a e2 => ?_⟩
      cases e2
      exact ⟨o, e, ex.2.1⟩
    · obtain ⟨o, _, _, _, e, ex, _⟩ := I.hok p _ hk
      refine ⟨⟨o, e, ex.1⟩, fun a e2 => ?_⟩
      cases e2
      exact ⟨o, e, ex.2.1⟩
  | _ => exact False.elim ty
def tBM0 (K : PySem.W.Frag) (T : String) (r : V → List V → Hp → VK → Prop) (to : TE) : TE := fun σ H Q => to σ H fun x H1 => tyV K T x H1 ∧ r x [] H1 Q
def tBM (K : PySem.W.Frag) (T : String) (r : V → List V → Hp → VK → Prop) (to : TE) (t : TA) : TE := fun σ H Q => to σ H fun x H1 => tyV K T x H1 ∧ t σ H1 fun xs H2 => r x xs H2 Q
variable {o e : Expr} {es : List Expr} {to : TE} {t : TA} {name : Str} {apos cpos : Pos} {T id : String} {r : V → List V → Hp → VK → Prop}
theorem pe_bm0 (pa : PlainAttrs T) (slot : Slot T name id) (hty : typeOf (.builtin id) = pure (.type "method_descriptor")) (hm : MtR X id r) (ho : PE X o to)
    (hbase : attributeBase o name X.env (eval o X.env) = eval o X.env := by rfl) (hline : (apos.endLine == cpos.line) = true := by rfl) : PE X (.Call (.Attribute o name apos) [] [] cpos) (tBM0 X.K T r to) := by
  intro pins s σ H Q I h
  refine wpAny_Call_method0_late hbase hline (thn (ho pins s σ H _ I h) fun v s1 ⟨x, H1, I1, r1, ty, q1⟩ => ?_)
  obtain ⟨h1, h2⟩ := tyV_is I1 r1 ty
  exact ⟨T, id, pa, slot, hty, h1, h2, Calls.callWith_builtin rfl (PySem.evalArgs_none (hm pins s1 σ H1 x [] v [] Q I1 r1 .nil q1))⟩
theorem pe_bm (pa : PlainAttrs T) (slot : Slot T name id) (hty : typeOf (.builtin id) = pure (.type "method_descriptor")) (hm : MtR X id r) (ho : PE X o to) (ha : PA X (e :: es) t)
    (hbase : attributeBase o name X.env (eval o X.env) = eval o X.env := by rfl)
    (hfew : ((backTo cpos (starEach (e :: es) X.env)).all (fun x => !x.1) && (backToKw cpos (keywordEach [] X.env)).all (fun x => x.1.isSome)
      && decide ((e :: es).length + ([] : List Keyword).length + (if ([] : List Keyword).isEmpty then 0 else 1) < 30)) = true := by rfl)
    (hline : (apos.endLine == cpos.line) = true := by rfl) (hs : starEach (e :: es) X.env = (false, eval e X.env) :: starEach es X.env := by rfl) (hplain : (backTo cpos (starEach es X.env)).any (·.1) = false := by rfl) :
    PE X (.Call (.Attribute o name apos) (e :: es) [] cpos) (tBM X.K T r to t) := by
  intro pins s σ H Q I h
  refine wpAny_Call_method_late hbase hfew hline rfl (thn (ho pins s σ H _ I h) fun v s1 ⟨x, H1, I1, r1, ty, q1⟩ => ?_)
  obtain ⟨h1, h2⟩ := tyV_is I1 r1 ty
  refine ⟨T, id, pa, slot, hty, h1, h2, ?_⟩
  have hA := ha cpos pins s1 σ H1 _ I1 q1
  rw [hs] at hA ⊢
  refine Calls.callWith_builtin (by show (false || (backTo cpos (starEach es X.env)).any (·.1)) = false; rw [hplain] <;> rfl) (Calls.evalArgs_plain ?_)
  exact thn hA fun us s2 ⟨vs, H2, I2, r2, q2⟩ => hm pins s2 σ H2 x vs v us Q I2 r1 r2 q2
/- xs.append(e), list.index on a module's tuple .. are MtR facts of 06m -/
end
end L2
namespace L2
open PySem PySem.Spec PyProof.Rows
def MtM (X : Cx) (id : String) (r : V → List V → Hp → VK → Prop) : Prop :=
  ∀ (pins : List (Addr × Obj)) (s : Shared) (σ : St) (H : Hp) (x : V) (xs : List V) (v : Value) (us : List Value) (Q : VK), Inv X pins σ H s → RelV x v → Vals xs us → r x xs H Q →
    wpAny (model X.prog X.w) X.A (call (.builtin id) (v :: us)) (EP X pins σ Q) X.xe s
theorem Vals.one : ∀ {x : V} {us : List Value}, Vals [x] us → ∃ u, us = [u] ∧ RelV x u
  | _, _, .cons r .nil => ⟨_, rfl, r⟩
theorem Vals.zero : ∀ {us : List Value}, Vals [] us → us = []
  | _, .nil => rfl
theorem Vals.dropLast {xs : List V} {us : List Value} (h : Vals xs us) : Vals xs.dropLast us.dropLast := by
  induction h with
  | nil => exact .nil
  | cons r t ih =>
    cases t with
    | nil => exact .nil
    | cons q t' => exact .cons r ih
theorem Vals.eraseIdx : ∀ {xs : List V} {us : List Value} (i : Nat), Vals xs us → Vals (xs.eraseIdx i) (us.eraseIdx i)
  | _, _, _, .nil => .nil
  | _, _, 0, .cons _ t => t
  | _, _, i + 1, .cons r t => .cons r (Vals.eraseIdx i t)
theorem Vals.rep {xs : List V} {us : List Value} (h : Vals xs us) : ∀ k : Nat, Vals (List.replicate k xs).flatten (List.replicate k us).flatten
  | 0 => .nil
  | k + 1 => by
    rw [List.replicate_succ, List.replicate_succ, List.flatten_cons, List.flatten_cons]
    exact Vals.append h (Vals.rep h k)
theorem erase_last {α : Type} (l : List α) : l.eraseIdx (l.length - 1) = l.dropLast := by
  induction l with
  | nil => rfl
  | cons a r ih =>
    cases r with
    | nil => rfl
    | cons b r =>
      have e : (a :: b :: r).length - 1 = ((b :: r).length - 1) + 1 := by
        have h1 : (a :: b :: r).length = r.length + 2 := rfl
        have h2 : (b :: r).length = r.length + 1 := rfl
        omega
      rw [e, List.eraseIdx_cons_succ, ih]
      all_goals rfl
section
variable {X : Cx} {pins : List (Addr × Obj)} {σ : St} {H : Hp} {s : Shared} {l b : Addr} {xs ys zs : List V}
theorem Inv.lset {its its' : List Value} {n : Nat} {f : Array Value → Array Value} {t' : Nat} (I : Inv X pins σ H s) (hH : H l = some (.lst xs))
    (e : s.heap.get? l = some { cls := .type "list", data := .seq its.toArray n }) (hf : f its.toArray = its'.toArray) (hv : Vals ys its') (hz : ys.length ≤ sizeLine) :
    Inv X pins σ (upd H l (.lst ys)) { s with heap := s.heap.update l (Obj.mapSeq f), toks := t' } := by
  have q := PySem.IsL.update e f
  rw [hf] at q
  refine I.write (x := l) (e := l) (by rw [hH]; exact trivial) (.inl rfl) (fun b' u hb hu => (Heap.get?_update_other s.heap (Obj.mapSeq f) (Ne.symm hb)).trans hu) ⟨_, q⟩ ?_
  exact ⟨hz, its', _, hv, q⟩
theorem Inv.lnew {its : List Value} {t' : Nat} (I : Inv X pins σ H s) (hv : Vals ys its) (hz : ys.length ≤ sizeLine) :
    Inv X pins σ (upd H s.heap.objs.size (.lst ys)) { s with heap := s.heap.push { cls := .type "list", data := .seq its.toArray }, toks := t' } :=
  I.laid (fun _ _ q => Heap.get?_push_of_some _ q) (Nat.le_refl _) ⟨hz, its, 0, hv, Heap.get?_push_size _ rfl⟩
theorem Inv.fresh (I : Inv X pins σ H s) : H s.heap.objs.size = none := I.hok.fresh (Nat.le_refl _)
theorem Inv.lstM (I : Inv X pins σ H s) (hH : H l = some (.lst xs)) : xs.length ≤ sizeLine ∧ ∃ (its : List Value) (n : Nat), Vals xs its ∧ xs.length = its.length ∧ s.heap.get? l = some { cls := .type "list", data := .seq its.toArray n } := by
  obtain ⟨z, its, n, r, e⟩ := I.hok l _ hH
  exact ⟨z, its, n, r, r.length, e⟩
end
section
variable {X : Cx}
def rAppend : V → List V → Hp → VK → Prop := fun x vs H Q => ∃ l xs y, x = .ref l ∧ vs = [y] ∧ H l = some (.lst xs) ∧ xs.length < sizeLine ∧ Q .non (upd H l (.lst (xs ++ [y])))
theorem mt_append : MtM X "list.append" rAppend := by
  intro pins s σ H x vs v us Q I rx rv h
  obtain ⟨l, xs, y, rfl, rfl, hH, hz, q⟩ := h
  cases rx
  obtain ⟨u, rfl, ru⟩ := rv.one
  obtain ⟨z, its, n, r, hl, e⟩ := I.lstM hH
  refine call_meets F.slot_list_append ⟨_, e, rfl⟩ F.entry_list_append (F.args_list_append_2 _ _) (PySem.list_append l its.toArray n u (by rw [List.size_toArray]; omega)) ⟨e, ?_⟩
  refine ⟨.non, _, I.lset (its' := its ++ [u]) hH e (by simp) (r.append (.cons ru .nil)) ?_, rfl, q⟩
  rw [List.length_append, List.length_singleton]
  omega
def rPop : V → List V → Hp → VK → Prop := fun x vs H Q => ∃ l xs y, x = .ref l ∧ vs = [] ∧ H l = some (.lst xs) ∧ xs[xs.length - 1]? = some y ∧ Q y (upd H l (.lst xs.dropLast))
theorem mt_pop : MtM X "list.pop" rPop := by
  intro pins s σ H x vs v us Q I rx rv h
  obtain ⟨l, xs, y, rfl, rfl, hH, hy, q⟩ := h
  cases rx
  have hus := rv.zero
  subst hus
  obtain ⟨z, its, n, r, hl, e⟩ := I.lstM hH
  obtain ⟨u, hu, ru⟩ := r.get hy
  have hy' : its.toArray[its.toArray.size - 1]? = some u := by
    show its.toArray[its.length - 1]? = some u
    rw [← Array.getElem?_toList, ← hl]
    exact hu
  refine call_meets F.slot_list_pop ⟨_, e, rfl⟩ F.entry_list_pop (F.args_list_pop_1 _) (MeetsSeq.list_pop_last l its.toArray n u hy' (by rw [List.size_toArray]; omega)) ⟨e, ?_⟩
  refine ⟨y, _, I.lset (its' := its.dropLast) hH e ?_ r.dropLast ?_, ru, q⟩
  · show its.toArray.eraseIdxIfInBounds (its.toArray.size - 1) = its.dropLast.toArray
    rw [List.size_toArray, List.eraseIdxIfInBounds_toArray, erase_last]
  · rw [List.length_dropLast]
    omega
def rClear : V → List V → Hp → VK → Prop := fun x vs H Q => ∃ l xs, x = .ref l ∧ vs = [] ∧ H l = some (.lst xs) ∧ Q .non (upd H l (.lst []))
theorem mt_clear : MtM X "list.clear" rClear := by
  intro pins s σ H x vs v us Q I rx rv h
  obtain ⟨l, xs, rfl, rfl, hH, q⟩ := h
  cases rx
  have hus := rv.zero
  subst hus
  obtain ⟨z, its, n, r, hl, e⟩ := I.lstM hH
  refine call_meets F.slot_list_clear ⟨_, e, rfl⟩ F.entry_list_clear (F.args_list_clear_1 _) (AutoSeq1.list_clear_list_0 l its.toArray n (by rw [List.size_toArray]; omega)) ⟨e, ?_⟩
  exact ⟨.non, _, I.lset (its' := []) (ys := []) hH e rfl .nil (Nat.zero_le _), rfl, q⟩
end
section
variable {prog : Program} {w : World} {A : Around} {E : Value → Shared → Prop} {s : Shared}
end
section
variable {X : Cx}
end
end L2
namespace Att
open PySem PySem.W PySem.Calls PyProof.Rows
theorem ints_of_wellAll {P : Params} {h : Heap} : ∀ (ns : List Int) (vs : List Value), WellAll P h vs (ns.map WData.int) → IntsAre vs ns := by
  intro ns
  induction ns with
  | nil =>
    intro vs w
    rw [List.map_nil] at w
    cases w
    exact .nil
  | cons n ns ih =>
    intro vs w
    rw [List.map_cons] at w
    cases w with
    | cons a b =>
      cases a
      exact .cons _ _ (ih _ b)
theorem script_of {l : OpenLaw} {n : Nat} (hn : l.most = some n) {P : Params} {h : Heap} {args : List WData} {vals : List Value}
    (hpre : l.row.toRowW.claim.pre args = true) (hwl : WellAll P h vals args) :
    ∃ a vs ns, vals = [Value.ref a] ∧ args = [WData.list (ns.map WData.int)] ∧ h.get? a = some { cls := .type "list", data := .seq vs.toArray } ∧ IntsAre vs ns ∧ ns.length ≤ n := by
  have hsh : WShape.hasAll [] args [.list .int] = true := (pre_splitW hpre).1
  have hc : l.pre.holds [] { args := args } = true := (pre_splitW hpre).2
  obtain ⟨d, r, rfl, h1, h2⟩ := hasAllW_cons hsh
  obtain rfl := hasAllW_nil h2
  obtain ⟨xs, rfl, h3⟩ := hasW_list h1
  obtain ⟨ns, rfl⟩ := items_int h3
  have hlen : ns.length ≤ n := by
    unfold OpenLaw.pre at hc
    have h4 : (WTm.not (.lt (.lit (.int (n : Int))) (.len (.arg 0)))).holds [] { args := [.list (ns.map .int)] } = true := by
      have h4 := (holds_andW hc).1
      rw [hn] at h4
      exact h4
    have h5 := condW_of h4 (w_not (w_lt w_lit (w_len_list (w_arg rfl))))
    rw [List.length_map] at h5
    refine Nat.le_of_not_lt fun q => ?_
    have q' : (n : Int) < ((ns.length : Nat) : Int) := by omega
    first
      | (rw [decide_eq_true q'] at h5; exact absurd h5 (by decide))
      | (simp at h5; omega)
  cases hwl with
  | cons w1 w2 =>
    cases w2
    cases w1 with
    | list ho hall => exact ⟨_, _, ns, rfl, rfl, ho, ints_of_wellAll ns _ hall, hlen⟩
theorem post_true (l : OpenLaw) (args : List WData) : l.row.toRowW.claim.post args (.bool true) args = true :=
  postW_of (r := l.row.toRowW) (X := (true == true))
    (show WShape.has [] (.bool true) .bool = true by first | rfl | decide | simp [WShape.has, WShape.arms, WShape.armsAll])
    (show (WTm.eq .res (.lit (.bool true))).value [] { args := args, res := some (.bool true), after := args } = some (.bool (true == true)) from w_eq_bool (w_res rfl) w_lit) rfl
theorem attach_call {l : OpenLaw} {n : Nat} {q : Program} {loose : List Str} {XP : (Str → Option Value) → Heap → Prop} {YP : World → Heap → Prop} {d : DefRec}
    (hn : l.most = some n) (hdf : d.params.defaults = [])
    (call : ∀ (w : World) (s₀ s₁ : Shared) (mg mb : Str → Option Value) (fa : Addr) (o : Obj) (pm cd doc : Value) (a : Addr) (vs : List Value) (ns : List Int),
      Ground q loose [] XP w s₀ mg mb s₁.heap → YP w s₁.heap →
      s₁.heap.get? fa = some o → o.data = .func (docDef d.name d.params d.body d.scope pm cd doc) → s₁.heap.CodeRec cd d.name → mg d.name = some (.ref fa) →
      s₁.heap.get? a = some { cls := .type "list", data := .seq vs.toArray } → IntsAre vs ns → ns.length ≤ n → s₁.gens = #[] →
      codeAny (model l.prog w) callerA (.call (.ref fa) ⟨[.ref a], []⟩) (fun r s' => r = .ok (.ret (.bool true)) ∧ OldK s₁.heap s'.heap ∧ s'.os = s₁.os ∧ AllBare s'.gens) s₁) :
    WalkO q loose XP YP l.row.toRowW d [] (fun f vs => PySem.call f vs) := by
  intro w s₀ s₁ mg mb G Y fa o pm cd doc dV kV ho hd hcd hD hmg hg args vals as hpre hlay hrd hwl hlo
  obtain rfl : dV = .none := Dflts.none hD hdf
  obtain rfl : kV = .none := Dflts.noKw hD
  obtain ⟨a, vs, ns, rfl, rfl, hobj, hints, hlen⟩ := script_of hn hpre hwl
  refine enter_call (codeAny_mono (call w s₀ s₁ mg mb fa o pm cd doc a vs ns G Y ho (fd_plain hd) hcd hmg hobj hints hlen hg) fun r s' hq => ?_)
  obtain ⟨rfl, h2, h3, h4⟩ := hq
  exact ⟨.inl ⟨.bool true, .bool true, [], rfl, fun _ => rfl, .bool true, post_true l _, fun _ => ⟨List.Pairwise.nil, fun _ hm => (nomatch hm)⟩⟩, h2, h3, h4⟩
section
variable {prog : Program} {w : World} {A : Around} {E : Value → Shared → Prop} {s : Shared} {K : Frag}
def ledger (h : Heap) (L d : Addr) : List (Addr × Obj) := (List.range h.objs.size).filterMap fun a => if a = L ∨ a = d then none else (h.get? a).map fun o => (a, o)
end
end Att
namespace L2
open PySem PySem.Spec PyProof.Rows
theorem vals_ints : ∀ {vs : List Value} {ns : List Int}, IntsAre vs ns → Vals (ns.map V.int) vs
  | _, _, .nil => .nil
  | _, _, .cons n t h => .cons ⟨t, rfl⟩ (vals_ints h)
def Only (H : Hp) : Prop := ∀ b, H b = none ∨ ∃ o xs, H b = some (.frz o (.lst xs))
theorem law_call {P : Program} {w : World} {K : PySem.W.Frag} {mg mb : Str → Option Value} {CX : CXT} {k : Nat} {fa a : Addr} {fd : FuncData} {x : Str} {sp : Sp} {s₁ : Shared} {vs : List Value} {ns : List Int}
    (KX : K.In s₁.heap) (hns : s₁.heap.Ns mainGlobals mg) (hb : s₁.heap.Ns builtinsNs mb) (hbb : ∀ x : Str, x ≠ "__name__" → mb x = bootBuiltins x) (hlim : s₁.heap.NoLimit) (hg : s₁.gens = #[])
    (ha : s₁.heap.get? a = some { cls := .type "list", data := .seq vs.toArray }) (hi : IntsAre vs ns) (hl : ns.length ≤ sizeLine) (hr : Room k callerA)
    (F : ∀ base : Heap, K.In base → base.Ns mainGlobals mg → FnOk P w K mg base CX k fa fd [x] sp) (hbind : ∀ (s : Shared) (u : Value), BindsTo s fd ⟨[u], []⟩ [(x, u)])
    (hsp : ∀ H : Hp, Only H → SqL K H a (ns.map V.int) → sp [.ref a] H (fun v _ => v = .bl true) fun _ _ _ => False)
    (hCX : ∀ H e s', CX [] H s₁ (fun _ _ _ => False) e s' → False) :
    codeAny (model P w) callerA (.call (.ref fa) ⟨[.ref a], []⟩) (fun r s' => r = .ok (.ret (.bool true)) ∧ OldK s₁.heap s'.heap ∧ s'.os = s₁.os ∧ AllBare s'.gens) s₁ := by
  have rv := vals_ints hi
  have lenV := hi.length
  have core : ∀ H : Hp, Only H → SqL K H a (ns.map V.int) → HOk P w H s₁.heap → (∀ b, H b ≠ none → b = a) → (H a ≠ none → K.lookup a = none) →
      codeAny (model P w) callerA (.call (.ref fa) ⟨[.ref a], []⟩) (fun r s' => r = .ok (.ret (.bool true)) ∧ OldK s₁.heap s'.heap ∧ s'.os = s₁.os ∧ AllBare s'.gens) s₁ := by
    intro H hO hS hok hA hK
    have base_of : ∀ {b : Addr} {o : Obj}, s₁.heap.get? b = some o → H b = none → (hidT s₁.heap H).get? b = some o := fun e n => hidT_get e n
    have noA : ∀ {b : Addr} {o : Obj} {es : Array DictEntry} {ep : Nat}, s₁.heap.get? b = some o → o.data = .dict es ep → H b = none := fun {b o es ep} e d => by
      cases q : H b with
      | none => rfl
      | some u =>
        have e' : b = a := hA b (by rw [q]; simp)
        subst e'
        rw [ha] at e; cases e
        have d' : Data.seq vs.toArray _ = Data.dict es ep := d
        cases d'
    have nsK : ∀ {b : Addr} {m : Str → Option Value}, s₁.heap.Ns b m → (hidT s₁.heap H).Ns b m := fun {b m} ⟨o, es, ep, e, d, r⟩ => ⟨o, es, ep, base_of e (noA e d), d, r⟩
    have hKb : K.In (hidT s₁.heap H) := fun b o e => base_of (KX b o e) (by
      cases q : H b with
      | none => rfl
      | some u =>
        have e' : b = a := hA b (by rw [q]; simp)
        subst e'
        rw [hK (by rw [q]; simp)] at e; cases e)
    have hM : Mod K mg (hidT s₁.heap H) := ⟨hKb, nsK hns, ⟨mb, nsK hb, hbb⟩, let ⟨mc, h1, h2⟩ := hlim; ⟨mc, nsK h1, h2⟩⟩
    have e0 : Env0 P w K mg (hidT s₁.heap H) callerA [] s₁ H := ⟨rfl, hM, fun b o e => of_hidT e, Nat.le_of_eq (hidT_size _ _), trivial, fun b hb => absurd (show b ∈ ([] : List Addr) from hb) (by simp), hok, .of_eq hg⟩
    refine codeAny_mono ((F _ hKb (nsK hns)).run callerA [] s₁ H ⟨[.ref a], []⟩ [.ref a] [.ref a] _ _ hr e0 (hbind s₁ (.ref a)) (.cons rfl .nil) (hsp H hO hS)) fun r s' h => ?_
    cases r with
    | error e => exact (hCX H e s' h).elim
    | ok fl =>
      cases fl with
      | next => exact False.elim h
      | brk => exact False.elim h
      | cont => exact False.elim h
      | ret u =>
        obtain ⟨v, H', os, bare, un, hok', r', q⟩ := h
        have q' : v = .bl true := q
        subst q'
        obtain rfl : u = Value.bool true := r'
        refine ⟨rfl, OldK.of_keep fun b o e => ?_, os, bare⟩
        cases q : H b with
        | none => exact un.keep b o e q (by intro z; exact absurd (show b ∈ ([] : List Addr) from z) (by simp)) (by simp)
        | some u =>
          rcases hO b with z | ⟨ob, xs, z⟩
          · rw [q] at z; cases z
          · have z2 := un.frzs b ob _ z
            obtain ⟨e1, _⟩ := hok b _ z
            obtain ⟨e2, _⟩ := hok' b _ z2
            rw [e] at e1; cases e1
            exact e2
  cases hk : K.lookup a with
  | some o =>
    have e := KX a o hk
    rw [ha] at e
    cases e
    refine core (fun _ => none) (fun _ => .inl rfl) (.inr ⟨_, vs.toArray, _, hk, rfl, rfl, rfl, by rw [List.size_toArray, lenV]; exact hl, by simpa using rv⟩) (fun b u z => by have z' : (none : Option HO) = some u := z; cases z') (fun b z => absurd rfl z) fun z => absurd rfl z
  | none =>
    refine core (fun b => if b = a then some (.frz { cls := .type "list", data := .seq vs.toArray } (.lst (ns.map V.int))) else none) (fun b => ?_) (.inl (.inr ⟨{ cls := .type "list", data := .seq vs.toArray }, if_pos rfl⟩)) (fun b u z => ?_) (fun b z => ?_) fun _ => hk
    · by_cases hb : b = a
      · exact .inr ⟨_, _, if_pos hb⟩
      · exact .inl (if_neg hb)
    · by_cases hb : b = a
      · have z' := (if_pos hb).symm.trans z
        cases z'
        subst hb
        exact ⟨ha, by rw [List.length_map]; exact hl, vs, _, rv, ha⟩
      · have z' := (if_neg hb).symm.trans z
        cases z'
    · by_cases hb : b = a
      · exact hb
      · exact absurd (if_neg hb) z
end L2
namespace L2
open PySem PySem.Spec PyProof.Rows
theorem walk_of {l : PySem.W.OpenLaw} {n k : Nat} {q : Program} {loose : List Str} {XP : (Str → Option Value) → Heap → Prop} {YP : World → Heap → Prop} {d : DefRec} {K : Params → PySem.W.Frag} {CX : World → CXT} {sp : World → Sp} {x : Str}
    (hn : l.most = some n) (hn2 : n ≤ sizeLine) (hdf : d.params.defaults = []) (hr : Room k callerA)
    (hY : ∀ (w : World) (h : Heap), YP w h → (K w.params).In h)
    (F : ∀ (w : World) (mg : Str → Option Value) (fa : Addr) (h : Heap), (K w.params).In h → h.Ns mainGlobals mg → mg d.name = some (.ref fa) →
      ∃ fd : FuncData, (∀ (s : Shared) (u : Value), BindsTo s fd ⟨[u], []⟩ [(x, u)]) ∧
        ∀ base : Heap, (K w.params).In base → base.Ns mainGlobals mg → FnOk l.prog w (K w.params) mg base (CX w) k fa fd [x] (sp w))
    (hsp : ∀ (w : World) (H : Hp) (a : Addr) (ns : List Int), ns.length ≤ n → Only H → SqL (K w.params) H a (ns.map V.int) → sp w [.ref a] H (fun v _ => v = .bl true) fun _ _ _ => False)
    (hCX : ∀ (w : World) (H : Hp) (s : Shared) (e : Value) (s' : Shared), CX w [] H s (fun _ _ _ => False) e s' → False) :
    PySem.W.WalkO q loose XP YP l.row.toRowW d [] (fun f vs => PySem.call f vs) := by
  refine Att.attach_call hn hdf fun w s₀ s₁ mg mb fa o pm cd doc a vs ns G Y ho hd hcd hmg hobj hints hlen hg => ?_
  have KX := hY w _ Y
  obtain ⟨fd, hb, hF⟩ := F w mg fa _ KX G.T.g hmg
  exact law_call KX G.T.g G.T.b G.T.builtins G.T.nolimit hg hobj hints (Nat.le_trans hlen hn2) hr hF hb (fun H hO hS => hsp w H a ns hlen hO hS) fun H e s' => hCX w H s₁ e s'
end L2
/- THE LAST THEOREM (shape; LID, My.* are yours):
   My.Adr: a structure of the addresses that your layer names (classes, functions); My.Txt K t: a structure (Prop) of the equations over K;
   My.txt_mk : {K} {implicit addresses ..} (e1 : nsIn K mainGlobals "law" = some (some (.ref f))) (e2 : K.lookup f = some ⟨oc, od, .func (fnOf "law" "law" params body scope dV kV doc pm an cdv ct), sl⟩) (e3 : codeIn K cdv "law" = true) .. : ∃ t, My.Txt K t
set_option maxRecDepth 100000 in
set_option maxHeartbeats 0 in
theorem PySem.Challenge.cw_LID_holds : PySem.Challenge.rw_LID.Holds := by
  w_on; o_law; k_head; (case hw => w_witness2)
  k_fill
  refine L2.walk_of (l := PySem.Challenge.rw_LID) (n := 63) (k := 40) (x := "script") (CX := fun w => ..) (sp := fun _ => My.sp_law) rfl (by decide) rfl ⟨rfl, by decide, by decide⟩ (fun w h Y => PySem.W.kIn_of Y) ?F ?S ?C
  case F =>
    intro w mg fa h KX G hmg
    have T : ∃ t, My.Txt (L2.KOf KX) t := by
      dsimp only [L2.KOf]                          -- K must stand as «<heap const> w.params» for k_is
      refine' My.txt_mk ?e1 ?e2 ?e3 ..
      (case e1 => PySem.W.k_is)                    -- in the order: a name -> its address -> its object -> its parts
      (case e2 => PySem.W.k_is)
      ..
    obtain ⟨t, T⟩ := T
    have e0 := hmg.symm.trans (PySem.W.mg_of KX G T.law)
    cases e0                                       -- fa is the law's own address
    exact ⟨_, fun s u => .of_eq rfl, fun base kb nb => My.law_fn T kb nb⟩     -- if «.of_eq rfl» comes too early: refine' ⟨_, ?b, fun base kb nb => My.law_fn T kb nb⟩; exact fun s u => .of_eq rfl
  case S => exact fun w H a ns hl hO hS => ..
  case C => exact ..
(the tactic k_is has no namespace: write k_is) -/
namespace L2
open PySem PySem.Spec PyProof.Rows
def defArgs (s : Stmt) : Arguments := match s with
  | .FunctionDef _ a _ _ _ _ _ _ _ _ => a
  | _ => { posonlyargs := [], args := [], vararg := none, kwonlyargs := [], kw_defaults := [], kwarg := none, defaults := [] }
def defBody (s : Stmt) : List Stmt := match s with
  | .FunctionDef _ _ b _ _ _ _ _ _ _ => b
  | _ => []
def defScope (s : Stmt) : Scope := match s with
  | .FunctionDef _ _ _ _ _ _ sc _ _ _ => sc
  | _ => { kind := .function, names := [], isGenerator := false, isCoroutine := false }
abbrev CX0 : CXT := fun _ _ _ _ _ _ => False
abbrev E0 : XK := fun _ _ _ => False
theorem pass0 {X : Cx} : Passes CX0 X E0 := fun _ _ _ _ _ _ _ h => h.elim
structure Fun (K : PySem.W.Frag) (x qual : Str) (st : Stmt) (f : Addr) (fd : FuncData) : Prop where
  ex : ∃ (oc : Value) (od : Option Addr) (kV doc pm : Value) (an : Option Addr) (cdv ct : Value) (osl : Array (Option Value)),
    fd = PySem.W.fnOf x qual (defArgs st) (defBody st) (defScope st) .none kV doc pm an cdv ct ∧ K.lookup f = some ⟨oc, od, .func fd, osl⟩ ∧ PySem.W.codeIn K cdv qual = true
  kp : PySem.W.keepIn K (.ref f) = true
section
variable {P : Program} {w : World} {K : PySem.W.Frag} {mg : Str → Option Value} {base : Heap}
theorem Fun.ok {x qual : Str} {st : Stmt} {f : Addr} {fd : FuncData} {N ps : List Str} {k : Nat} {sp : Sp} (F : Fun K x qual st f fd) (S : FnScope N ps (defScope st)) (len : ∀ vs H Q E, sp vs H Q E → vs.length = ps.length)
    (hbody : ∀ (cdv : Value) (A : Around) (outer : List Env) (s : Shared) (H : Hp) (vs : List V) (Q : VK) (E : XK), Room k (A.deeper (envOfC qual (defScope st) s.heap.objs.size f cdv)) → sp vs H Q E →
      ∃ t, PSs (cxOf CX0 P w K mg base N qual (defScope st) f cdv A outer s H E).nox (defBody st) t ∧ t { nx := fun _ H' => Q .non H', rt := Q } (start N vs) H) : FnOk P w K mg base CX0 (k + 1) f fd ps sp := by
  obtain ⟨oc, od, kV, doc, pm, an, cdv, ct, osl, rfl, lk, hcd⟩ := F.ex
  refine fn_of lk hcd S len fun A outer s H vs Q E hr hsp => ?_
  obtain ⟨t, h, q⟩ := hbody cdv A outer s H vs Q E hr hsp
  exact ⟨t, h.nox, q⟩
theorem Fun.binds {x qual : Str} {st : Stmt} {f : Addr} {fd : FuncData} {ps : List Str} (F : Fun K x qual st f fd)
    (h : ∀ (kV doc pm : Value) (an : Option Addr) (cdv ct : Value) (us : List Value), us.length = ps.length → bindArgs (PySem.W.fnOf x qual (defArgs st) (defBody st) (defScope st) .none kV doc pm an cdv ct) ⟨us, []⟩ = pure (ps.zip us)) : Binds K fd ps [] := by
  obtain ⟨oc, od, kV, doc, pm, an, cdv, ct, osl, rfl, lk, hcd⟩ := F.ex
  exact .all (h kV doc pm an cdv ct)
theorem fun_mk {x qual : Str} {st : Stmt} {f : Addr} {oc : Value} {od an : Option Addr} {osl : Array (Option Value)} {kV doc pm cdv ct : Value} (l : K.lookup f = some ⟨oc, od, .func (PySem.W.fnOf x qual (defArgs st) (defBody st) (defScope st) .none kV doc pm an cdv ct), osl⟩)
    (c : PySem.W.codeIn K cdv qual = true) (k : PySem.W.keepIn K (.ref f) = true) : Fun K x qual st f (PySem.W.fnOf x qual (defArgs st) (defBody st) (defScope st) .none kV doc pm an cdv ct) := ⟨⟨oc, od, kV, doc, pm, an, cdv, ct, osl, rfl, l, c⟩, k⟩
end
theorem hu_of {A : Around} {k : Nat} (hr : Room k A) : A.units + 1 < cLine := Nat.lt_of_le_of_lt (Nat.add_le_add_left (by decide : 1 ≤ 64) _) hr.units
section
variable {X : Cx}
end
theorem iteF {A B : Prop} (h : B) : if false = true then A else B := by
  rw [if_neg Bool.false_ne_true]
  exact h
theorem iteT {A B : Prop} (h : A) : if true = true then A else B := by
  rw [if_pos rfl]
  exact h
def Same (H H' : Hp) : Prop := ∀ b o, H b = some o → H' b = some o
theorem Same.refl (H : Hp) : Same H H := fun _ _ h => h
theorem Same.trans {H H1 H2 : Hp} (a : Same H H1) (b : Same H1 H2) : Same H H2 := fun c o h => b c o (a c o h)
theorem Same.free {H H' : Hp} (e : Same H H') {l : Addr} (h : H' l = Option.none) : H l = Option.none := by
  cases q : H l with
  | none => rfl
  | some o =>
    rw [e l o q] at h
    cases h
theorem Same.seq {K : PySem.W.Frag} {H H' : Hp} {a : Addr} {xs : List V} (e : Same H H') (h : SqL K H a xs) : SqL K H' a xs := by
  rcases h with (h | ⟨o, h⟩) | h
  · exact .inl (.inl (e _ _ h))
  · exact .inl (.inr ⟨o, e _ _ h⟩)
  · exact .inr h
end L2
set_option maxHeartbeats 4000000
namespace L2
open PySem PySem.Spec PyProof.Rows
section
variable {κ : Type} [DecidableEq κ]
def valV (kvs : List (κ × V)) (k : κ) : Option V := (kvs.find? fun kv => decide (kv.1 = k)).map (·.2)
def putK (kvs : List (κ × V)) (k : κ) (v : V) : List (κ × V) :=
  if (kvs.any fun kv => decide (kv.1 = k)) = true then kvs.map (fun kv => if kv.1 = k then (kv.1, v) else kv) else kvs ++ [(k, v)]
def dropK (kvs : List (κ × V)) (k : κ) : List (κ × V) := kvs.filter fun kv => decide (kv.1 ≠ k)
theorem valV_pos {p : κ × V} {r : List (κ × V)} {k : κ} (e : p.1 = k) : valV (p :: r) k = some p.2 := by simp [valV, List.find?_cons, e]
theorem valV_neg {p : κ × V} {r : List (κ × V)} {k : κ} (e : ¬ p.1 = k) : valV (p :: r) k = valV r k := by simp [valV, List.find?_cons, e]
theorem valV_any (k : κ) : ∀ kvs : List (κ × V), (kvs.any fun kv => decide (kv.1 = k)) = (valV kvs k).isSome
  | [] => rfl
  | p :: r => by
    rw [List.any_cons]
    by_cases e : p.1 = k
    · simp only [valV_pos e, decide_eq_true e, Bool.true_or, Option.isSome_some]
    · rw [valV_neg e, decide_eq_false e, Bool.false_or]; exact valV_any k r
theorem RelO.isSome_eq {o : Option V} {u : Option Value} (r : RelO o u) : o.isSome = u.isSome := by
  cases o with
  | none => cases u with
    | none => rfl
    | some _ => exact (show False from r).elim
  | some _ => cases u with
    | none => exact (show False from r).elim
    | some _ => rfl
theorem RelO.getD {o : Option V} {u : Option Value} {d : V} {d' : Value} (r : RelO o u) (rd : RelV d d') : RelV (o.getD d) (u.getD d') := by
  cases o with
  | none => cases u with
    | none => exact rd
    | some _ => exact (show False from r).elim
  | some _ => cases u with
    | none => exact (show False from r).elim
    | some _ => exact r
theorem KV.val {kvs : List (κ × V)} {vs : List (κ × Value)} (r : KV kvs vs) (k : κ) : RelO (valV kvs k) (valueAt vs k) := by
  unfold KV at r
  induction r with
  | nil => exact True.intro
  | @cons p q ps qs h t ih =>
    obtain ⟨h1, h2⟩ := h
    by_cases e : p.1 = k
    · have e' : q.1 = k := h1.symm.trans e
      have b : valueAt (q :: qs) k = some q.2 := by simp [valueAt, List.find?_cons, e']
      rw [valV_pos e, b]; exact h2
    · have e' : ¬ q.1 = k := fun z => e (h1.trans z)
      have b : valueAt (q :: qs) k = valueAt qs k := by simp [valueAt, List.find?_cons, e']
      rw [valV_neg e, b]; exact ih
theorem KV.any {kvs : List (κ × V)} {vs : List (κ × Value)} (r : KV kvs vs) (k : κ) : (kvs.any fun kv => decide (kv.1 = k)) = vs.any fun kv => decide (kv.1 = k) := by
  unfold KV at r
  induction r with
  | nil => rfl
  | cons h t ih => rw [List.any_cons, List.any_cons, ih, h.1]
theorem KV.repl {kvs : List (κ × V)} {vs : List (κ × Value)} (r : KV kvs vs) (k : κ) {y : V} {u : Value} (ry : RelV y u) :
    KV (kvs.map fun kv => if kv.1 = k then (kv.1, y) else kv) (vs.map fun kv => if kv.1 = k then (kv.1, u) else kv) := by
  unfold KV at r ⊢
  induction r with
  | nil => exact .nil
  | @cons p q ps qs h t ih =>
    rw [List.map_cons, List.map_cons]
    refine .cons ?_ ih
    obtain ⟨h1, h2⟩ := h
    by_cases e : p.1 = k
    · rw [if_pos e, if_pos (h1.symm.trans e)]; exact ⟨h1, ry⟩
    · rw [if_neg e, if_neg (fun z => e (h1.trans z))]; exact ⟨h1, h2⟩
theorem KV.put {kvs : List (κ × V)} {vs : List (κ × Value)} (r : KV kvs vs) (k : κ) {y : V} {u : Value} (ry : RelV y u) : KV (putK kvs k y) (stored vs k u) := by
  unfold putK stored
  rw [r.any k]
  by_cases e : (vs.any fun kv => decide (kv.1 = k)) = true
  · rw [if_pos e, if_pos e]; exact r.repl k ry
  · rw [if_neg e, if_neg e]; exact Paired.snoc r ⟨rfl, ry⟩
theorem KV.drop {kvs : List (κ × V)} {vs : List (κ × Value)} (r : KV kvs vs) (k : κ) : KV (dropK kvs k) (without vs k) := by
  unfold KV at r ⊢
  unfold dropK without
  induction r with
  | nil => exact .nil
  | @cons p q ps qs h t ih =>
    obtain ⟨h1, h2⟩ := h
    rw [List.filter_cons, List.filter_cons]
    by_cases e : p.1 = k
    · have a : ¬ decide (p.1 ≠ k) = true := by simp [e]
      have b : ¬ decide (q.1 ≠ k) = true := by simp [h1.symm.trans e]
      rw [if_neg a, if_neg b]; exact ih
    · have e' : ¬ q.1 = k := fun z => e (h1.trans z)
      have a : decide (p.1 ≠ k) = true := by simp [e]
      have b : decide (q.1 ≠ k) = true := by simp [e']
      rw [if_pos a, if_pos b]; exact .cons ⟨h1, h2⟩ ih
theorem KV.length {kvs : List (κ × V)} {vs : List (κ × Value)} (r : KV kvs vs) : kvs.length = vs.length := Paired.length r
end
theorem kV_is {P : Program} {w : World} {k : Key} {u : Value} (r : RelV (kV k) u) : (mixKind P w).is k u = true := by
  cases k with
  | inl i => obtain ⟨t, e⟩ := (show ∃ t, u = Value.int i t from r); subst e; exact mixKind_int P w i t
  | inr x => obtain ⟨t, e⟩ := (show ∃ t, u = Value.str x t from r); subst e; exact mixKind_str P w x t
theorem items_are {P : Program} {w : World} : ∀ {ks : List Key} {us : List Value}, Vals (ks.map kV) us → ItemsAre (mixKind P w) ks us
  | [], _, r => by rw [List.map_nil] at r; cases r; exact .nil
  | k :: ks, _, r => by
    rw [List.map_cons] at r
    cases r with
    | cons h t => exact .cons (kV_is h) (items_are t)
abbrev KT (H : Hp) : List (List Key × V) → List (List Key × Addr × Value) → Prop := Paired fun p q => p.1 = q.1 ∧ H q.2.1 = some (.tup (p.1.map kV)) ∧ RelV p.2 q.2.2
theorem KT.val {H : Hp} {kvs : List (List Key × V)} {xs : List (List Key × Addr × Value)} (r : KT H kvs xs) (k : List Key) : RelO (valV kvs k) ((atKey xs k).map (·.2)) := by
  induction r with
  | nil => exact True.intro
  | @cons p q ps qs h t ih =>
    obtain ⟨h1, _, h2⟩ := h
    by_cases e : p.1 = k
    · have e' : q.1 = k := h1.symm.trans e
      have b : atKey (q :: qs) k = some q.2 := by simp [atKey, List.find?_cons, e']
      rw [valV_pos e, b]; exact h2
    · have e' : ¬ q.1 = k := fun z => e (h1.trans z)
      have b : atKey (q :: qs) k = atKey qs k := by simp [atKey, List.find?_cons, e']
      rw [valV_neg e, b]; exact ih
theorem KT.repl {H : Hp} {kvs : List (List Key × V)} {xs : List (List Key × Addr × Value)} (r : KT H kvs xs) (k : List Key) {y : V} {u : Value} (ry : RelV y u) :
    KT H (kvs.map fun kv => if kv.1 = k then (kv.1, y) else kv) (xs.map (putAt k u)) := by
  induction r with
  | nil => exact .nil
  | @cons p q ps qs h t ih =>
    rw [List.map_cons, List.map_cons]
    refine .cons ?_ ih
    obtain ⟨h1, h2, h3⟩ := h
    unfold putAt
    by_cases e : p.1 = k
    · rw [if_pos e, if_pos (h1.symm.trans e)]; exact ⟨h1, h2, ry⟩
    · rw [if_neg e, if_neg (fun z => e (h1.trans z))]; exact ⟨h1, h2, h3⟩
theorem KT.put {H : Hp} {kvs : List (List Key × V)} {xs : List (List Key × Addr × Value)} (r : KT H kvs xs) (k : List Key) {b : Addr} {y : V} {u : Value} (hb : H b = some (.tup (k.map kV))) (ry : RelV y u) :
    KT H (putK kvs k y) (storedH xs k b u) := by
  have e : (kvs.any fun kv => decide (kv.1 = k)) = (atKey xs k).isSome := by
    rw [valV_any, (r.val k).isSome_eq, Option.isSome_map]
  unfold putK storedH
  rw [e]
  by_cases q : (atKey xs k).isSome = true
  · rw [if_pos q, if_pos q]; exact r.repl k ry
  · rw [if_neg q, if_neg q]; exact Paired.snoc r ⟨rfl, hb, ry⟩
theorem KT.keeps {H H' : Hp} {kvs : List (List Key × V)} {xs : List (List Key × Addr × Value)} (r : KT H kvs xs) (ht : ∀ b ys, H b = some (.tup ys) → H' b = some (.tup ys)) : KT H' kvs xs :=
  Paired.mapP r fun _ _ z => ⟨z.1, ht _ _ z.2.1, z.2.2⟩
section
variable {P : Program} {w : World} {H : Hp} {h : Heap} {a : Addr}
theorem rd_of {u : HO} (ok : HOk P w H h) (e : Rd H a u) : ObjOk P w H h a u := e.ok ok
theorem dk_rd {kvs : List (Key × V)} (ok : HOk P w H h) (e : Rd H a (.dK kvs)) : kvs.length ≤ sizeLine ∧ (a == sysModules) = false ∧ ∃ vs, KV kvs vs ∧ h.DictOf (mixKind P w) a vs :=
  show ObjOk P w H h a (.dK kvs) from rd_of ok e
theorem key_of {ks : List Key} (ok : HOk P w H h) (e : H a = some (.tup (ks.map kV))) : (tupleKind (mixKind P w)).is h ks a := by
  obtain ⟨_, its, r, o, h1, h2, n, h3⟩ := (show ObjOk P w H h a (.tup (ks.map kV)) from ok a _ e)
  exact ⟨o, its.toArray, n, h1, h2, h3, by simpa using items_are r⟩
theorem dt_rd {kvs : List (List Key × V)} (ok : HOk P w H h) (e : Rd H a (.dT kvs)) : kvs.length ≤ sizeLine ∧ (a == sysModules) = false ∧
    ∃ xs, KT H kvs xs ∧ h.DictOfH (tupleKind (mixKind P w)) a xs := by
  obtain ⟨z, y, xs, r, o, es, ep, h1, h2, h3, h4, h5⟩ := (show ObjOk P w H h a (.dT kvs) from rd_of ok e)
  refine ⟨z, y, xs, r, o, es, ep, h1, h2, h3, h4, fun x hx => ?_, h5⟩
  have all : ∀ {l : List (List Key × V)} {m : List (List Key × Addr × Value)}, KT H l m → ∀ x ∈ m, (tupleKind (mixKind P w)).is h x.1 x.2.1 := by
    intro l m q
    induction q with
    | nil => intro x hx; exact nomatch hx
    | @cons p q ps qs hq t ih =>
      intro x hx
      rcases List.mem_cons.mp hx with e | hx
      · subst e
        exact key_of ok (by rw [← hq.1]; exact hq.2.1)
      · exact ih x hx
  exact all r x hx
theorem dt_of {kvs : List (List Key × V)} (ok : HOk P w H h) (e : H a = some (.dT kvs)) : kvs.length ≤ sizeLine ∧ (a == sysModules) = false ∧
    ∃ xs, KT H kvs xs ∧ h.DictOfH (tupleKind (mixKind P w)) a xs := dt_rd ok (.inl e)
end
def DGet (H : Hp) (a : Addr) (y : V) (r : Option V) : Prop :=
  (∃ kvs k, Rd H a (.dK kvs) ∧ y = kV k ∧ r = valV kvs k) ∨ ∃ kvs k b, Rd H a (.dT kvs) ∧ y = .ref b ∧ H b = some (.tup (k.map kV)) ∧ r = valV kvs k
def DPut (H : Hp) (a : Addr) (y v : V) (H' : Hp) : Prop :=
  (∃ kvs k, H a = some (.dK kvs) ∧ y = kV k ∧ kvs.length < sizeLine ∧ H' = upd H a (.dK (putK kvs k v))) ∨
  ∃ kvs k b, H a = some (.dT kvs) ∧ y = .ref b ∧ H b = some (.tup (k.map kV)) ∧ kvs.length < sizeLine ∧ H' = upd H a (.dT (putK kvs k v))
theorem DGet.k {H : Hp} {a : Addr} {kvs : List (Key × V)} {k : Key} (e : H a = some (.dK kvs)) : DGet H a (kV k) (valV kvs k) := .inl ⟨kvs, k, .inl e, rfl, rfl⟩
theorem DPut.k {H : Hp} {a : Addr} {kvs : List (Key × V)} {k : Key} {v : V} (e : H a = some (.dK kvs)) (hl : kvs.length < sizeLine) : DPut H a (kV k) v (upd H a (.dK (putK kvs k v))) := .inl ⟨kvs, k, e, rfl, hl, rfl⟩
section
variable {X : Cx} {pins : List (Addr × Obj)} {σ : St} {H : Hp} {s : Shared} {a : Addr} {y v : V} {u r : Value} {o : Option V} {A : Around} {E : Value → Shared → Prop}
theorem d_getItem {Q : Value → Shared → Prop} (hu : A.units + 1 < cLine) (I : Inv X pins σ H s) (g : DGet H a y (some v)) (ry : RelV y u) (h : ∀ w' s', Inv X pins σ H s' → RelV v w' → Q w' s') :
    wpAny (model X.prog X.w) A (getItem (.ref a) u) Q E s := by
  rcases g with ⟨kvs, k, e, ey, l⟩ | ⟨kvs, k, b, e, ey, eb, l⟩
  · subst ey
    obtain ⟨z, hd, vs, rel, dd⟩ := dk_rd I.hok e
    obtain ⟨w', hw, rw'⟩ := RelO.some_of (v := v) (o := valueAt vs k) (by rw [l]; exact rel.val k)
    exact wpAny_getItem_of (kV_is ry) dd.mapOf hw (h w' _ (I.tok _) rw')
  · subst ey
    cases (show u = Value.ref b from ry)
    obtain ⟨z, hd, xs, rel, dd⟩ := dt_rd I.hok e
    obtain ⟨w', hw, rw'⟩ := RelO.some_of (v := v) (o := (atKey xs k).map (·.2)) (by rw [l]; exact rel.val k)
    obtain ⟨p, hp, hp2⟩ := Option.map_eq_some_iff.mp hw
    refine wpAny_getItem_heap (tupleKind_room_in1 hu) (key_of I.hok eb) dd hp ?_
    rw [hp2]
    exact h w' _ (I.tok _) rw'
theorem d_in {Q : Value → Shared → Prop} (hu : A.units + 1 < cLine) (I : Inv X pins σ H s) (g : DGet H a y o) (ry : RelV y u) (h : ∀ s', Inv X pins σ H s' → Q (.bool o.isSome) s') :
    wpAny (model X.prog X.w) A (compareOp .In u (.ref a)) Q E s := by
  rcases g with ⟨kvs, k, e, ey, l⟩ | ⟨kvs, k, b, e, ey, eb, l⟩
  · subst ey
    obtain ⟨z, hd, vs, rel, dd⟩ := dk_rd I.hok e
    refine wpAny_in_of (kV_is ry) hd dd.mapOf ?_
    rw [← (rel.val k).isSome_eq, ← l]
    exact h _ (I.tok _)
  · subst ey
    cases (show u = Value.ref b from ry)
    obtain ⟨z, hd, xs, rel, dd⟩ := dt_rd I.hok e
    refine wpAny_in_heap (tupleKind_room_in1 hu) (key_of I.hok eb) hd dd ?_
    have q := (rel.val k).isSome_eq
    rw [Option.isSome_map] at q
    rw [← q, ← l]
    exact h _ (I.tok _)
end
section
variable {X : Cx} {pins : List (Addr × Obj)} {σ : St} {H : Hp} {s : Shared} {a : Addr} {kvs : List (Key × V)} {k : Key} {u : Value} {A : Around} {E : Value → Shared → Prop}
end
theorem dict_typeIs {X : Cx} {pins : List (Addr × Obj)} {σ : St} {H : Hp} {s : Shared} {a : Addr} {y : V} {o : Option V} (I : Inv X pins σ H s) (g : DGet H a y o) : s.TypeIs (.ref a) "dict" := by
  rcases g with ⟨kvs, k, e, _, _⟩ | ⟨kvs, k, b, e, _, _, _⟩
  · obtain ⟨_, _, vs, _, dd⟩ := dk_rd I.hok e
    exact dd.typeIs
  · obtain ⟨_, _, xs, _, dd⟩ := dt_rd I.hok e
    exact dd.typeIs
section
variable {X : Cx} {o i e value : Expr} {pos pos' tpos : Pos} {td ty tv : TE}
end
section
variable {X : Cx} {pos : Pos}
end
section
variable {X : Cx} {pins : List (Addr × Obj)} {σ : St} {H : Hp} {s : Shared} {a : Addr} {y d : V} {u r : Value} {o : Option V} {A : Around} {E : Value → Shared → Prop}
end
section
variable {X : Cx} {o e f : Expr} {apos cpos : Pos} {td ty tx : TE}
end
section
variable {X : Cx} {pins : List (Addr × Obj)} {σ : St} {H : Hp} {s : Shared} {a : Addr} {kvs : List (Key × V)} {A : Around} {E : Value → Shared → Prop}
end
section
variable {X : Cx} {pins : List (Addr × Obj)} {σ : St} {H : Hp} {s : Shared} {a : Addr} {y : V} {u : Value} {A : Around} {E : Value → Shared → Prop}
end
section
variable {X : Cx}
end
section
variable {κ : Type} [DecidableEq κ]
end
end L2
namespace D
open PySem PySem.Spec PyProof.Rows L2
abbrev St := L2.St
inductive DV where
  | non | bl (b : Bool) | int (i : Int) | str (x : Str) | tup (xs : List DV) | lst (xs : List DV) | ref (i : Nat)
inductive OV where
  | lst (xs : List DV)
  | dic (kvs : List (Key × DV))
  | ins (c : Str) (fs : List (Str × DV))
abbrev Hs := List OV
abbrev M := StateT Hs Option
mutual
def RepV (K : PySem.W.Frag) (ρ : List Addr) (B : Addr → Prop) (H : Hp) : DV → V → Prop
  | .non, v => v = .non
  | .bl b, v => v = .bl b
  | .int i, v => v = .int i
  | .str x, v => v = .str x
  | .tup ds, v => ∃ a xs, v = .ref a ∧ ¬ B a ∧ SqT K H a xs ∧ RepL K ρ B H ds xs
  | .lst ds, v => ∃ a xs, v = .ref a ∧ ¬ B a ∧ SqL K H a xs ∧ RepL K ρ B H ds xs
  | .ref i, v => ∃ a, v = .ref a ∧ ρ[i]? = some a
def RepL (K : PySem.W.Frag) (ρ : List Addr) (B : Addr → Prop) (H : Hp) : List DV → List V → Prop
  | [], xs => xs = []
  | d :: ds, xs => ∃ x r, xs = x :: r ∧ RepV K ρ B H d x ∧ RepL K ρ B H ds r
end
def ORep (K : PySem.W.Frag) (ρ : List Addr) (B : Addr → Prop) (H : Hp) (a : Addr) : OV → Prop
  | .lst ds => ∃ xs, H a = some (.lst xs) ∧ RepL K ρ B H ds xs
  | .dic kvs => ∃ xs : List (Key × V), H a = some (.dK xs) ∧ xs.map (·.1) = kvs.map (·.1) ∧ RepL K ρ B H (kvs.map (·.2)) (xs.map (·.2))
  | .ins c fs => ∃ (C dx : Addr) (xs : List (Str × V)), PySem.W.nsIn K mainGlobals c = some (some (.ref C)) ∧ H a = some (.ins C dx xs) ∧ xs.map (·.1) = fs.map (·.1) ∧ RepL K ρ B H (fs.map (·.2)) (xs.map (·.2))
structure Gr (K : PySem.W.Frag) (ρ : List Addr) (B : Addr → Prop) (H : Hp) (ρ' : List Addr) (B' : Addr → Prop) (H' : Hp) : Prop where
  pre : ρ <+: ρ'
  ban : ∀ a, B a → B' a
  new : ∀ a, B' a → B a ∨ (H a = none ∧ K.lookup a = none)
  rnew : ∀ a ∈ ρ', a ∈ ρ ∨ H a = none
  keep : ∀ a o, a ∉ ρ → H a = some o → H' a = some o
  trk : ∀ a, H' a = none → H a = none
structure WOk (K : PySem.W.Frag) (ρ : List Addr) (B : Addr → Prop) (hp : Hs) (H : Hp) : Prop where
  len : ρ.length = hp.length
  nd : ρ.Nodup
  obj : ∀ (i : Nat) (a : Addr) (o : OV), ρ[i]? = some a → hp[i]? = some o → ORep K ρ B H a o
  rb : ∀ a ∈ ρ, B a
  bt : ∀ a, B a → H a ≠ none
  bk : ∀ a, B a → K.lookup a = none
section
variable {K : PySem.W.Frag} {ρ ρ' ρ'' : List Addr} {B B' B'' : Addr → Prop} {H H' H'' : Hp}
theorem Gr.refl : Gr K ρ B H ρ B H := ⟨List.prefix_rfl, fun _ h => h, fun _ h => .inl h, fun _ h => .inl h, fun _ _ _ h => h, fun _ h => h⟩
theorem Gr.trans (a : Gr K ρ B H ρ' B' H') (b : Gr K ρ' B' H' ρ'' B'' H'') : Gr K ρ B H ρ'' B'' H'' where
  pre := a.pre.trans b.pre
  ban := fun x h => b.ban x (a.ban x h)
  new := fun x h => (b.new x h).elim (a.new x) fun z => .inr ⟨a.trk x z.1, z.2⟩
  rnew := fun x h => (b.rnew x h).elim (a.rnew x) fun z => .inr (a.trk x z)
  keep := fun x o hn h => b.keep x o (fun z => (a.rnew x z).elim hn (fun z => by rw [h] at z; cases z)) (a.keep x o hn h)
  trk := fun x h => a.trk x (b.trk x h)
structure Gs (K : PySem.W.Frag) (ρ : List Addr) (B : Addr → Prop) (H : Hp) (ρ' : List Addr) (B' : Addr → Prop) (H' : Hp) : Prop where
  pre : ρ <+: ρ'
  new : ∀ a, B' a → B a ∨ (H a = none ∧ K.lookup a = none)
  keep : ∀ a o, ¬ B a → H a = some o → H' a = some o
  trk : ∀ a, H' a = none → H a = none
theorem Gr.gs (rb : ∀ a ∈ ρ, B a) (g : Gr K ρ B H ρ' B' H') : Gs K ρ B H ρ' B' H' := ⟨g.pre, g.new, fun a o nb h => g.keep a o (fun z => nb (rb a z)) h, g.trk⟩
theorem Gs.refl : Gs K ρ B H ρ B H := ⟨List.prefix_rfl, fun _ h => .inl h, fun _ _ _ h => h, fun _ h => h⟩
theorem Gs.trans (a : Gs K ρ B H ρ' B' H') (b : Gs K ρ' B' H' ρ'' B'' H'') : Gs K ρ B H ρ'' B'' H'' where
  pre := a.pre.trans b.pre
  new := fun x h => (b.new x h).elim (a.new x) fun z => .inr ⟨a.trk x z.1, z.2⟩
  keep := fun x o nb h => b.keep x o (fun z => (a.new x z).elim nb fun q => by rw [h] at q; cases q.1) (a.keep x o nb h)
  trk := fun x h => a.trk x (b.trk x h)
theorem SqT.trk {a : Addr} {xs : List V} (h : SqT K H a xs) : H a ≠ none ∨ ∃ o, K.lookup a = some o := by
  rcases h with (h | ⟨o, h⟩) | ⟨o, _, _, h, _⟩
  · exact .inl (by rw [h]; simp)
  · exact .inl (by rw [h]; simp)
  · exact .inr ⟨o, h⟩
theorem SqL.trk {a : Addr} {xs : List V} (h : SqL K H a xs) : H a ≠ none ∨ ∃ o, K.lookup a = some o := by
  rcases h with (h | ⟨o, h⟩) | ⟨o, _, _, h, _⟩
  · exact .inl (by rw [h]; simp)
  · exact .inl (by rw [h]; simp)
  · exact .inr ⟨o, h⟩
theorem Gs.ok {a : Addr} (g : Gs K ρ B H ρ' B' H') (hb : ¬ B a) (t : H a ≠ none ∨ ∃ o, K.lookup a = some o) : ¬ B' a := fun z =>
  (g.new a z).elim hb fun ⟨n, k⟩ => t.elim (fun q => q n) fun ⟨o, q⟩ => by rw [k] at q; cases q
theorem Gs.sqT {a : Addr} {xs : List V} (g : Gs K ρ B H ρ' B' H') (hr : ¬ B a) (h : SqT K H a xs) : SqT K H' a xs := by
  rcases h with (h | ⟨o, h⟩) | h
  · exact .inl (.inl (g.keep _ _ hr h))
  · exact .inl (.inr ⟨o, g.keep _ _ hr h⟩)
  · exact .inr h
theorem Gs.sqL {a : Addr} {xs : List V} (g : Gs K ρ B H ρ' B' H') (hr : ¬ B a) (h : SqL K H a xs) : SqL K H' a xs := by
  rcases h with (h | ⟨o, h⟩) | h
  · exact .inl (.inl (g.keep _ _ hr h))
  · exact .inl (.inr ⟨o, g.keep _ _ hr h⟩)
  · exact .inr h
theorem pre_get {i : Nat} {a : Addr} (p : ρ <+: ρ') (h : ρ[i]? = some a) : ρ'[i]? = some a := by
  obtain ⟨t, rfl⟩ := p
  rw [List.getElem?_append_left (List.getElem?_eq_some_iff.mp h).1]; exact h
mutual
theorem RepV.gs (g : Gs K ρ B H ρ' B' H') : ∀ (d : DV) (v : V), RepV K ρ B H d v → RepV K ρ' B' H' d v
  | .non, _, h => by unfold RepV at h ⊢; exact h
  | .bl _, _, h => by unfold RepV at h ⊢; exact h
  | .int _, _, h => by unfold RepV at h ⊢; exact h
  | .str _, _, h => by unfold RepV at h ⊢; exact h
  | .ref _, _, h => by
    unfold RepV at h ⊢
    obtain ⟨a, e, h⟩ := h
    exact ⟨a, e, pre_get g.pre h⟩
  | .tup ds, _, h => by
    unfold RepV at h ⊢
    obtain ⟨a, xs, e, nb, sq, rl⟩ := h
    exact ⟨a, xs, e, g.ok nb (SqT.trk sq), g.sqT nb sq, RepL.gs g ds xs rl⟩
  | .lst ds, _, h => by
    unfold RepV at h ⊢
    obtain ⟨a, xs, e, nb, sq, rl⟩ := h
    exact ⟨a, xs, e, g.ok nb (SqL.trk sq), g.sqL nb sq, RepL.gs g ds xs rl⟩
theorem RepL.gs (g : Gs K ρ B H ρ' B' H') : ∀ (ds : List DV) (xs : List V), RepL K ρ B H ds xs → RepL K ρ' B' H' ds xs
  | [], _, h => by unfold RepL at h ⊢; exact h
  | d :: ds, _, h => by
    unfold RepL at h ⊢
    obtain ⟨x, r, e, h1, h2⟩ := h
    exact ⟨x, r, e, RepV.gs g d x h1, RepL.gs g ds r h2⟩
end
theorem RepV.grow (rb : ∀ a ∈ ρ, B a) (g : Gr K ρ B H ρ' B' H') (d : DV) (v : V) (h : RepV K ρ B H d v) : RepV K ρ' B' H' d v := RepV.gs (g.gs rb) d v h
theorem RepL.grow (rb : ∀ a ∈ ρ, B a) (g : Gr K ρ B H ρ' B' H') (ds : List DV) (xs : List V) (h : RepL K ρ B H ds xs) : RepL K ρ' B' H' ds xs := RepL.gs (g.gs rb) ds xs h
theorem RepL.length : ∀ {ds : List DV} {xs : List V}, RepL K ρ B H ds xs → ds.length = xs.length
  | [], _, h => by unfold RepL at h; subst h; rfl
  | d :: ds, _, h => by
    unfold RepL at h
    obtain ⟨x, r, rfl, _, h2⟩ := h
    simp [RepL.length h2]
theorem RepL.get : ∀ {ds : List DV} {xs : List V} {i : Nat} {d : DV}, RepL K ρ B H ds xs → ds[i]? = some d → ∃ x, xs[i]? = some x ∧ RepV K ρ B H d x
  | [], _, _, _, _, e => by simp at e
  | d :: ds, _, 0, _, h, e => by
    unfold RepL at h
    obtain ⟨x, r, rfl, h1, _⟩ := h
    simp at e; subst e
    exact ⟨x, rfl, h1⟩
  | d :: ds, _, i + 1, _, h, e => by
    unfold RepL at h
    obtain ⟨x, r, rfl, _, h2⟩ := h
    obtain ⟨y, h3, h4⟩ := RepL.get h2 (by simpa using e)
    exact ⟨y, by simpa using h3, h4⟩
theorem RepL.nil : RepL K ρ B H [] [] := by unfold RepL; rfl
theorem RepL.cons {d : DV} {x : V} {ds : List DV} {xs : List V} (h : RepV K ρ B H d x) (t : RepL K ρ B H ds xs) : RepL K ρ B H (d :: ds) (x :: xs) := by
  unfold RepL; exact ⟨x, xs, rfl, h, t⟩
theorem RepL.append : ∀ {ds es : List DV} {xs ys : List V}, RepL K ρ B H ds xs → RepL K ρ B H es ys → RepL K ρ B H (ds ++ es) (xs ++ ys)
  | [], _, _, _, h, t => by unfold RepL at h; subst h; exact t
  | d :: ds, _, _, _, h, t => by
    unfold RepL at h
    obtain ⟨x, r, rfl, h1, h2⟩ := h
    exact RepL.cons h1 (RepL.append h2 t)
theorem RepL.one {d : DV} {x : V} (h : RepV K ρ B H d x) : RepL K ρ B H [d] [x] := RepL.cons h RepL.nil
theorem RepL.take : ∀ (n : Nat) {ds : List DV} {xs : List V}, RepL K ρ B H ds xs → RepL K ρ B H (ds.take n) (xs.take n)
  | 0, _, _, _ => by simp; exact RepL.nil
  | _ + 1, [], _, h => by unfold RepL at h; subst h; simp; exact RepL.nil
  | n + 1, d :: ds, _, h => by
    unfold RepL at h
    obtain ⟨x, r, rfl, h1, h2⟩ := h
    exact RepL.cons h1 (RepL.take n h2)
theorem RepL.drop : ∀ (n : Nat) {ds : List DV} {xs : List V}, RepL K ρ B H ds xs → RepL K ρ B H (ds.drop n) (xs.drop n)
  | 0, _, _, h => h
  | _ + 1, [], _, h => by unfold RepL at h; subst h; simp; exact RepL.nil
  | n + 1, d :: ds, _, h => by
    unfold RepL at h
    obtain ⟨x, r, rfl, h1, h2⟩ := h
    exact RepL.drop n h2
theorem Gr.laid {p : Addr} {o : HO} (h : H p = none) : Gr K ρ B H ρ B (upd H p o) where
  pre := List.prefix_rfl
  ban := fun _ h => h
  new := fun _ h => .inl h
  rnew := fun _ h => .inl h
  keep := fun a u _ q => by rw [upd_ne (ne_of_none q h)]; exact q
  trk := fun a q => by
    by_cases e : a = p
    · subst e; rw [upd_same] at q; cases q
    · rw [upd_ne e] at q; exact q
theorem ORep.gs {a : Addr} {o : OV} (g : Gs K ρ B H ρ' B' H') (hk : H' a = H a) (h : ORep K ρ B H a o) : ORep K ρ' B' H' a o := by
  cases o with
  | lst ds =>
    obtain ⟨xs, e, rl⟩ := h
    exact ⟨xs, hk.trans e, RepL.gs g _ _ rl⟩
  | dic kvs =>
    obtain ⟨xs, e, ek, rl⟩ := h
    exact ⟨xs, hk.trans e, ek, RepL.gs g _ _ rl⟩
  | ins c fs =>
    obtain ⟨C, dx, xs, nc, e, ek, rl⟩ := h
    exact ⟨C, dx, xs, nc, hk.trans e, ek, RepL.gs g _ _ rl⟩
theorem WOk.laid {hp : Hs} {p : Addr} {o : HO} (W : WOk K ρ B hp H) (h : H p = none) : WOk K ρ B hp (upd H p o) where
  len := W.len
  nd := W.nd
  obj := fun i a u e q => ORep.gs ((Gr.laid h).gs W.rb) (by
    have hb := W.bt a (W.rb a (List.mem_of_getElem? e))
    exact upd_ne (fun z => hb (z ▸ h))) (W.obj i a u e q)
  rb := W.rb
  bt := fun a z q => W.bt a z ((Gr.laid (K := K) (ρ := ρ) (B := B) h).trk a q)
  bk := W.bk
end
inductive Sl where
  | un | val (d : DV) | acc (ds : List DV)
abbrev En := List Sl
structure Ent where
  ρ : List Addr
  B : Addr → Prop
  H : Hp
structure SOk (K : PySem.W.Frag) (Z : Ent) (env : En) (σ : St) (ρ : List Addr) (B : Addr → Prop) (hp : Hs) (H : Hp) : Prop where
  gr : Gr K Z.ρ Z.B Z.H ρ B H
  zb : ∀ a, Z.B a → Z.H a ≠ none
  wo : WOk K ρ B hp H
  slot : ∀ (i : Nat) (d : DV), env[i]? = some (.val d) → ∃ v, σ[i]? = some (some v) ∧ RepV K ρ B H d v
  accs : ∀ (i : Nat) (ds : List DV), env[i]? = some (.acc ds) → ∃ a xs, σ[i]? = some (some (.ref a)) ∧ H a = some (.lst xs) ∧ Z.H a = none ∧ B a ∧ a ∉ ρ ∧ RepL K ρ B H ds xs
  adis : ∀ (i j : Nat) (ds es : List DV) (a : Addr), env[i]? = some (.acc ds) → env[j]? = some (.acc es) → σ[i]? = some (some (.ref a)) → σ[j]? = some (some (.ref a)) → i = j
  len : σ.length = env.length
theorem SOk.grow {K : PySem.W.Frag} {Z : Ent} {env : En} {σ : St} {ρ ρ' : List Addr} {B B' : Addr → Prop} {hp hp' : Hs} {H H' : Hp} (S : SOk K Z env σ ρ B hp H) (g : Gr K ρ B H ρ' B' H') (W : WOk K ρ' B' hp' H') : SOk K Z env σ ρ' B' hp' H' where
  gr := S.gr.trans g
  zb := S.zb
  wo := W
  slot := fun i d e => let ⟨v, h1, h2⟩ := S.slot i d e; ⟨v, h1, RepV.grow S.wo.rb g d v h2⟩
  accs := fun i ds e => by
    obtain ⟨a, xs, h1, h2, h3, h4, h5, h6⟩ := S.accs i ds e
    refine ⟨a, xs, h1, g.keep a _ h5 h2, h3, g.ban a h4, fun z => ?_, RepL.grow S.wo.rb g ds xs h6⟩
    rcases g.rnew a z with q | q
    · exact h5 q
    · rw [h2] at q; cases q
  adis := S.adis
  len := S.len
abbrev DEx := En → M DV
abbrev DTx := En → M Bool
abbrev DAx := En → M (List DV)
inductive Fl where
  | nx | rt (d : DV) | bk | ct
abbrev DSx := En → M (Fl × En)
def Fol (K : PySem.W.Frag) (ρ : List Addr) (B : Addr → Prop) (H : Hp) (d : DV) (hp' : Hs) (Q : VK) : Prop :=
  ∀ v ρ' B' H', Gr K ρ B H ρ' B' H' → WOk K ρ' B' hp' H' → RepV K ρ' B' H' d v → Q v H'
def FolB (K : PySem.W.Frag) (ρ : List Addr) (B : Addr → Prop) (H : Hp) (hp' : Hs) (Q : Hp → Prop) : Prop :=
  ∀ ρ' B' H', Gr K ρ B H ρ' B' H' → WOk K ρ' B' hp' H' → Q H'
def FolL (K : PySem.W.Frag) (ρ : List Addr) (B : Addr → Prop) (H : Hp) (ds : List DV) (hp' : Hs) (Q : List V → Hp → Prop) : Prop :=
  ∀ vs ρ' B' H', Gr K ρ B H ρ' B' H' → WOk K ρ' B' hp' H' → RepL K ρ' B' H' ds vs → Q vs H'
def tD (K : PySem.W.Frag) (f : DEx) : TE := fun σ H Q => ∃ Z env ρ B hp d hp', SOk K Z env σ ρ B hp H ∧ f env hp = some (d, hp') ∧ Fol K ρ B H d hp' Q
def tDT (K : PySem.W.Frag) (f : DTx) : TT := fun σ H Q => ∃ Z env ρ B hp d hp', SOk K Z env σ ρ B hp H ∧ f env hp = some (d, hp') ∧ FolB K ρ B H hp' (Q d)
def tDA (K : PySem.W.Frag) (f : DAx) : TA := fun σ H Q => ∃ Z env ρ B hp ds hp', SOk K Z env σ ρ B hp H ∧ f env hp = some (ds, hp') ∧ FolL K ρ B H ds hp' Q
def DE (X : Cx) (e : Expr) (f : DEx) : Prop := PE X e (tD X.K f)
def DT (X : Cx) (e : Expr) (f : DTx) : Prop := PT X e (tDT X.K f)
def DW (X : Cx) (e : Expr) (f : DTx) : Prop := PW X e (tDT X.K f)
def DA (X : Cx) (es : List Expr) (f : DAx) : Prop := PA X es (tDA X.K f)
def FolS (K : PySem.W.Frag) (Z : Ent) (ρ : List Addr) (B : Addr → Prop) (H : Hp) (fl : Fl) (env' : En) (hp' : Hs) (D : Ends) : Prop :=
  ∀ σ' ρ' B' H', Gs K ρ B H ρ' B' H' → SOk K Z env' σ' ρ' B' hp' H' → match fl with
    | .nx => D.nx σ' H'
    | .bk => D.bk σ' H'
    | .ct => D.ct σ' H'
    | .rt d => ∀ v, RepV K ρ' B' H' d v → D.rt v H'
def tDS (K : PySem.W.Frag) (f : DSx) : TS := fun D σ H => ∃ Z env ρ B hp fl env' hp', SOk K Z env σ ρ B hp H ∧ f env hp = some ((fl, env'), hp') ∧ FolS K Z ρ B H fl env' hp' D
def DS (X : Cx) (st : Stmt) (f : DSx) : Prop := PS X st (tDS X.K f)
def DSs (X : Cx) (st : List Stmt) (f : DSx) : Prop := PSs X st (tDS X.K f)
section
variable {X : Cx}
theorem _root_.L2.PE.imp {e : Expr} {t t' : TE} (h : PE X e t) (i : ∀ σ H Q, t' σ H Q → t σ H Q) : PE X e t' := fun pins s σ H Q I q => h pins s σ H Q I (i σ H Q q)
theorem _root_.L2.PT.imp {e : Expr} {t t' : TT} (h : PT X e t) (i : ∀ σ H Q, t' σ H Q → t σ H Q) : PT X e t' := fun pins s σ H Q I q => h pins s σ H Q I (i σ H Q q)
theorem _root_.L2.PW.imp {e : Expr} {t t' : TT} (h : PW X e t) (i : ∀ σ H Q, t' σ H Q → t σ H Q) : PW X e t' := fun wh pins s σ H Q I q => h wh pins s σ H Q I (i σ H Q q)
theorem _root_.L2.PA.imp {es : List Expr} {t t' : TA} (h : PA X es t) (i : ∀ σ H Q, t' σ H Q → t σ H Q) : PA X es t' := fun pos pins s σ H Q I q => h pos pins s σ H Q I (i σ H Q q)
theorem _root_.L2.PS.imp {st : Stmt} {t t' : TS} (h : PS X st t) (i : ∀ Dn σ H, t' Dn σ H → t Dn σ H) : PS X st t' := fun pins s σ H Dn I q => h pins s σ H Dn I (i Dn σ H q)
theorem _root_.L2.PSs.imp {st : List Stmt} {t t' : TS} (h : PSs X st t) (i : ∀ Dn σ H, t' Dn σ H → t Dn σ H) : PSs X st t' := fun pins s σ H Dn I q => h pins s σ H Dn I (i Dn σ H q)
def KFree (K : PySem.W.Frag) (H : Hp) : Prop := ∀ a o, H a = some o → K.lookup a = none
theorem Inv.kfree {pins : List (Addr × Obj)} {σ : St} {H : Hp} {s : Shared} (I : Inv X pins σ H s) : KFree X.K H := fun a o e => by
  cases q : X.K.lookup a with
  | none => rfl
  | some ob =>
    have := (I.bs a ob (I.ok.mod.kin a ob q)).2
    rw [e] at this; cases this
theorem _root_.L2.PE.kf {e : Expr} {t : TE} (h : PE X e t) : PE X e (fun σ H Q => t σ H fun v H' => KFree X.K H' → Q v H') := fun pins s σ H Q I q =>
  thn (h pins s σ H _ I q) fun u s' ⟨v, H', I', r, z⟩ => ⟨v, H', I', r, z (Inv.kfree I')⟩
theorem bind_some {α β : Type} {f : M α} {g : α → M β} {hp hp' : Hs} {y : β} (h : (f >>= g) hp = some (y, hp')) : ∃ x hp1, f hp = some (x, hp1) ∧ g x hp1 = some (y, hp') := by
  change (f hp).bind (fun p => g p.1 p.2) = some (y, hp') at h
  cases q : f hp with
  | none => rw [q] at h; cases h
  | some p => rw [q] at h; exact ⟨p.1, p.2, rfl, h⟩
theorem pure_some {α : Type} {x y : α} {hp hp' : Hs} (h : (pure x : M α) hp = some (y, hp')) : x = y ∧ hp = hp' := by
  change some (x, hp) = some (y, hp') at h
  cases h; exact ⟨rfl, rfl⟩
theorem tD.run {K : PySem.W.Frag} {f : DEx} {Z : Ent} {env : En} {σ : St} {ρ : List Addr} {B : Addr → Prop} {hp hp1 : Hs} {H : Hp} {d : DV} {Q : VK} (S : SOk K Z env σ ρ B hp H) (e : f env hp = some (d, hp1))
    (k : ∀ v ρ' B' H', Gr K ρ B H ρ' B' H' → SOk K Z env σ ρ' B' hp1 H' → RepV K ρ' B' H' d v → Q v H') : tD K f σ H Q :=
  ⟨Z, env, ρ, B, hp, d, hp1, S, e, fun v ρ' B' H' g W r => k v ρ' B' H' g (S.grow g W) r⟩
def eVar (i : Nat) : DEx := fun env => match env[i]? with
  | some (.val d) => pure d
  | _ => failure
def eC (d : DV) : DEx := fun _ => pure d
theorem eVar_some {i : Nat} {env : En} {hp hp' : Hs} {d : DV} (h : eVar i env hp = some (d, hp')) : env[i]? = some (.val d) ∧ hp = hp' := by
  unfold eVar at h
  cases q : env[i]? with
  | none => rw [q] at h; cases h
  | some z =>
    rw [q] at h
    cases z with
    | val x => obtain ⟨rfl, rfl⟩ := pure_some h; exact ⟨rfl, rfl⟩
    | un => cases h
    | acc _ => cases h
theorem de_var (i : Nat) {x : Str} {pos : Pos} (hN : X.N[i]? = some x := by rfl) (hv : Vis X.env.scope x := by first | exact Or.inl rfl | exact Or.inr (Or.inl rfl) | exact Or.inr (Or.inr rfl)) (hd : (x == ("__debug__" : Str)) = false := by decide)
    (hcd : (x == ("__classdict__" : Str)) = false := by decide) : DE X (.Name x pos) (eVar i) :=
  (pe_var hN hv hd hcd).imp fun σ H Q ⟨Z, env, ρ, B, hp, d, hp', S, e, k⟩ => by
    obtain ⟨e1, rfl⟩ := eVar_some e
    obtain ⟨v, h1, h2⟩ := S.slot i d e1
    exact ⟨v, h1, k v ρ B H Gr.refl S.wo h2⟩
theorem de_const {e : Expr} {d : DV} {v : V} (h : PE X e (tC v)) (r : ∀ K ρ B H, RepV K ρ B H d v) : DE X e (eC d) :=
  h.imp fun σ H Q ⟨Z, env, ρ, B, hp, d', hp', S, e, k⟩ => by
    obtain ⟨rfl, rfl⟩ := pure_some e
    exact k v ρ B H Gr.refl S.wo (r _ _ _ _)
theorem de_int {i : Int} {j pos} : DE X (.Constant (.int i) j pos) (eC (.int i)) := de_const pe_int fun _ _ _ _ => by unfold RepV; rfl
theorem de_bl {b : Bool} {j pos} : DE X (.Constant (.bool b) j pos) (eC (.bl b)) := de_const pe_bl fun _ _ _ _ => by unfold RepV; rfl
theorem de_non {j pos} : DE X (.Constant .none j pos) (eC .non) := de_const pe_non fun _ _ _ _ => by unfold RepV; rfl
theorem de_str {x : Str} {j pos} : DE X (.Constant (.str x) j pos) (eC (.str x)) := de_const pe_str fun _ _ _ _ => by unfold RepV; rfl
def tP2 (K : PySem.W.Frag) (g : DV → DV → M DV) : R2 := fun x y H Q => ∃ ρ B hp dx dy d hp', WOk K ρ B hp H ∧ RepV K ρ B H dx x ∧ RepV K ρ B H dy y ∧ g dx dy hp = some (d, hp') ∧ Fol K ρ B H d hp' Q
def P2 (X : Cx) (f : Value → Value → Sem Value) (g : DV → DV → M DV) : Prop := OpR X f (tP2 X.K g)
def eBin (g : DV → DV → M DV) (a b : DEx) : DEx := fun env => do let x ← a env; let y ← b env; g x y
variable {a b c : Expr} {fa fb fc : DEx} {pos : Pos}
theorem eBin_imp {K : PySem.W.Frag} {g : DV → DV → M DV} {σ : St} {H : Hp} {Q : VK} (h : tD K (eBin g fa fb) σ H Q) : tOp (tP2 K g) (tD K fa) (tD K fb) σ H Q := by
  obtain ⟨Z, env, ρ, B, hp, d, hp', S, e, k⟩ := h
  obtain ⟨x, hp1, e1, e2⟩ := bind_some e
  obtain ⟨y, hp2, e3, e4⟩ := bind_some e2
  refine tD.run S e1 fun v ρ1 B1 H1 g1 S1 r1 => tD.run S1 e3 fun u ρ2 B2 H2 g2 S2 r2 => ?_
  exact ⟨ρ2, B2, hp2, x, y, d, hp', S2.wo, RepV.grow S1.wo.rb g2 _ _ r1, r2, e4, fun w ρ' B' H' g W r => k w ρ' B' H' (g1.trans (g2.trans g)) W r⟩
theorem de_bin {op : Operator} {g : DV → DV → M DV} (ho : P2 X (binaryOp op) g) (ha : DE X a fa) (hb : DE X b fb) : DE X (.BinOp a op b pos) (eBin g fa fb) :=
  (pe_op ho ha hb).imp fun _ _ _ h => eBin_imp h
theorem de_cmp {op : CmpOp} {g : DV → DV → M DV} (ho : P2 X (compareOp op) g) (ha : DE X a fa) (hb : DE X b fb) (hm : behindInMarks op b = false) : DE X (.Compare a [op] [b] pos) (eBin g fa fb) :=
  (pe_cmpR ho ha hb hm).imp fun _ _ _ h => eBin_imp h
def asB : DV → M Bool
  | .bl b => pure b
  | _ => failure
def eB (f : DEx) : DTx := fun env => do asB (← f env)
theorem asB_some {d : DV} {c : Bool} {hp hp' : Hs} (h : asB d hp = some (c, hp')) : d = .bl c ∧ hp = hp' := by
  cases d with
  | bl b => obtain ⟨rfl, rfl⟩ := pure_some h; exact ⟨rfl, rfl⟩
  | _ => cases h
theorem RepV.blI {K : PySem.W.Frag} {ρ : List Addr} {B : Addr → Prop} {H : Hp} {b : Bool} {v : V} (h : RepV K ρ B H (.bl b) v) : v = .bl b := by unfold RepV at h; exact h
theorem RepV.intI {K : PySem.W.Frag} {ρ : List Addr} {B : Addr → Prop} {H : Hp} {b : Int} {v : V} (h : RepV K ρ B H (.int b) v) : v = .int b := by unfold RepV at h; exact h
theorem RepV.strI {K : PySem.W.Frag} {ρ : List Addr} {B : Addr → Prop} {H : Hp} {b : Str} {v : V} (h : RepV K ρ B H (.str b) v) : v = .str b := by unfold RepV at h; exact h
theorem RepV.nonI {K : PySem.W.Frag} {ρ : List Addr} {B : Addr → Prop} {H : Hp} {v : V} (h : RepV K ρ B H .non v) : v = .non := by unfold RepV at h; exact h
theorem RepV.tupI {K : PySem.W.Frag} {ρ : List Addr} {B : Addr → Prop} {H : Hp} {ds : List DV} {v : V} (h : RepV K ρ B H (.tup ds) v) : ∃ a xs, v = .ref a ∧ ¬ B a ∧ SqT K H a xs ∧ RepL K ρ B H ds xs := by unfold RepV at h; exact h
theorem RepV.lstI {K : PySem.W.Frag} {ρ : List Addr} {B : Addr → Prop} {H : Hp} {ds : List DV} {v : V} (h : RepV K ρ B H (.lst ds) v) : ∃ a xs, v = .ref a ∧ ¬ B a ∧ SqL K H a xs ∧ RepL K ρ B H ds xs := by unfold RepV at h; exact h
theorem RepV.refI {K : PySem.W.Frag} {ρ : List Addr} {B : Addr → Prop} {H : Hp} {i : Nat} {v : V} (h : RepV K ρ B H (.ref i) v) : ∃ a, v = .ref a ∧ ρ[i]? = some a := by unfold RepV at h; exact h
section
variable {K : PySem.W.Frag} {ρ : List Addr} {B : Addr → Prop} {H : Hp}
theorem rep_bl {b : Bool} : RepV K ρ B H (.bl b) (.bl b) := by unfold RepV; rfl
theorem rep_int {b : Int} : RepV K ρ B H (.int b) (.int b) := by unfold RepV; rfl
theorem rep_non : RepV K ρ B H .non .non := by unfold RepV; rfl
theorem rep_tup {a : Addr} {ds : List DV} {xs : List V} (h1 : ¬ B a) (h2 : SqT K H a xs) (h3 : RepL K ρ B H ds xs) : RepV K ρ B H (.tup ds) (.ref a) := by unfold RepV; exact ⟨a, xs, rfl, h1, h2, h3⟩
theorem rep_lst {a : Addr} {ds : List DV} {xs : List V} (h1 : ¬ B a) (h2 : SqL K H a xs) (h3 : RepL K ρ B H ds xs) : RepV K ρ B H (.lst ds) (.ref a) := by unfold RepV; exact ⟨a, xs, rfl, h1, h2, h3⟩
end
theorem dt_of {e : Expr} {f : DEx} (h : DE X e f) (he : ∀ whole, isTrue e X.env whole = (do let v ← whole; standAt e.pos; holding [v] (truthy v)) := by intro _; rfl) : DT X e (eB f) :=
  (pt_val h he).imp fun σ H Q ⟨Z, env, ρ, B, hp, d, hp', S, e, k⟩ => by
    obtain ⟨x, hp1, e1, e2⟩ := bind_some e
    obtain ⟨rfl, rfl⟩ := asB_some e2
    exact tD.run S e1 fun v ρ1 B1 H1 g1 S1 r1 => ⟨d, r1.blI, k ρ1 B1 H1 g1 S1.wo⟩
theorem dt_cmp {op : CmpOp} {g : DV → DV → M DV} (ho : P2 X (compareOp op) g) (ha : DE X a fa) (hb : DE X b fb) (hm : behindInMarks op b = false) : DT X (.Compare a [op] [b] pos) (eB (eBin g fa fb)) :=
  (pt_cmpR ho ha hb hm).imp fun σ H Q ⟨Z, env, ρ, B, hp, d, hp', S, e, k⟩ => by
    obtain ⟨x, hp1, e1, e2⟩ := bind_some e
    obtain ⟨rfl, rfl⟩ := asB_some e2
    exact eBin_imp (tD.run S e1 fun v ρ1 B1 H1 g1 S1 r1 => ⟨d, r1.blI, k ρ1 B1 H1 g1 S1.wo⟩)
def eOr (f g : DTx) : DTx := fun env => do if ← f env then pure true else g env
def eNot (f : DTx) : DTx := fun env => do let b ← f env; pure (!b)
def eAndV (f g : DEx) : DEx := fun env => do if ← asB (← f env) then g env else pure (.bl false)
theorem tDT.run {K : PySem.W.Frag} {f : DTx} {Z : Ent} {env : En} {σ : St} {ρ : List Addr} {B : Addr → Prop} {hp hp1 : Hs} {H : Hp} {d : Bool} {Q : Bool → Hp → Prop} (S : SOk K Z env σ ρ B hp H) (e : f env hp = some (d, hp1))
    (k : ∀ ρ' B' H', Gr K ρ B H ρ' B' H' → SOk K Z env σ ρ' B' hp1 H' → Q d H') : tDT K f σ H Q :=
  ⟨Z, env, ρ, B, hp, d, hp1, S, e, fun ρ' B' H' g W => k ρ' B' H' g (S.grow g W)⟩
variable {ca cb : DTx} {rest : List Expr}
theorem dw_or1 (h : DT X a ca) : DW X (.BoolOp .Or [a] pos) ca := pw_or1 h
theorem dw_or (ha : DT X a ca) (hb : DW X (.BoolOp .Or (b :: rest) pos) cb) : DW X (.BoolOp .Or (a :: b :: rest) pos) (eOr ca cb) :=
  (pw_or ha hb).imp fun σ H Q ⟨Z, env, ρ, B, hp, d, hp', S, e, k⟩ => by
    obtain ⟨x, hp1, e1, e2⟩ := bind_some e
    refine tDT.run S e1 fun ρ1 B1 H1 g1 S1 => ?_
    cases x with
    | false => exact iteF (tDT.run S1 e2 fun ρ2 B2 H2 g2 S2 => k ρ2 B2 H2 (g1.trans g2) S2.wo)
    | true =>
      obtain ⟨rfl, rfl⟩ := pure_some e2
      exact iteT (k ρ1 B1 H1 g1 S1.wo)
theorem DW.pt {e : Expr} {f : DTx} (h : DW X e f) : DT X e f := h _
theorem dt_not (h : DT X a ca) : DT X (.UnaryOp .Not a pos) (eNot ca) :=
  (pt_not h).imp fun σ H Q ⟨Z, env, ρ, B, hp, d, hp', S, e, k⟩ => by
    obtain ⟨x, hp1, e1, e2⟩ := bind_some e
    obtain ⟨rfl, rfl⟩ := pure_some e2
    exact tDT.run S e1 fun ρ1 B1 H1 g1 S1 => k ρ1 B1 H1 g1 S1.wo
theorem de_one {op : BoolOp} (h : DE X a fa) : DE X (.BoolOp op [a] pos) fa := pe_one h
theorem de_and (ha : DE X a fa) (hb : DE X (.BoolOp .And (b :: rest) pos) fb) : DE X (.BoolOp .And (a :: b :: rest) pos) (eAndV fa fb) :=
  (pe_and ha hb).imp fun σ H Q ⟨Z, env, ρ, B, hp, d, hp', S, e, k⟩ => by
    obtain ⟨x, hp1, e1, e2⟩ := bind_some e
    obtain ⟨c, hp2, e3, e4⟩ := bind_some e2
    obtain ⟨rfl, rfl⟩ := asB_some e3
    refine tD.run S e1 fun v ρ1 B1 H1 g1 S1 r1 => ⟨c, r1.blI, ?_⟩
    cases c with
    | true => exact iteT (tD.run S1 e4 fun v ρ2 B2 H2 g2 S2 r2 => k v ρ2 B2 H2 (g1.trans g2) S2.wo r2)
    | false =>
      obtain ⟨rfl, rfl⟩ := pure_some e4
      exact iteF (k _ ρ1 B1 H1 g1 S1.wo rep_bl)
def aNil : DAx := fun _ => pure []
def aCons (f : DEx) (g : DAx) : DAx := fun env => do let x ← f env; let xs ← g env; pure (x :: xs)
theorem tDA.run {K : PySem.W.Frag} {f : DAx} {Z : Ent} {env : En} {σ : St} {ρ : List Addr} {B : Addr → Prop} {hp hp1 : Hs} {H : Hp} {ds : List DV} {Q : List V → Hp → Prop} (S : SOk K Z env σ ρ B hp H) (e : f env hp = some (ds, hp1))
    (k : ∀ vs ρ' B' H', Gr K ρ B H ρ' B' H' → SOk K Z env σ ρ' B' hp1 H' → RepL K ρ' B' H' ds vs → Q vs H') : tDA K f σ H Q :=
  ⟨Z, env, ρ, B, hp, ds, hp1, S, e, fun vs ρ' B' H' g W r => k vs ρ' B' H' g (S.grow g W) r⟩
theorem da_nil : DA X [] aNil := pa_nil.imp fun σ H Q ⟨Z, env, ρ, B, hp, ds, hp', S, e, k⟩ => by
  obtain ⟨rfl, rfl⟩ := pure_some e
  exact k [] ρ B H Gr.refl S.wo RepL.nil
theorem da_cons {e : Expr} {es : List Expr} {f : DEx} {g : DAx} (ha : DE X e f) (hr : DA X es g) (hs : starEach (e :: es) X.env = (false, eval e X.env) :: starEach es X.env := by rfl) : DA X (e :: es) (aCons f g) :=
  (pa_cons ha hr hs).imp fun σ H Q ⟨Z, env, ρ, B, hp, ds, hp', S, e, k⟩ => by
    obtain ⟨x, hp1, e1, e2⟩ := bind_some e
    obtain ⟨xs, hp2, e3, e4⟩ := bind_some e2
    obtain ⟨rfl, rfl⟩ := pure_some e4
    exact tD.run S e1 fun v ρ1 B1 H1 g1 S1 r1 => tDA.run S1 e3 fun vs ρ2 B2 H2 g2 S2 r2 => k _ ρ2 B2 H2 (g1.trans g2) S2.wo (RepL.cons (RepV.grow S1.wo.rb g2 _ _ r1) r2)
def lim : Nat := 100000
theorem lim_le : lim ≤ sizeLine := by decide
def guardM (c : Bool) : M Unit := if c then pure () else failure
theorem guardM_some {c : Bool} {hp hp' : Hs} {u : Unit} (h : guardM c hp = some (u, hp')) : c = true ∧ hp = hp' := by
  cases c with
  | true => obtain ⟨_, rfl⟩ := pure_some (show (pure () : M Unit) hp = some (u, hp') from h); exact ⟨rfl, rfl⟩
  | false => cases h
def short (ds : List DV) : Bool := decide (ds.length ≤ lim)
theorem short_ok {ds : List DV} (h : short ds = true) : ds.length ≤ sizeLine := Nat.le_trans (of_decide_eq_true h) lim_le
def eTup (f : DAx) : DEx := fun env => do let xs ← f env; guardM (short xs); pure (.tup xs)
def eLst (f : DAx) : DEx := fun env => do let xs ← f env; guardM (short xs); pure (.lst xs)
theorem fol_tup {K : PySem.W.Frag} {ρ : List Addr} {B : Addr → Prop} {H : Hp} {hp : Hs} {ds : List DV} {xs : List V} {Q : VK} (W : WOk K ρ B hp H) (r : RepL K ρ B H ds xs) (k : Fol K ρ B H (.tup ds) hp Q) : ∀ p, H p = none → Q (.ref p) (upd H p (.tup xs)) := fun p hp' =>
  k _ ρ B _ (Gr.laid hp') (W.laid hp') (rep_tup (fun z => W.bt p z hp') (SqT.of upd_same) (RepL.grow W.rb (Gr.laid hp') _ _ r))
theorem fol_lst {K : PySem.W.Frag} {ρ : List Addr} {B : Addr → Prop} {H : Hp} {hp : Hs} {ds : List DV} {xs : List V} {Q : VK} (W : WOk K ρ B hp H) (r : RepL K ρ B H ds xs) (k : Fol K ρ B H (.lst ds) hp Q) : ∀ p, H p = none → Q (.ref p) (upd H p (.lst xs)) := fun p hp' =>
  k _ ρ B _ (Gr.laid hp') (W.laid hp') (rep_lst (fun z => W.bt p z hp') (SqL.of upd_same) (RepL.grow W.rb (Gr.laid hp') _ _ r))
theorem Fol.after {K : PySem.W.Frag} {ρ ρ1 : List Addr} {B B1 : Addr → Prop} {H H1 : Hp} {hp' : Hs} {d : DV} {Q : VK} (g : Gr K ρ B H ρ1 B1 H1) (k : Fol K ρ B H d hp' Q) : Fol K ρ1 B1 H1 d hp' Q := fun v ρ' B' H' g' W r => k v ρ' B' H' (g.trans g') W r
theorem de_tup {es : List Expr} {f : DAx} {x1} (h : DA X es f) : DE X (.Tuple es x1 pos) (eTup f) :=
  (pe_tup h).imp fun σ H Q ⟨Z, env, ρ, B, hp, d, hp', S, e, k⟩ => by
    obtain ⟨xs, hp1, e1, e2⟩ := bind_some e
    obtain ⟨_, hp2, e3, e4⟩ := bind_some e2
    obtain ⟨hs, rfl⟩ := guardM_some e3
    obtain ⟨rfl, rfl⟩ := pure_some e4
    exact tDA.run S e1 fun vs ρ1 B1 H1 g1 S1 r1 => ⟨by rw [← r1.length]; exact short_ok hs, fol_tup S1.wo r1 (k.after g1)⟩
theorem de_lst {es : List Expr} {f : DAx} (h : DA X es f) : DE X (.List es pos) (eLst f) :=
  (pe_lst h).imp fun σ H Q ⟨Z, env, ρ, B, hp, d, hp', S, e, k⟩ => by
    obtain ⟨xs, hp1, e1, e2⟩ := bind_some e
    obtain ⟨_, hp2, e3, e4⟩ := bind_some e2
    obtain ⟨hs, rfl⟩ := guardM_some e3
    obtain ⟨rfl, rfl⟩ := pure_some e4
    exact tDA.run S e1 fun vs ρ1 B1 H1 g1 S1 r1 => ⟨by rw [← r1.length]; exact short_ok hs, fol_lst S1.wo r1 (k.after g1)⟩
end
end D
namespace L2
open PySem PySem.Spec PyProof.Rows
def cxComp (X : Cx) (scope : Scope) (cl : List (Str × Addr)) (C : Addr) (N : List Str) (s₀ : Shared) (H₀ : Hp) (ex : List Addr) : Cx where
  prog := X.prog
  w := X.w
  K := X.K
  mg := X.mg
  base := X.base
  A := X.A
  N := N
  s₀ := s₀
  H₀ := H₀
  env := compEnvC scope cl C X.env
  outer := X.stack
  stack := X.stack
  ex := ex
  fn := fun _ => false
  calm := X.calm
  pn := []
  xe := fun _ _ => False
def AllP {α : Type} (P : α → Prop) : List α → Prop
  | [] => True
  | x :: r => P x ∧ AllP P r
theorem AllP.mem {α : Type} {P : α → Prop} : ∀ {l : List α} {x : α}, AllP P l → x ∈ l → P x
  | [], _, _, h => nomatch h
  | y :: r, x, ⟨h1, h2⟩, h => (List.mem_cons.mp h).elim (fun e => e ▸ h1) fun e => AllP.mem h2 e
def Caps (X : Cx) (scope : Scope) (cl : List (Str × Addr)) : List Str → List Nat → Prop
  | [], [] => True
  | y :: ys, i :: is => X.N[i]? = some y ∧ (X.env.kindOf y = some .cell ∨ X.env.kindOf y = some .free) ∧ (∃ c, cl.lookup y = some c) ∧
      (relabel scope X.env).names.lookup y ≠ some .local ∧ Caps X scope cl ys is
  | _, _ => False
theorem Caps.get {X : Cx} {scope : Scope} {cl : List (Str × Addr)} : ∀ {ys : List Str} {is : List Nat} {j : Nat} {y : Str}, Caps X scope cl ys is → ys[j]? = some y →
    ∃ i, is[j]? = some i ∧ X.N[i]? = some y ∧ (X.env.kindOf y = some .cell ∨ X.env.kindOf y = some .free) ∧ (∃ c, cl.lookup y = some c) ∧ (relabel scope X.env).names.lookup y ≠ some .local
  | [], _, _, _, _, h => by simp at h
  | y :: ys, [], _, _, h, _ => by simp [Caps] at h
  | y :: ys, i :: is, 0, z, ⟨h1, h2, h3, h4, _⟩, h => by simp at h; subst h; exact ⟨i, rfl, h1, h2, h3, h4⟩
  | y :: ys, i :: is, j + 1, z, ⟨_, _, _, _, h5⟩, h => by
    obtain ⟨k, a, b⟩ := Caps.get h5 (by simpa using h)
    exact ⟨k, by simpa using a, b⟩
theorem Caps.length {X : Cx} {scope : Scope} {cl : List (Str × Addr)} : ∀ {ys : List Str} {is : List Nat}, Caps X scope cl ys is → ys.length = is.length
  | [], [], _ => rfl
  | [], _ :: _, h => by simp [Caps] at h
  | _ :: _, [], h => by simp [Caps] at h
  | _ :: ys, _ :: is, ⟨_, _, _, _, h⟩ => by simp [Caps.length h]
structure CompS (X : Cx) (x : Str) (scope : Scope) (cl : List (Str × Addr)) (caps : List Str) (idx : List Nat) : Prop where
  clos : closureFor scope X.env = pure cl
  cell : ∀ y ∈ scope.names, y.2 ≠ .cell
  kind : scope.kind = .function
  names : ∀ y ∈ scope.names, y.2 = .local → scope.names.lookup y.1 = some .local
  hx : scope.names.lookup x = some .local
  cls : AllP (fun p : Str × Addr => X.env.cells.lookup p.1 = some p.2) cl
  has : ((relabel scope X.env).names.all fun p => !(p.2 == .cell || p.2 == .free) || (cl.lookup p.1).isSome) = true
  cps : Caps X scope cl caps idx
  nd : (x :: caps).Nodup
def cσ (idx : List Nat) (σ : St) (o : Option V) : St := o :: idx.map fun i => (σ[i]?).join
def PTs (X : Cx) (ifs : List Expr) (t : TT) : Prop :=
  ∀ (pins : List (Addr × Obj)) (s : Shared) (σ : St) (H : Hp) (Q : Bool → Hp → Prop), Inv X pins σ H s → t σ H Q →
    wpAny (model X.prog X.w) X.A (forIn ifs true fun c r => if r = true then do let ok ← isTrue c X.env (eval c X.env); pure (ForInStep.yield ok) else pure (ForInStep.yield r)) (TP X pins σ Q) X.xe s
theorem pts_nil {X : Cx} : PTs X [] (fun _ H Q => Q true H) := fun pins s σ H Q I h => wpAny_tests_nil ⟨H, I, h⟩
theorem pts_one {X : Cx} {c : Expr} {t : TT} (h : PT X c t) : PTs X [c] t := fun pins s σ H Q I q => wpAny_tests_one (h pins s σ H Q I q)
section
variable {prog : Program} {w : World} {A : Around} {R : Result → Shared → Prop} {s : Shared}
theorem compLoop_any {elt target iter : Expr} {ifs : List Expr} {scope : Scope} {pos : Pos} {it acc : Value} {env : Env} (I : Nat → Shared → Prop)
    (turn : ∀ n s, I n s → wpAny (model prog w) A (pyNext it) (fun r s₁ => match r with
      | none => R (.ok .next) s₁
      | some v => wpAny (model prog w) A (letOwnedTupleGo target it v) (fun _ s₁' => wpAny (model prog w) A (assign target env v) (fun _ s₂ =>
          wpAny (model prog w) A (forIn ifs true fun c r => if r = true then do let ok ← isTrue c env (eval c env); pure (ForInStep.yield ok) else pure (ForInStep.yield r)) (fun ok s₃ =>
            if ok = true then wpAny (model prog w) A (eval elt env) (fun x s₄ =>
              wpAny (model prog w) A (call (.builtin "list.append") [acc, x]) (fun _ s₅ => ∃ m, m < n ∧ I m s₅) (fun _ _ => False) s₄) (fun _ _ => False) s₃
            else ∃ m, m < n ∧ I m s₃) (fun _ _ => False) s₂) (fun _ _ => False) s₁') (fun _ _ => False) s₁) (fun _ _ => False) s)
    (n : Nat) (h : I n s) :
    codeAny (model prog w) A (.compLoop (.ListComp elt [⟨target, iter, ifs, 0⟩] scope pos) 0 it acc env) R s := by
  refine codeAny_loop rfl I (fun n s hI => ?_) n h
  show wpAny _ A ((compTurn (.ListComp elt [⟨target, iter, ifs, 0⟩] scope pos) 0 it acc env).onRaise (fun x => do noteFrame x env; theTreesLotGoes x)) _ _ s
  refine wpAny_noted ?_
  rw [compTurn_list]
  refine wpAny_bind (wpAny_standAt (wpAny_bind (wpAny_mono (turn n s hI) (fun r s₁ h₁ => ?_) fun _ _ h' => h'.elim)))
  cases r with
  | none => exact wpAny_pure h₁
  | some v =>
    refine wpAny_bind (wpAny_mono h₁ (fun _ s₁' h₁' => ?_) fun _ _ h' => h'.elim)
    refine wpAny_bind (wpAny_mono h₁' (fun _ s₂ h₂ => wpAny_bind (wpAny_mono h₂ (fun ok s₃ h₃ => ?_) fun _ _ h' => h'.elim)) fun _ _ h' => h'.elim)
    cases ok with
    | false => exact wpAny_pure ⟨rfl, h₃⟩
    | true =>
      exact wpAny_bind (wpAny_bind (wpAny_mono h₃ (fun x s₄ h₄ => wpAny_bind (wpAny_mono h₄ (fun _ s₅ h₅ => wpAny_pure (wpAny_pure ⟨rfl, h₅⟩)) fun _ _ h' => h'.elim)) fun _ _ h' => h'.elim))
end
def tComp (K : PySem.W.Frag) (wi : TI) (tt : TT) (te : TE) (idx : List Nat) : TE := fun σ H Q => wi σ H fun J H1 => ∀ D, H1 D = none → K.lookup D = none → ∃ W : Nat → Nat → List V → Hp → Prop, (∃ m, W 0 m [] (upd H1 D (.lst []))) ∧
  ∀ i m ys H, W i m ys H → H D = some (.lst ys) ∧ ((J.stop i H ∧ Q (.ref D) H) ∨ (J.go i H ∧ ∀ x H', J.yld i H x H' → tt (cσ idx σ (some x)) H' fun b H2 =>
    if b = true then te (cσ idx σ (some x)) H2 fun y H3 => H3 D = some (.lst ys) ∧ ys.length < sizeLine ∧ ∃ m', m' < m ∧ W (i + 1) m' (ys ++ [y]) (upd H3 D (.lst (ys ++ [y])))
    else ∃ m', m' < m ∧ W (i + 1) m' ys H2))
section
variable {X : Cx} {elt iter : Expr} {x : Str} {px : Pos} {ifs : List Expr} {scope : Scope} {cl : List (Str × Addr)} {pos : Pos} {caps : List Str} {idx : List Nat} {wi : TI} {tt : TT} {te : TE}
theorem comp_run {E : Value → Shared → Prop} {use : Option (Value → Sem Unit)} {QQ : Value → Shared → Prop} {newpos : Pos} (S : CompS X x scope cl caps idx) (hc : X.calm = true) (hi : PI X (.Name x px) iter wi)
    (ht : ∀ C s₀ H₀ ex, PTs (cxComp X scope cl C (x :: caps) s₀ H₀ ex) ifs tt) (he : ∀ C s₀ H₀ ex, PE (cxComp X scope cl C (x :: caps) s₀ H₀ ex) elt te)
    {pins : List (Addr × Obj)} {s : Shared} {σ : St} {H : Hp} {Q : VK} (I : Inv X pins σ H s) (h : tComp X.K wi tt te idx σ H Q)
    (hE : X.xe = E)
    (hend : ∀ (D C : Addr) (H' : Hp) (s' : Shared) (m : Str → Option Value), Inv X pins σ H' s' → Q (.ref D) H' → s'.heap.Ns C m → H' C = none → C ≠ X.env.locals → X.s₀.heap.objs.size ≤ C → (∀ x c, X.env.cells.lookup x = some c → c ≠ C) → (∀ p ∈ X.pn ++ pins, p.1 ≠ C) →
      compPost (model X.prog X.w) X.A E use QQ (.ref D) C (.ok .next) s')
    (hs : ∀ x, foldedSetIterable iter X.env x = pure x := by intro _; rfl) :
    wpAny (model X.prog X.w) X.A (comprehension (.ListComp elt [⟨.Name x px, iter, ifs, 0⟩] scope pos) scope X.env newpos (newList []) false (eval iter X.env) use) QQ E s := by
  subst hE
  refine wpAny_comprehension_free (use := use) rfl hs S.clos S.kind S.names (thn (hi pins s σ H _ I h) fun xv s1 h1 => thn h1 fun itv s2 h2 => ?_)
  obtain ⟨it, fp, tn, J, H2, rfl, I2, T, st2, f2, hQ⟩ := h2
  refine wpAny_newObj_type (wpAny_newFunctionEnv S.cell (by intro y hy; simp at hy) (fun h₁ hns₁ hsb₁ => ?_) S.kind)
  dsimp only at hns₁ hsb₁ ⊢
  generalize hH2 : s2.heap.push { cls := .type "list", dict := none, data := .seq ([] : List Value).toArray } = hp3 at hns₁ hsb₁ ⊢
  have hC : hp3.objs.size = s2.heap.objs.size + 1 := by rw [← hH2, Heap.size_push]
  have keep3 : ∀ b o, s2.heap.get? b = some o → hp3.get? b = some o := fun b o e => hH2 ▸ Heap.get?_push_of_some _ e
  have hDf : H2 s2.heap.objs.size = none := I2.hok.fresh (Nat.le_refl _)
  have I3 : Inv X pins σ (upd H2 s2.heap.objs.size (.lst [])) { s2 with heap := hp3 } :=
    I2.laid (t' := s2.toks) keep3 (Nat.le_refl _) ⟨Nat.zero_le _, [], _, .nil, hH2 ▸ Heap.get?_push_size _ rfl⟩
  have hDk : X.K.lookup s2.heap.objs.size = none := by
    cases q : X.K.lookup s2.heap.objs.size with
    | none => rfl
    | some o => exact absurd (Heap.lt_size (I2.kIn _ o q)) (Nat.lt_irrefl _)
  obtain ⟨W, ⟨m0, w0⟩, turn⟩ := hQ _ hDf hDk
  generalize hDd : s2.heap.objs.size = D at *
  generalize hCc : hp3.objs.size = C at *
  have ltC : ∀ b o, hp3.get? b = some o → b ≠ C := fun b o e => by rw [← hCc]; exact Nat.ne_of_lt (Heap.lt_size e)
  have keep4 : ∀ b o, hp3.get? b = some o → h₁.get? b = some o := fun b o e => hsb₁.extBut b o (ltC b o e) (Heap.get?_push_of_some _ e)
  have s3sz : ({ s2 with heap := hp3 } : Shared).heap.objs.size = C := hCc
  have clE : ∀ y c, cl.lookup y = some c → X.env.cells.lookup y = some c := fun y c e => S.cls.mem (PySem.mem_of_lookup e)
  have fpLt : ∀ b ∈ fp, ∃ o, s2.heap.get? b = some o := fun b hb => let ⟨o, e, _⟩ := T.obj _ _ st2 b hb; ⟨o, e⟩
  have fpC : ∀ b ∈ fp, b ≠ C := fun b hb => let ⟨o, e⟩ := fpLt b hb; ltC b o (keep3 b o e)
  have fpD : ∀ b ∈ fp, b ≠ D := fun b hb => let ⟨o, e⟩ := fpLt b hb; by rw [← hDd]; exact Nat.ne_of_lt (Heap.lt_size e)
  have fr3 : ∀ b ∈ fp, (upd H2 D (.lst [])) b = none := fun b hb => by rw [upd_ne (fpD b hb)]; exact (f2 b hb).1
  have cellLt : ∀ y c, X.env.cells.lookup y = some c → c ≠ C := fun y c e => let ⟨v, o, ho, _⟩ := I3.cell y c e; ltC c o ho
  have fpStk : ∀ b ∈ fp, b ∉ frs X.stack := fun b hb z => (List.mem_cons.mp (I2.stkSub b z)).elim (f2 b hb).2.1 (f2 b hb).2.2.1
  let X' := cxComp X scope cl C (x :: caps) { s2 with heap := hp3 } (upd H2 D (.lst [])) fp
  have ok' : X'.Ok := by
    refine ⟨I3.ok.mod, by show (relabel scope X.env).kind = _; exact S.kind, I3.ok.glob, I3.ok.blt, by show hp3.objs.size ≤ C; rw [hCc]; exact Nat.le_refl _, fun y z c h1 h2 => I3.ok.inj y z c (clE y c h1) (clE z c h2), fun y hy => ?_,
      fun y c z => (by cases z), I3.ok.hd, I3.ok.frames, .inl rfl, fun b hb => ⟨fpC b hb, fun y c e => (f2 b hb).2.2.2.2.1 y c (clE y c e)⟩, I3.bs, Nat.le_trans I3.ok.bsz I3.sz,
      fun b o e hb => ?_, fun b hb => fpStk b hb, I3.stack, I3.stkFree⟩
    · have hy' : (relabel scope X.env).names.lookup y = some .cell ∨ (relabel scope X.env).names.lookup y = some .free := hy
      have q := S.has
      rw [List.all_eq_true] at q
      have : (cl.lookup y).isSome = true := by
        rcases hy' with z | z
        · have q := q _ (PySem.mem_of_lookup z); simpa using q
        · have q := q _ (PySem.mem_of_lookup z); simpa using q
      exact Option.isSome_iff_exists.mp this
    · have := (f2 b hb).2.2.2.1
      have e3 := (I2.ok.bs b o e).1
      rcases this with z | z
      · exact I2.ok.noex b o e z
      · exact absurd (Nat.lt_of_lt_of_le (Heap.lt_size e3) z) (Nat.lt_irrefl _)
  have capsLen := S.cps.length
  have I4 : Inv X' [] (cσ idx σ none) (upd H2 D (.lst [])) { s2 with heap := h₁, toks := s2.toks + ([] : List (Str × Value)).length } := by
    refine ⟨ok', rfl, I3.bare, Un.kept keep4, ⟨_, hns₁, fun i y v e1 e2 e3 => ?_⟩, fun y c e => ?_, ?_, fun y c e => I3.freeC y c (clE y c e), fun p hp => absurd (show p ∈ ([] : List (Addr × Obj)) from hp) (by simp), I3.hok.kept keep4, ?_⟩
    · cases i with
      | zero => exact absurd e2 (by simp [cσ])
      | succ j =>
        obtain ⟨k, h1, h2, h3, ⟨c, h4⟩, h5⟩ := S.cps.get (show caps[j]? = some y by have e1' : (x :: caps)[j + 1]? = some y := e1; simpa using e1')
        have e2' : (σ[k]?).join = some v := by simpa [cσ, h1] using e2
        have e2'' : σ[k]? = some (some v) := by
          cases q : σ[k]? with
          | none => rw [q] at e2'; cases e2'
          | some z => rw [q] at e2'; exact congrArg some e2'
        obtain ⟨mL, hnL, hl⟩ := I3.loc
        have vis : Vis X.env.scope y := by rcases h3 with z | z; exact .inr (.inl z); exact .inr (.inr z)
        obtain ⟨u, r, l⟩ := hl k y v h2 e2'' vis
        refine ⟨u, r, .inr ⟨?_, c, h4, ?_⟩⟩
        · have e3' : (relabel scope X.env).names.lookup y = some .local ∨ (relabel scope X.env).names.lookup y = some .cell ∨ (relabel scope X.env).names.lookup y = some .free := e3
          rcases e3' with z | z | z
          · exact absurd z h5
          · exact .inl z
          · exact .inr z
        · rcases l with ⟨z, _⟩ | ⟨_, c', e, z⟩
          · rcases h3 with q | q <;> · rw [q] at z; cases z
          · rw [clE y c h4] at e; cases e
            obtain ⟨o, ho, hd⟩ := z
            exact ⟨o, keep4 _ _ ho, hd⟩
    · obtain ⟨v, o, ho, hd⟩ := I3.cell y c (clE y c e)
      exact ⟨v, o, keep4 _ _ ho, hd⟩
    · exact I3.hok.fresh (by show hp3.objs.size ≤ C; rw [hCc]; exact Nat.le_refl _)
    · simp [cσ, X', cxComp, capsLen]
  have st4 : tn 0 h₁ := T.keep _ _ _ st2 fun b _ o e => keep4 b o (keep3 b o e)
  have fpX : ∀ {H' : Hp} {pins' : List (Addr × Obj)}, (∀ b ∈ fp, H' b = none) → (pins' = []) → ∀ b ∈ fp, FpOk X' pins' H' b := fun hn e b hb => by
    subst e
    exact ⟨hn b hb, fpC b hb, fpStk b hb, .inl hb, fun y c e => (f2 b hb).2.2.2.2.1 y c (clE y c e), fun p hp => absurd (show p ∈ ([] : List (Addr × Obj)) from hp) (by simp)⟩
  have loop : ∀ s₃ : Shared, s₃ = { s2 with heap := h₁, toks := s2.toks + ([] : List (Str × Value)).length } →
      codeAny (model X.prog X.w) X.A (.compLoop (.ListComp elt [⟨.Name x px, iter, ifs, 0⟩] scope pos) 0 (.ref it) (.ref D) (compEnvC scope cl C X.env)) (compPost (model X.prog X.w) X.A X.xe use QQ (.ref D) C) s₃ := by
    rintro s₃ rfl
    refine compLoop_any (fun n s' => ∃ i o H' ys, Inv X' [] (cσ idx σ o) H' s' ∧ tn i s'.heap ∧ (∀ b ∈ fp, H' b = none) ∧ W i n ys H') ?_ m0 ⟨0, none, _, [], I4, st4, fr3, w0⟩
    rintro n s5 ⟨i, o, H5, ys, I5, st5, fr5, w5⟩
    obtain ⟨hD, tw⟩ := turn i n ys H5 w5
    rcases tw with ⟨stop, q⟩ | ⟨go, step⟩
    · refine thn (T.done X' rfl rfl rfl hc i [] s5 _ H5 _ I5 (fpX fr5 rfl) st5 stop) fun r s6 ⟨hr, I6⟩ => ?_
      subst hr
      obtain ⟨m6, hn6, _⟩ := I6.loc
      have I7 : Inv X pins σ H5 s6 := I3.call' (s' := s6) (ch := fp) I6.os I6.base I6.hok I6.bare fun b hb => ⟨(f2 b hb).2.2.2.1, (f2 b hb).2.1, (f2 b hb).2.2.2.2.1, (f2 b hb).2.2.2.2.2⟩
      refine hend D C H5 s6 m6 I7 q hn6 I6.free ?_ ?_ cellLt fun p hp => ?_
      · rw [← hCc]; exact Nat.ne_of_gt I3.lt
      · rw [← hCc]; exact I3.sz
      · exact ltC p.1 p.2 (I3.pin p hp).1
    · refine thn (T.item X' rfl rfl rfl hc i [] s5 _ H5 _ I5 (fpX fr5 rfl) st5 go) fun r s6 ⟨u, hr, h6⟩ => ?_
      subst hr
      refine thn h6 fun _ s7 ⟨y, H7, I7, r7, y7, st7, fr7⟩ => ?_
      have I7' := I7.pinned (fpX fr7 rfl) (T.obj _ _ st7)
      refine thn (pg_name (X := X') (i := 0) S.nd rfl (.inl (lookup_relabel_local S.hx)) (.inr (lookup_relabel_local S.hx)) _ s7 _ H7 y u (fun σ' H' => σ' = cσ idx σ (some y) ∧ H' = H7) I7' r7 ⟨rfl, rfl⟩) fun _ s8 ⟨σ8, H8, I8, e8, e8'⟩ => ?_
      subst e8
      subst e8'
      have again : ∀ {H9 : Hp} {s9 : Shared} {ys' : List V}, Inv X' ([] ++ pinsAt fp s7.heap) (cσ idx σ (some y)) H9 s9 → (∃ m', m' < n ∧ W (i + 1) m' ys' H9) →
          ∃ m, m < n ∧ ∃ i o H' ys, Inv X' [] (cσ idx σ o) H' s9 ∧ tn i s9.heap ∧ (∀ b ∈ fp, H' b = none) ∧ W i m ys H' := fun {H9 s9 ys'} I9 ⟨m', hm, w9⟩ => by
        refine ⟨m', hm, i + 1, some y, H9, ys', I9.unpinned, T.keep _ _ _ st7 fun b hb o e => (I9.pin (b, o) (List.mem_append_right _ (List.mem_append_right _ (mem_pinsAt hb e)))).1, fun b hb => ?_, w9⟩
        obtain ⟨o, e, d⟩ := T.obj _ _ st7 b hb
        exact (I9.pin (b, o) (List.mem_append_right _ (List.mem_append_right _ (mem_pinsAt hb e)))).2.1
      refine thn (ht _ _ _ _ _ s8 _ H8 _ I8 (step y H8 y7)) fun ok s9 ⟨H9, I9, q9⟩ => ?_
      cases ok with
      | false => exact again I9 (by rw [if_neg Bool.false_ne_true] at q9; exact q9)
      | true =>
        rw [if_pos rfl] at q9 ⊢
        refine thn (he _ _ _ _ _ s9 _ H9 _ I9 q9) fun v s10 ⟨z, H10, I10, r10, hD10, hlen, m', hm, w10⟩ => ?_
        refine thn (mt_append (X := X') _ s10 _ H10 (.ref D) [z] (.ref D) [v] (fun _ H' => H' = upd H10 D (.lst (ys ++ [z]))) I10 rfl (.cons r10 .nil) ⟨D, ys, z, rfl, rfl, hD10, hlen, rfl⟩) fun _ s11 ⟨_, H11, I11, _, e11⟩ => ?_
        subst e11
        exact again I11 ⟨m', hm, w10⟩
  exact codeAny_compStart_list (loop _ rfl) (T.self X.A 0 _ _ _ st4 (loop _ rfl))
end
end L2
namespace L2
open PySem PySem.Spec PyProof.Rows
section
variable {X : Cx} {elt iter : Expr} {x : Str} {px : Pos} {ifs : List Expr} {scope : Scope} {cl : List (Str × Addr)} {pos : Pos} {caps : List Str} {idx : List Nat} {wi : TI} {tt : TT} {te : TE}
theorem pe_comp (S : CompS X x scope cl caps idx) (hc : X.calm = true) (hi : PI X (.Name x px) iter wi)
    (ht : ∀ C s₀ H₀ ex, PTs (cxComp X scope cl C (x :: caps) s₀ H₀ ex) ifs tt) (he : ∀ C s₀ H₀ ex, PE (cxComp X scope cl C (x :: caps) s₀ H₀ ex) elt te)
    (hs : ∀ x, foldedSetIterable iter X.env x = pure x := by intro _; rfl) : PE X (.ListComp elt [⟨.Name x px, iter, ifs, 0⟩] scope pos) (tComp X.K wi tt te idx) := by
  intro pins s σ H Q I h
  rw [eval_ListComp]
  refine comp_run (use := none) S hc hi ht he I h rfl (fun D C H' s' m I' q hn hC h1 h2 h3 h4 => ?_) hs
  show ∃ m, s'.heap.Ns C m ∧ ∀ h', Heap.SameBut C s'.heap h' → EP X pins σ Q (.ref D) { s' with heap := h' }
  exact ⟨m, hn, fun h' hs => ⟨.ref D, H', I'.turned (t' := s'.toks) (fun b o hb e => hs.extBut b o hb e) hC (Ne.symm (Ne.symm h1)) (.inr h2) h3 h4, rfl, q⟩⟩
theorem ps_comp {i : Nat} {y : Str} {py spos : Pos} (S : CompS X x scope cl caps idx) (hc : X.calm = true) (hi : PI X (.Name x px) iter wi)
    (ht : ∀ C s₀ H₀ ex, PTs (cxComp X scope cl C (x :: caps) s₀ H₀ ex) ifs tt) (he : ∀ C s₀ H₀ ex, PE (cxComp X scope cl C (x :: caps) s₀ H₀ ex) elt te)
    (hN : X.N.Nodup) (hy : X.N[i]? = some y) (hx : Loc X.env.scope y) (hsw : swapsWith (.ListComp elt [⟨.Name x px, iter, ifs, 0⟩] scope pos) (some (.Name y py)) spos.line X.env = pure true)
    (hf : X.fn y = true ∨ X.env.scope.names.lookup y = some .local := by first | exact .inl rfl | exact .inr rfl | assumption)
    (hs : ∀ x, foldedSetIterable iter X.env x = pure x := by intro _; rfl) : PS X (.Assign [.Name y py] (.ListComp elt [⟨.Name x px, iter, ifs, 0⟩] scope pos) spos) (tAsg (tComp X.K wi tt te idx) (gName i)) := by
  intro pins s σ H D I h
  rw [exec_Assign_Name_used _ _ _ _ hsw]
  refine wpAny_bind (wpAny_standAt (wpAny_bind ?_))
  show wpAny _ X.A (do let _ ← comprehension (.ListComp elt [⟨.Name x px, iter, ifs, 0⟩] scope pos) scope X.env _ (newList []) false (eval iter X.env) (some (assign (.Name y py) X.env))) _ _ s
  refine wpAny_bind (wpAny_mono (comp_run (use := some (assign (.Name y py) X.env)) (QQ := fun _ s' => SP X pins D .next s') S hc hi ht he I h rfl (fun Da C H' s' m I' q hn hC h1 h2 h3 h4 => ?_) hs) (fun _ s' hq => wpAny_pure (wpAny_pure hq)) fun _ _ e => e)
  show wpAny _ X.A (assign (.Name y py) X.env (.ref Da)) (fun _ s'' => ∃ m, s''.heap.Ns C m ∧ ∀ h', Heap.SameBut C s''.heap h' → SP X pins D .next { s'' with heap := h' }) _ s'
  refine wpAny_assign_Name (store_ok2 I' hN hy hx (v := .ref Da) rfl (fun s'' I'' ⟨a, hs, ha⟩ => ?_) hf)
  refine ⟨m, hn.sameBut hs ?_, fun h' hs' => ⟨_, H', I''.turned (t' := s''.toks) (fun b o hb e => hs'.extBut b o hb e) hC h1 (.inr h2) h3 h4, q⟩⟩
  rcases ha with rfl | ha
  · exact h1
  · exact Ne.symm (h3 _ _ ha)
end
end L2
namespace D
open PySem PySem.Spec PyProof.Rows L2
section
variable {K : PySem.W.Frag} {Z : Ent} {env : En} {σ : St} {ρ ρ' : List Addr} {B B' : Addr → Prop} {hp hp' : Hs} {H H' : Hp}
theorem SOk.set {i : Nat} {d : DV} {v : V} (S : SOk K Z env σ ρ B hp H) (r : RepV K ρ B H d v) : SOk K Z (env.set i (.val d)) (σ.set i (some v)) ρ B hp H where
  gr := S.gr
  zb := S.zb
  wo := S.wo
  slot := fun j e h => by
    by_cases hj : j = i
    · subst hj
      have hl : j < env.length := by have := (List.getElem?_eq_some_iff.mp h).1; simpa using this
      rw [List.getElem?_set_self hl] at h; cases h
      exact ⟨v, List.getElem?_set_self (by rw [S.len]; exact hl), r⟩
    · rw [List.getElem?_set_ne (Ne.symm hj)] at h ⊢
      exact S.slot j e h
  accs := fun j ds h => by
    by_cases hj : j = i
    · subst hj
      have hl : j < env.length := by have := (List.getElem?_eq_some_iff.mp h).1; simpa using this
      rw [List.getElem?_set_self hl] at h; cases h
    · rw [List.getElem?_set_ne (Ne.symm hj)] at h ⊢
      exact S.accs j ds h
  adis := fun j k ds es a h1 h2 h3 h4 => by
    have nj : ∀ {j : Nat} {ds : List DV}, (env.set i (.val d))[j]? = some (.acc ds) → j ≠ i := fun {j ds} h e => by
      subst e
      have hl : j < env.length := by have := (List.getElem?_eq_some_iff.mp h).1; simpa using this
      rw [List.getElem?_set_self hl] at h; cases h
    have hj := nj h1
    have hk := nj h2
    rw [List.getElem?_set_ne (Ne.symm hj)] at h1 h3
    rw [List.getElem?_set_ne (Ne.symm hk)] at h2 h4
    exact S.adis j k ds es a h1 h2 h3 h4
  len := by simp [S.len]
end
section
variable {X : Cx} {e a b c : Expr} {f fa fb : DEx} {ca cb : DTx} {pos : Pos} {st : Stmt} {sts rest : List Stmt} {s s' : DSx}
theorem FolS.after {K : PySem.W.Frag} {Z : Ent} {ρ ρ1 : List Addr} {B B1 : Addr → Prop} {H H1 : Hp} {fl : Fl} {env' : En} {hp' : Hs} {D : Ends} (g : Gs K ρ B H ρ1 B1 H1) (k : FolS K Z ρ B H fl env' hp' D) : FolS K Z ρ1 B1 H1 fl env' hp' D :=
  fun σ' ρ' B' H' g' S => k σ' ρ' B' H' (g.trans g') S
def sNil : DSx := fun env => pure (.nx, env)
def sSeq (f g : DSx) : DSx := fun env => do
  let r ← f env
  match r.1 with
  | .nx => g r.2
  | _ => pure r
def sIf (c : DTx) (f g : DSx) : DSx := fun env => do if ← c env then f env else g env
def sRet (f : DEx) : DSx := fun env => do let d ← f env; pure (.rt d, env)
def sDrop (f : DEx) : DSx := fun env => do let _ ← f env; pure (.nx, env)
def sSet (i : Nat) (f : DEx) : DSx := fun env => do let d ← f env; pure (.nx, env.set i (.val d))
theorem dss_nil : DSs X [] sNil := pss_nil.imp fun D σ H ⟨Z, env, ρ, B, hp, fl, env', hp', S, e, k⟩ => by
  obtain ⟨e1, rfl⟩ := pure_some e
  cases e1
  exact k σ ρ B H Gs.refl S
theorem sSeq_imp {K : PySem.W.Frag} {D : Ends} {σ : St} {H : Hp} (h : tDS K (sSeq s s') D σ H) : tSeq (tDS K s) (tDS K s') D σ H := by
  obtain ⟨Z, env, ρ, B, hp, fl, env', hp', S, e, k⟩ := h
  obtain ⟨⟨f1, env1⟩, hp1, e1, e2⟩ := bind_some e
  refine ⟨Z, env, ρ, B, hp, f1, env1, hp1, S, e1, fun σ' ρ' B' H' g S' => ?_⟩
  cases f1 with
  | nx => exact ⟨Z, env1, ρ', B', hp1, fl, env', hp', S', e2, k.after g⟩
  | rt d => obtain ⟨z, rfl⟩ := pure_some e2; cases z; exact k σ' ρ' B' H' g S'
  | bk => obtain ⟨z, rfl⟩ := pure_some e2; cases z; exact k σ' ρ' B' H' g S'
  | ct => obtain ⟨z, rfl⟩ := pure_some e2; cases z; exact k σ' ρ' B' H' g S'
theorem dss_cons (h1 : DS X st s) (h2 : DSs X rest s') : DSs X (st :: rest) (sSeq s s') := (pss_cons h1 h2).imp fun _ _ _ h => sSeq_imp h
theorem dss_one (h1 : DS X st s) : DSs X [st] s := pss_one h1
theorem ds_if {x y : List Stmt} (hc : DT X c ca) (h1 : DSs X x s) (h2 : DSs X y s') : DS X (.If c x y pos) (sIf ca s s') :=
  (ps_if hc h1 h2).imp fun D σ H ⟨Z, env, ρ, B, hp, fl, env', hp', S, e, k⟩ => by
    obtain ⟨x, hp1, e1, e2⟩ := bind_some e
    refine tDT.run S e1 fun ρ1 B1 H1 g1 S1 => ?_
    cases x with
    | true => exact iteT ⟨Z, env, ρ1, B1, hp1, fl, env', hp', S1, e2, k.after (g1.gs S.wo.rb)⟩
    | false => exact iteF ⟨Z, env, ρ1, B1, hp1, fl, env', hp', S1, e2, k.after (g1.gs S.wo.rb)⟩
theorem ds_ret (h : DE X e f) : DS X (.Return (some e) pos) (sRet f) :=
  (ps_ret h).imp fun D σ H ⟨Z, env, ρ, B, hp, fl, env', hp', S, e, k⟩ => by
    obtain ⟨d, hp1, e1, e2⟩ := bind_some e
    obtain ⟨z, rfl⟩ := pure_some e2; cases z
    exact tD.run S e1 fun v ρ1 B1 H1 g1 S1 r1 => k σ ρ1 B1 H1 (g1.gs S.wo.rb) S1 v r1
theorem ds_expr (h : DE X e f) (hs : swapsWith e none pos.line X.env = pure false := by rfl) : DS X (.Expr e pos) (sDrop f) :=
  (ps_expr h hs).imp fun D σ H ⟨Z, env, ρ, B, hp, fl, env', hp', S, e, k⟩ => by
    obtain ⟨d, hp1, e1, e2⟩ := bind_some e
    obtain ⟨z, rfl⟩ := pure_some e2; cases z
    exact tD.run S e1 fun v ρ1 B1 H1 g1 S1 r1 => k σ ρ1 B1 H1 (g1.gs S.wo.rb) S1
theorem sSet_imp {K : PySem.W.Frag} {D : Ends} {σ : St} {H : Hp} {i : Nat} {t : TE} (ht : ∀ σ H Q, tD K f σ H Q → t σ H Q) (h : tDS K (sSet i f) D σ H) : tAsg t (gName i) D σ H := by
  obtain ⟨Z, env, ρ, B, hp, fl, env', hp', S, e, k⟩ := h
  obtain ⟨d, hp1, e1, e2⟩ := bind_some e
  obtain ⟨z, rfl⟩ := pure_some e2; cases z
  exact ht _ _ _ (tD.run S e1 fun v ρ1 B1 H1 g1 S1 r1 => k _ ρ1 B1 H1 (g1.gs S.wo.rb) (S1.set r1))
theorem ds_set (i : Nat) {x : Str} {pos' : Pos} (hN : X.N.Nodup) (he : DE X e f) (hi : X.N[i]? = some x := by rfl) (hx : Loc X.env.scope x := by first | exact Or.inl rfl | exact Or.inr rfl) (hs : swapsWith e (some (.Name x pos')) pos.line X.env = pure false := by rfl)
    (hf : X.fn x = true ∨ X.env.scope.names.lookup x = some .local := by first | exact .inl rfl | exact .inr rfl | assumption) : DS X (.Assign [.Name x pos'] e pos) (sSet i f) :=
  (ps_set hN hi hx he hs hf).imp fun _ _ _ h => sSet_imp (fun _ _ _ q => q) h
abbrev DGx := DV → En → M En
def tDG (K : PySem.W.Frag) (g : DGx) : TG := fun v σ H Q => ∃ Z env ρ B hp d env' hp', SOk K Z env σ ρ B hp H ∧ RepV K ρ B H d v ∧ g d env hp = some (env', hp') ∧ ∀ σ' ρ' B' H', Gs K ρ B H ρ' B' H' → SOk K Z env' σ' ρ' B' hp' H' → Q σ' H'
def gN (i : Nat) : DGx := fun d env => pure (env.set i (.val d))
theorem dg_name (i : Nat) {x : Str} (hN : X.N.Nodup) (hi : X.N[i]? = some x := by rfl) (hx : Loc X.env.scope x := by first | exact Or.inl rfl | exact Or.inr rfl) (hf : X.fn x = true ∨ X.env.scope.names.lookup x = some .local := by first | exact .inl rfl | exact .inr rfl | assumption) : PG X (.Name x pos) (tDG X.K (gN i)) := by
  intro pins s σ H v u Q I r h
  refine pg_name hN hi hx hf pins s σ H v u Q I r ?_
  obtain ⟨Z, env, ρ, B, hp, d, env', hp', S, rd, e, k⟩ := h
  obtain ⟨rfl, rfl⟩ := pure_some e
  exact k _ ρ B H Gs.refl (S.set rd)
def ItOk (K : PySem.W.Frag) (ρ : List Addr) (B : Addr → Prop) (H : Hp) (ds : List DV) (J : It) : Prop :=
  ∀ ρ1 B1 H1, Gs K ρ B H ρ1 B1 H1 → (∀ b ∈ ρ1, B1 b) → (∀ a, B1 a → H1 a ≠ none) → (∀ (i : Nat) (d : DV), ds[i]? = some d → J.go i H1 ∧ ∀ x H', J.yld i H1 x H' → RepV K ρ1 B1 H' d x ∧ (H' = H1 ∨ ∃ p o, H1 p = none ∧ H' = upd H1 p o)) ∧ J.stop ds.length H1
abbrev DIx := En → M (List DV)
def tDI (K : PySem.W.Frag) (f : DIx) : TI := fun σ H R => ∃ Z env ρ B hp ds hp', SOk K Z env σ ρ B hp H ∧ f env hp = some (ds, hp') ∧ ∀ J ρ' B' H', Gr K ρ B H ρ' B' H' → WOk K ρ' B' hp' H' → ItOk K ρ' B' H' ds J → R J H'
def DI (X : Cx) (tg iter : Expr) (f : DIx) : Prop := PI X tg iter (tDI X.K f)
theorem it_list {K : PySem.W.Frag} {ρ : List Addr} {B : Addr → Prop} {H : Hp} {ds : List DV} {a : Addr} {xs : List V} (nb : ¬ B a) (sq : SqL K H a xs) (rl : RepL K ρ B H ds xs) : ItOk K ρ B H ds (Itl K a) := fun ρ1 B1 H1 g _ _ => by
  have sq1 := g.sqL nb sq
  have rl1 := RepL.gs g _ _ rl
  refine ⟨fun i d e => ?_, xs, sq1, by rw [rl1.length]; exact Nat.le_refl _⟩
  obtain ⟨x, hx, r⟩ := rl1.get e
  refine ⟨⟨xs, x, sq1, hx⟩, fun y H' ⟨e', q⟩ => ?_⟩
  subst e'
  have := q xs sq1
  rw [hx] at this; cases this
  exact ⟨r, .inl rfl⟩
def rangeL (lo : Int) (n : Nat) : List DV := (List.range n).map fun (i : Nat) => .int (lo + (i : Int))
theorem it_range {K : PySem.W.Frag} {ρ : List Addr} {B : Addr → Prop} {H : Hp} {lo : Int} {n : Nat} : ItOk K ρ B H (rangeL lo n) (Itr lo n) := fun ρ1 B1 H1 g _ _ => by
  refine ⟨fun i d e => ?_, by show n ≤ _; simp [rangeL]⟩
  have hi : i < n := by have := (List.getElem?_eq_some_iff.mp e).1; simpa [rangeL] using this
  refine ⟨hi, fun y H' ⟨e', q⟩ => ?_⟩
  subst e' q
  have : d = .int (lo + i) := by simp [rangeL, hi] at e; exact e.symm
  subst this
  exact ⟨rep_int, .inl rfl⟩
variable {tg iter : Expr}
theorem _root_.L2.PI.imp {wi wi' : TI} (h : PI X tg iter wi) (i : ∀ σ H R, wi' σ H R → wi σ H R) : PI X tg iter wi' := fun pins s σ H R I q => h pins s σ H R I (i σ H R q)
def smallI (j : Int) : Bool := decide (-(2 ^ 62) ≤ j ∧ j < 2 ^ 62)
def rng1 : List DV → M (List DV)
  | [.int j] => do guardM (smallI j); pure (rangeL 0 j.toNat)
  | _ => failure
def iRg1 (f : DAx) : DIx := fun env => do rng1 (← f env)
theorem rng1_some {ds out : List DV} {hp hp' : Hs} (h : rng1 ds hp = some (out, hp')) : ∃ j : Int, ds = [.int j] ∧ smallI j = true ∧ out = rangeL 0 j.toNat ∧ hp = hp' := by
  unfold rng1 at h
  split at h
  · obtain ⟨u, hp1, e1, e2⟩ := bind_some h
    obtain ⟨h1, rfl⟩ := guardM_some e1
    obtain ⟨rfl, rfl⟩ := pure_some e2
    exact ⟨_, rfl, h1, rfl, rfl⟩
  · cases h
theorem RepL.ints1 {K : PySem.W.Frag} {ρ : List Addr} {B : Addr → Prop} {H : Hp} {j : Int} {vs : List V} (h : RepL K ρ B H [.int j] vs) : vs = [.int j] := by
  unfold RepL at h
  obtain ⟨x, r, rfl, h1, h2⟩ := h
  unfold RepL at h2
  rw [h1.intI, h2]
theorem di_range1 {x : Expr} {p : Pos} {f : DAx} (hg : Gl X "range") (hm : X.mg "range" = none) (ha : DA X [x] f) (hs : starEach [x] X.env = [(false, eval x X.env)] := by rfl) : DI X tg (.Call (.Name "range" p) [x] [] pos) (iRg1 f) :=
  (pi_range1 hg hm ha hs).imp fun σ H R ⟨Z, env, ρ, B, hp, ds, hp', S, e, k⟩ => by
    obtain ⟨d, hp1, e1, e2⟩ := bind_some e
    obtain ⟨j, rfl, h1, rfl, rfl⟩ := rng1_some e2
    refine tDA.run S e1 fun vs ρ1 B1 H1 g1 S1 r1 => ?_
    have h1' := of_decide_eq_true h1
    exact ⟨j, r1.ints1, h1'.1, h1'.2, k _ ρ1 B1 H1 g1 S1.wo it_range⟩
def forL (b : DV → DSx) : List DV → DSx
  | [], env => pure (.nx, env)
  | d :: ds, env => do
    let r ← b d env
    match r.1 with
    | .nx => forL b ds r.2
    | .ct => forL b ds r.2
    | .bk => pure (.nx, r.2)
    | .rt x => pure (.rt x, r.2)
theorem upd_gs {K : PySem.W.Frag} {ρ : List Addr} {B : Addr → Prop} {H : Hp} {p : Addr} {o : HO} (rb : ∀ a ∈ ρ, B a) (h : H p = none) : Gs K ρ B H ρ B (upd H p o) := (Gr.laid h).gs rb
end
end D
namespace D
open PySem PySem.Spec PyProof.Rows L2
section
variable {K : PySem.W.Frag} {Z : Ent} {env : En} {σ : St} {ρ ρ' : List Addr} {B B' : Addr → Prop} {hp hp' : Hs} {H H' : Hp}
def banP (B : Addr → Prop) (p : Addr) : Addr → Prop := fun a => B a ∨ a = p
theorem Gr.banned {p : Addr} {o : HO} (h : H p = none) (kf : K.lookup p = none) : Gr K ρ B H ρ (banP B p) (upd H p o) where
  pre := List.prefix_rfl
  ban := fun _ h => .inl h
  new := fun a z => z.elim .inl fun e => .inr (e ▸ ⟨h, kf⟩)
  rnew := fun _ h => .inl h
  keep := fun a u _ q => by rw [upd_ne (ne_of_none q h)]; exact q
  trk := (Gr.laid (K := K) (ρ := ρ) (B := B) h).trk
theorem WOk.banned {p : Addr} {o : HO} (W : WOk K ρ B hp H) (h : H p = none) (kf : K.lookup p = none) : WOk K ρ (banP B p) hp (upd H p o) where
  len := W.len
  nd := W.nd
  obj := fun i a u e q => ORep.gs ((Gr.banned h kf).gs W.rb) (upd_ne (fun z => W.bt a (W.rb a (List.mem_of_getElem? e)) (z ▸ h))) (W.obj i a u e q)
  rb := fun a h => .inl (W.rb a h)
  bt := fun a z q => by
    have q' := (Gr.laid (K := K) (ρ := ρ) (B := B) h).trk a q
    rcases z with z | rfl
    · exact W.bt a z q'
    · rw [upd_same] at q; cases q
  bk := fun a z => z.elim (W.bk a) fun e => e ▸ kf
theorem SOk.newAcc {i : Nat} {p : Addr} {ds : List DV} {xs : List V} (S : SOk K Z env σ ρ B hp H) (h : H p = none) (kf : K.lookup p = none) (r : RepL K ρ B H ds xs) : SOk K Z (env.set i (.acc ds)) (σ.set i (some (.ref p))) ρ (banP B p) hp (upd H p (.lst xs)) := by
  have g : Gr K ρ B H ρ (banP B p) (upd H p (.lst xs)) := Gr.banned h kf
  have W := S.wo.banned (o := .lst xs) h kf
  have S1 := S.grow g W
  have np : p ∉ ρ := fun z => S.wo.bt p (S.wo.rb p z) h
  refine ⟨S1.gr, S.zb, W, fun j e q => ?_, fun j es q => ?_, fun j k es es' a h1 h2 h3 h4 => ?_, by simp [S.len]⟩
  · by_cases hj : j = i
    · subst hj
      have hl : j < env.length := by have := (List.getElem?_eq_some_iff.mp q).1; simpa using this
      rw [List.getElem?_set_self hl] at q; cases q
    · rw [List.getElem?_set_ne (Ne.symm hj)] at q ⊢
      exact S1.slot j e q
  · by_cases hj : j = i
    · subst hj
      have hl : j < env.length := by have := (List.getElem?_eq_some_iff.mp q).1; simpa using this
      rw [List.getElem?_set_self hl] at q; cases q
      exact ⟨p, xs, List.getElem?_set_self (by rw [S.len]; exact hl), upd_same, S.gr.trk p h, .inr rfl, np, RepL.grow S.wo.rb g _ _ r⟩
    · rw [List.getElem?_set_ne (Ne.symm hj)] at q ⊢
      exact S1.accs j es q
  · have at_i : ∀ {j : Nat} {es : List DV}, (env.set i (.acc ds))[j]? = some (.acc es) → j = i ∨ (j ≠ i ∧ env[j]? = some (.acc es)) := fun {j es} q => by
      by_cases hj : j = i
      · exact .inl hj
      · rw [List.getElem?_set_ne (Ne.symm hj)] at q; exact .inr ⟨hj, q⟩
    have ne_p : ∀ {j : Nat} {es : List DV}, j ≠ i → env[j]? = some (.acc es) → (σ.set i (some (.ref p)))[j]? = some (some (.ref a)) → a ≠ p := fun {j es} hj q z => by
      rw [List.getElem?_set_ne (Ne.symm hj)] at z
      obtain ⟨a', xs', e1, e2, _⟩ := S.accs j es q
      rw [z] at e1; cases e1
      exact ne_of_none e2 h
    have is_p : ∀ {j : Nat} {es : List DV}, j = i → (env.set i (.acc ds))[j]? = some (.acc es) → (σ.set i (some (.ref p)))[j]? = some (some (.ref a)) → a = p := fun {j es} e q z => by
      subst e
      have hl : j < env.length := by have := (List.getElem?_eq_some_iff.mp q).1; simpa using this
      rw [List.getElem?_set_self (by rw [S.len]; exact hl)] at z; cases z; rfl
    rcases at_i h1 with e1 | ⟨e1, q1⟩ <;> rcases at_i h2 with e2 | ⟨e2, q2⟩
    · rw [e1, e2]
    · exact absurd (is_p e1 h1 h3) (ne_p e2 q2 h4)
    · exact absurd (is_p e2 h2 h4) (ne_p e1 q1 h3)
    · rw [List.getElem?_set_ne (Ne.symm e1)] at h3
      rw [List.getElem?_set_ne (Ne.symm e2)] at h4
      exact S.adis j k es es' a q1 q2 h3 h4
theorem SOk.setAcc {i : Nat} {a : Addr} {ds ds' : List DV} {xs' : List V} (S : SOk K Z env σ ρ B hp H) (he : env[i]? = some (.acc ds)) (hσ : σ[i]? = some (some (.ref a))) (r : RepL K ρ B H ds' xs') :
    Gs K ρ B H ρ B (upd H a (.lst xs')) ∧ SOk K Z (env.set i (.acc ds')) σ ρ B hp (upd H a (.lst xs')) := by
  obtain ⟨a', xs0, e1, e2, e3, e4, e5, _⟩ := S.accs i ds he
  rw [hσ] at e1; cases e1
  have trk : ∀ b, (upd H a (.lst xs')) b = none → H b = none := fun b q => by
    by_cases e : b = a
    · subst e; rw [upd_same] at q; cases q
    · rw [upd_ne e] at q; exact q
  have g : Gs K ρ B H ρ B (upd H a (.lst xs')) := ⟨List.prefix_rfl, fun _ h => .inl h, fun b o nb h => by rw [upd_ne (show b ≠ a from fun z => nb (by rw [z]; exact e4))]; exact h, trk⟩
  have hl : i < env.length := (List.getElem?_eq_some_iff.mp he).1
  refine ⟨g, ⟨⟨S.gr.pre, S.gr.ban, S.gr.new, S.gr.rnew, fun b o nb h => ?_, fun b q => S.gr.trk b (trk b q)⟩, S.zb, ⟨S.wo.len, S.wo.nd, fun j b o q1 q2 => ?_, S.wo.rb, fun b z q => S.wo.bt b z (trk b q), S.wo.bk⟩, fun j d q => ?_, fun j es q => ?_, fun j k es es' b h1 h2 h3 h4 => ?_, by simp [S.len]⟩⟩
  · have hb : b ≠ a := fun z => by rw [z, e3] at h; cases h
    rw [upd_ne hb]; exact S.gr.keep b o nb h
  · exact ORep.gs g (upd_ne (show b ≠ a from fun z => e5 (by rw [← z]; exact List.mem_of_getElem? q1))) (S.wo.obj j b o q1 q2)
  · have hj : j ≠ i := fun z => by subst z; rw [List.getElem?_set_self hl] at q; cases q
    rw [List.getElem?_set_ne (Ne.symm hj)] at q
    obtain ⟨v, h1, h2⟩ := S.slot j d q
    exact ⟨v, h1, RepV.gs g _ _ h2⟩
  · by_cases hj : j = i
    · subst hj
      rw [List.getElem?_set_self hl] at q; cases q
      exact ⟨a, xs', hσ, upd_same, e3, e4, e5, RepL.gs g _ _ r⟩
    · rw [List.getElem?_set_ne (Ne.symm hj)] at q
      obtain ⟨b, ys, h1, h2, h3, h4, h5, h6⟩ := S.accs j es q
      have hb : b ≠ a := fun z => hj (S.adis j i es ds a q he (z ▸ h1) hσ)
      exact ⟨b, ys, h1, by rw [upd_ne hb]; exact h2, h3, h4, h5, RepL.gs g _ _ h6⟩
  · have old : ∀ {j : Nat} {es : List DV}, (env.set i (.acc ds'))[j]? = some (.acc es) → ∃ es, env[j]? = some (.acc es) := fun {j es} q => by
      by_cases hj : j = i
      · exact ⟨ds, hj ▸ he⟩
      · rw [List.getElem?_set_ne (Ne.symm hj)] at q; exact ⟨es, q⟩
    obtain ⟨_, q1⟩ := old h1
    obtain ⟨_, q2⟩ := old h2
    exact S.adis j k _ _ b q1 q2 h3 h4
theorem SOk.disown {i : Nat} {ds : List DV} (S : SOk K Z env σ ρ B hp H) (he : env[i]? = some (.acc ds)) : ∃ B', Gs K ρ B H ρ B' H ∧ SOk K Z (env.set i (.val (.lst ds))) σ ρ B' hp H := by
  obtain ⟨a, xs, e1, e2, e3, e4, e5, e6⟩ := S.accs i ds he
  have hl : i < env.length := (List.getElem?_eq_some_iff.mp he).1
  have g : Gs K ρ B H ρ (fun b => B b ∧ b ≠ a) H := ⟨List.prefix_rfl, fun _ h => .inl h.1, fun _ _ _ h => h, fun _ h => h⟩
  refine ⟨fun b => B b ∧ b ≠ a, g, ⟨⟨S.gr.pre, fun b z => ⟨S.gr.ban b z, fun q => S.zb b z (q ▸ e3)⟩, fun b z => S.gr.new b z.1, S.gr.rnew, S.gr.keep, S.gr.trk⟩, S.zb,
    ⟨S.wo.len, S.wo.nd, fun j b o q1 q2 => ORep.gs g rfl (S.wo.obj j b o q1 q2), fun b z => ⟨S.wo.rb b z, fun q => e5 (q ▸ z)⟩, fun b z => S.wo.bt b z.1, fun b z => S.wo.bk b z.1⟩, fun j d q => ?_, fun j es q => ?_, fun j k es es' b h1 h2 h3 h4 => ?_, by simp [S.len]⟩⟩
  · by_cases hj : j = i
    · subst hj
      rw [List.getElem?_set_self hl] at q; cases q
      exact ⟨_, e1, rep_lst (fun z => z.2 rfl) (SqL.of e2) (RepL.gs g _ _ e6)⟩
    · rw [List.getElem?_set_ne (Ne.symm hj)] at q
      obtain ⟨v, h1, h2⟩ := S.slot j d q
      exact ⟨v, h1, RepV.gs g _ _ h2⟩
  · have hj : j ≠ i := fun z => by subst z; rw [List.getElem?_set_self hl] at q; cases q
    rw [List.getElem?_set_ne (Ne.symm hj)] at q
    obtain ⟨b, ys, h1, h2, h3, h4, h5, h6⟩ := S.accs j es q
    have hb : b ≠ a := fun z => hj (S.adis j i es ds a q he (z ▸ h1) e1)
    exact ⟨b, ys, h1, h2, h3, ⟨h4, hb⟩, h5, RepL.gs g _ _ h6⟩
  · have nj : ∀ {j : Nat} {es : List DV}, (env.set i (.val (.lst ds)))[j]? = some (.acc es) → env[j]? = some (.acc es) := fun {j es} q => by
      have hj : j ≠ i := fun z => by subst z; rw [List.getElem?_set_self hl] at q; cases q
      rw [List.getElem?_set_ne (Ne.symm hj)] at q; exact q
    exact S.adis j k _ _ b (nj h1) (nj h2) h3 h4
end
section
variable {X : Cx} {e a b c : Expr} {f fa fb : DEx} {ca cb : DTx} {pos : Pos} {st : Stmt} {sts rest : List Stmt} {s s' : DSx}
def sAcc (i : Nat) : DSx := fun env => pure (.nx, env.set i (.acc []))
theorem ds_acc (i : Nat) {x : Str} {pos' pos'' : Pos} (hN : X.N.Nodup) (hi : X.N[i]? = some x := by rfl) (hx : Loc X.env.scope x := by first | exact Or.inl rfl | exact Or.inr rfl) (hs : swapsWith (.List [] pos'') (some (.Name x pos')) pos.line X.env = pure false := by rfl)
    (hf : X.fn x = true ∨ X.env.scope.names.lookup x = some .local := by first | exact .inl rfl | exact .inr rfl | assumption) : DS X (.Assign [.Name x pos'] (.List [] pos'') pos) (sAcc i) :=
  (ps_set hN hi hx (pe_lst pa_nil).kf hs hf).imp fun D σ H ⟨Z, env, ρ, B, hp, fl, env', hp', S, e, k⟩ => by
    obtain ⟨z, rfl⟩ := pure_some e; cases z
    refine ⟨Nat.zero_le _, fun p h kf => ?_⟩
    have kp := kf p _ upd_same
    exact k _ ρ _ _ ((Gr.banned h kp).gs S.wo.rb) (S.newAcc h kp RepL.nil)
def disE (i : Nat) (env : En) : En := match env[i]? with
  | some (.acc ds) => env.set i (.val (.lst ds))
  | _ => env
def sDis (i : Nat) (f : DSx) : DSx := fun env => f (disE i env)
theorem sDis_imp {K : PySem.W.Frag} {i : Nat} {D : Ends} {σ : St} {H : Hp} (h : tDS K (sDis i s) D σ H) : tDS K s D σ H := by
  obtain ⟨Z, env, ρ, B, hp, fl, env', hp', S, e, k⟩ := h
  cases q : env[i]? with
  | none => exact ⟨Z, env, ρ, B, hp, fl, env', hp', S, by simpa [sDis, disE, q] using e, k⟩
  | some z =>
    cases z with
    | un => exact ⟨Z, env, ρ, B, hp, fl, env', hp', S, by simpa [sDis, disE, q] using e, k⟩
    | val d => exact ⟨Z, env, ρ, B, hp, fl, env', hp', S, by simpa [sDis, disE, q] using e, k⟩
    | acc ds =>
      obtain ⟨B', g, S'⟩ := S.disown q
      exact ⟨Z, _, ρ, B', hp, fl, env', hp', S', by simpa [sDis, disE, q] using e, k.after g⟩
theorem ds_dis (i : Nat) (h : DS X st s) : DS X st (sDis i s) := L2.PS.imp h fun _ _ _ q => sDis_imp q
def sApp (i : Nat) (f : DEx) : DSx := fun env => do
  let d ← f env
  match env[i]? with
  | some (.acc ds) => if ds.length < lim then pure (.nx, env.set i (.acc (ds ++ [d]))) else failure
  | _ => failure
theorem ds_app (i : Nat) {x : Str} {p1 p2 : Pos} (he : DE X e f) (hi : X.N[i]? = some x := by rfl) (hv : Vis X.env.scope x := by first | exact Or.inl rfl | exact Or.inr (Or.inl rfl) | exact Or.inr (Or.inr rfl))
    (hd : (x == ("__debug__" : Str)) = false := by decide) (hcd : (x == ("__classdict__" : Str)) = false := by decide)
    (hs : ∀ t, PE X (.Call (.Attribute (.Name x p1) "append" p2) [e] [] pos) t → PS X (.Expr (.Call (.Attribute (.Name x p1) "append" p2) [e] [] pos) pos) (tDrop t) := by intro _ h; exact ps_expr h)
    (hb : ∀ (t : TE) (ta : TA), PE X (.Name x p1) t → PA X [e] ta → PE X (.Call (.Attribute (.Name x p1) "append" p2) [e] [] pos) (tBM X.K "list" rAppend t ta) := by intro _ _ h1 h2; exact pe_bm PySem.F.plainAttrs_list PySem.F.slot_list_append PySem.F.type_list_append mt_append h1 h2)
    (hst : starEach [e] X.env = (false, eval e X.env) :: starEach [] X.env := by rfl) : DS X (.Expr (.Call (.Attribute (.Name x p1) "append" p2) [e] [] pos) pos) (sApp i f) :=
  L2.PS.imp (hs _ (hb _ _ (pe_var hi hv hd hcd) (pa_cons he pa_nil hst))) fun D σ H ⟨Z, env, ρ, B, hp, fl, env', hp', S, e, k⟩ => by
    obtain ⟨d, hp1, e1, e2⟩ := bind_some e
    cases q : env[i]? with
    | none => rw [q] at e2; cases e2
    | some z =>
      rw [q] at e2
      cases z with
      | un => cases e2
      | val _ => cases e2
      | acc ds =>
        by_cases hl : ds.length < lim
        · have e2' : (pure (Fl.nx, env.set i (.acc (ds ++ [d]))) : M (Fl × En)) hp1 = some ((fl, env'), hp') := by
            have : (if ds.length < lim then pure (Fl.nx, env.set i (.acc (ds ++ [d]))) else failure : M (Fl × En)) hp1 = some ((fl, env'), hp') := e2
            rwa [if_pos hl] at this
          obtain ⟨z, rfl⟩ := pure_some e2'; cases z
          obtain ⟨a, xs, h1, h2, _⟩ := S.accs i ds q
          refine ⟨_, h1, .inl ⟨rfl, xs, SqL.of h2⟩, ?_⟩
          refine tD.run S e1 fun v ρ1 B1 H1 g1 S1 r1 => ?_
          obtain ⟨a', xs1, h1', h2', _, _, _, rl⟩ := S1.accs i ds q
          rw [h1] at h1'; cases h1'
          obtain ⟨g2, S2⟩ := S1.setAcc q h1 (RepL.append rl (RepL.one r1))
          exact ⟨a, xs1, v, rfl, rfl, h2', by rw [← rl.length]; exact Nat.lt_of_lt_of_le hl lim_le, k _ ρ1 B1 _ ((g1.gs S.wo.rb).trans g2) S2⟩
        · have : (if ds.length < lim then pure (Fl.nx, env.set i (.acc (ds ++ [d]))) else failure : M (Fl × En)) hp1 = some ((fl, env'), hp') := e2
          rw [if_neg hl] at this; cases this
def compD (g : DV → M Bool) (f : DV → M DV) : List DV → M (List DV)
  | [] => pure []
  | d :: ds => do
    if ← g d then
      let y ← f d
      let ys ← compD g f ds
      pure (y :: ys)
    else compD g f ds
def capS : Sl → Sl
  | .val d => .val d
  | _ => .un
def cE (idx : List Nat) (env : En) (d : DV) : En := .val d :: idx.map fun i => capS ((env[i]?).getD .un)
def eComp (src : DIx) (idx : List Nat) (t : DTx) (f : DEx) : DEx := fun env => do
  let ds ← src env
  guardM (short ds)
  let out ← compD (fun d => t (cE idx env d)) (fun d => f (cE idx env d)) ds
  pure (.lst out)
def tAll : DTx := fun _ => pure true
variable {elt iter : Expr} {x : Str} {px : Pos} {ifs : List Expr} {scope : Scope} {cl : List (Str × Addr)} {caps : List Str} {idx : List Nat} {src : DIx} {te : DTx}
theorem cσ_ok {K : PySem.W.Frag} {Z : Ent} {env : En} {σ : St} {ρ ρ1 : List Addr} {B B1 : Addr → Prop} {hp hp1 : Hs} {H H1 : Hp} {d : DV} {v : V} (S : SOk K Z env σ ρ B hp H) (g : Gs K ρ B H ρ1 B1 H1) (W : WOk K ρ1 B1 hp1 H1) (r : RepV K ρ1 B1 H1 d v) :
    SOk K ⟨ρ1, B1, H1⟩ (cE idx env d) (cσ idx σ (some v)) ρ1 B1 hp1 H1 := by
  refine ⟨Gr.refl, W.bt, W, fun i e h => ?_, fun i es h => ?_, fun i j es es' a h => ?_, by simp [cE, cσ]⟩
  · cases i with
    | zero =>
      have : d = e := by simpa [cE] using h
      subst this
      exact ⟨v, by simp [cσ], r⟩
    | succ i =>
      cases q : idx[i]? with
      | none => simp [cE, q] at h
      | some k =>
        have h' : capS ((env[k]?).getD .un) = .val e := by simpa [cE, q] using h
        cases z : env[k]? with
        | none => rw [z] at h'; cases h'
        | some sl =>
          rw [z] at h'
          cases sl with
          | un => cases h'
          | acc _ => cases h'
          | val e' =>
            have : e' = e := by simpa [capS] using h'
            subst this
            obtain ⟨u, h1, h2⟩ := S.slot k e' z
            exact ⟨u, by simp [cσ, q, h1], RepV.gs g _ _ h2⟩
  · exfalso
    cases i with
    | zero => simp [cE] at h
    | succ i =>
      cases q : idx[i]? with
      | none => simp [cE, q] at h
      | some k =>
        have h' : capS ((env[k]?).getD .un) = .acc es := by simpa [cE, q] using h
        cases z : (env[k]?).getD .un with
        | un => rw [z] at h'; cases h'
        | acc _ => rw [z] at h'; cases h'
        | val _ => rw [z] at h'; cases h'
  · exfalso
    cases i with
    | zero => simp [cE] at h
    | succ i =>
      cases q : idx[i]? with
      | none => simp [cE, q] at h
      | some k =>
        have h' : capS ((env[k]?).getD .un) = .acc es := by simpa [cE, q] using h
        cases z : (env[k]?).getD .un with
        | un => rw [z] at h'; cases h'
        | acc _ => rw [z] at h'; cases h'
        | val _ => rw [z] at h'; cases h'
theorem eComp_imp {K : PySem.W.Frag} {σ : St} {H : Hp} {Q : VK} (h : tD K (eComp src idx te f) σ H Q) : tComp K (tDI K src) (tDT K te) (tD K f) idx σ H Q := by
  obtain ⟨Z, env, ρ, B, hp, d, hp', S, e, k⟩ := h
  obtain ⟨ds, hp1, e1, e2⟩ := bind_some e
  obtain ⟨_, hp2, e3, e4⟩ := bind_some e2
  obtain ⟨hs, rfl⟩ := guardM_some e3
  obtain ⟨out, hp3, e5, e6⟩ := bind_some e4
  obtain ⟨rfl, rfl⟩ := pure_some e6
  refine ⟨Z, env, ρ, B, hp, ds, hp1, S, e1, fun J ρ1 B1 H1 g1 W1 it D hD hK => ?_⟩
  have g1s := g1.gs S.wo.rb
  have dl : ds.length < sizeLine := Nat.lt_of_le_of_lt (of_decide_eq_true hs) (by decide)
  refine ⟨fun i m ys H2 => m = ds.length - i ∧ i ≤ ds.length ∧ H2 D = some (.lst ys) ∧ ∃ ρ2 B2 hp2 don rst, Gr K ρ1 B1 H1 ρ2 B2 H2 ∧ WOk K ρ2 B2 hp2 H2 ∧ B2 D ∧ D ∉ ρ2 ∧ RepL K ρ2 B2 H2 don ys ∧ don.length ≤ i ∧
    compD (fun d => te (cE idx env d)) (fun d => f (cE idx env d)) (ds.drop i) hp2 = some (rst, hp3) ∧ don ++ rst = out, ?_, ?_⟩
  · exact ⟨ds.length, rfl, Nat.zero_le _, upd_same, ρ1, banP B1 D, hp1, [], out, Gr.banned hD hK, W1.banned hD hK, .inr rfl, fun z => W1.bt D (W1.rb D z) hD, RepL.nil, Nat.le_refl _, by simpa using e5, rfl⟩
  · rintro i m ys H2 ⟨rfl, hi, hDs, ρ2, B2, hp2, don, rst, g2, W2, bD, nD, rd, dn, e7, e8⟩
    refine ⟨hDs, ?_⟩
    obtain ⟨itg, its⟩ := it ρ2 B2 H2 (g2.gs W1.rb) W2.rb W2.bt
    by_cases hlt : i < ds.length
    · have hd : ds[i]? = some ds[i] := List.getElem?_eq_getElem hlt
      obtain ⟨go, yl⟩ := itg i _ hd
      rw [List.drop_eq_getElem_cons hlt] at e7
      obtain ⟨b, hp4, e9, e10⟩ := bind_some e7
      refine .inr ⟨go, fun x H3 y => ?_⟩
      obtain ⟨rx, hx⟩ := yl x H3 y
      have S3 : Gr K ρ2 B2 H2 ρ2 B2 H3 ∧ WOk K ρ2 B2 hp2 H3 := by
        rcases hx with rfl | ⟨p, o, hn, rfl⟩
        · exact ⟨Gr.refl, W2⟩
        · exact ⟨Gr.laid hn, W2.laid hn⟩
      have g3 := g2.trans S3.1
      have C3 := cσ_ok (idx := idx) S (g1s.trans (g3.gs W1.rb)) S3.2 rx
      refine tDT.run C3 e9 fun ρ4 B4 H4 g4 S4 => ?_
      have hD4 : H4 D = some (.lst ys) := g4.keep D _ nD (S3.1.keep D _ nD hDs)
      have nD4 : D ∉ ρ4 := fun z => (g4.rnew D z).elim nD fun q => by rw [S3.1.keep D _ nD hDs] at q; cases q
      cases b with
      | false =>
        refine iteF ⟨ds.length - (i + 1), by omega, rfl, hlt, hD4, ρ4, B4, hp4, don, rst, g3.trans g4, S4.wo, g4.ban D bD, nD4, RepL.grow W2.rb (S3.1.trans g4) _ _ rd, by omega, e10, e8⟩
      | true =>
        obtain ⟨z, hp5, e11, e12⟩ := bind_some e10
        obtain ⟨zs, hp6, e13, e14⟩ := bind_some e12
        obtain ⟨rfl, rfl⟩ := pure_some e14
        refine iteT (tD.run S4 e11 fun v ρ5 B5 H5 g5 S5 r5 => ?_)
        have hD5 : H5 D = some (.lst ys) := g5.keep D _ nD4 hD4
        have nD5 : D ∉ ρ5 := fun z => (g5.rnew D z).elim nD4 fun q => by rw [hD4] at q; cases q
        have bD5 : B5 D := g5.ban D (g4.ban D bD)
        have G5 := g3.trans (g4.trans g5)
        have rd5 := RepL.grow W2.rb (S3.1.trans (g4.trans g5)) _ _ rd
        have trk : ∀ b, (upd H5 D (.lst (ys ++ [v]))) b = none → H5 b = none := fun b q => by
          by_cases e : b = D
          · subst e; rw [upd_same] at q; cases q
          · rw [upd_ne e] at q; exact q
        have g6 : Gs K ρ5 B5 H5 ρ5 B5 (upd H5 D (.lst (ys ++ [v]))) := ⟨List.prefix_rfl, fun _ h => .inl h, fun b o nb h => by rw [upd_ne (show b ≠ D from fun z => nb (by rw [z]; exact bD5))]; exact h, trk⟩
        refine ⟨hD5, by have := rd5.length; omega, ds.length - (i + 1), by omega, rfl, hlt, upd_same, ρ5, B5, hp5, don ++ [z], zs, ?_, ?_, bD5, nD5, RepL.gs g6 _ _ (RepL.append rd5 (RepL.one r5)), by simp; omega, e13, by rw [← e8]; simp⟩
        · exact ⟨G5.pre, G5.ban, G5.new, G5.rnew, fun b o nb h => by rw [upd_ne (show b ≠ D from fun q => by rw [q, hD] at h; cases h)]; exact G5.keep b o nb h, fun b q => G5.trk b (trk b q)⟩
        · exact ⟨S5.wo.len, S5.wo.nd, fun j b o q1 q2 => ORep.gs g6 (upd_ne (show b ≠ D from fun z => nD5 (by rw [← z]; exact List.mem_of_getElem? q1))) (S5.wo.obj j b o q1 q2), S5.wo.rb, fun b z q => S5.wo.bt b z (trk b q), S5.wo.bk⟩
    · have e : i = ds.length := by omega
      subst e
      rw [List.drop_length] at e7
      obtain ⟨rfl, rfl⟩ := pure_some e7
      refine .inl ⟨its, ?_⟩
      have gU : Gs K ρ2 B2 H2 ρ2 (fun b => B2 b ∧ b ≠ D) H2 := ⟨List.prefix_rfl, fun _ h => .inl h.1, fun _ _ _ h => h, fun _ h => h⟩
      refine k (.ref D) ρ2 (fun b => B2 b ∧ b ≠ D) H2 (g1.trans ⟨g2.pre, fun b z => ⟨g2.ban b z, fun q => W1.bt b z (q ▸ hD)⟩, fun b z => g2.new b z.1, g2.rnew, g2.keep, g2.trk⟩)
        ⟨W2.len, W2.nd, fun j b o q1 q2 => ORep.gs gU rfl (W2.obj j b o q1 q2), fun b z => ⟨W2.rb b z, fun q => nD (q ▸ z)⟩, fun b z => W2.bt b z.1, fun b z => W2.bk b z.1⟩ (rep_lst (fun z => z.2 rfl) (SqL.of hDs) ?_)
      rw [← e8, List.append_nil]
      exact RepL.gs gU _ _ rd
def DTs (X : Cx) (ifs : List Expr) (t : DTx) : Prop := PTs X ifs (tDT X.K t)
theorem dts_nil : DTs X [] tAll := fun pins s σ H Q I ⟨Z, env, ρ, B, hp, d, hp', S, e, k⟩ => by
  obtain ⟨rfl, rfl⟩ := pure_some e
  exact pts_nil pins s σ H Q I (k ρ B H Gr.refl S.wo)
theorem dts_one {c : Expr} (h : DT X c te) : DTs X [c] te := pts_one h
theorem de_comp (S : CompS X x scope cl caps idx) (hc : X.calm = true) (hi : DI X (.Name x px) iter src)
    (ht : ∀ C s₀ H₀ ex, DTs (cxComp X scope cl C (x :: caps) s₀ H₀ ex) ifs te) (he : ∀ C s₀ H₀ ex, DE (cxComp X scope cl C (x :: caps) s₀ H₀ ex) elt f)
    (hs : ∀ x, foldedSetIterable iter X.env x = pure x := by intro _; rfl) : DE X (.ListComp elt [⟨.Name x px, iter, ifs, 0⟩] scope pos) (eComp src idx te f) :=
  L2.PE.imp (pe_comp (tt := tDT X.K te) (te := tD X.K f) S hc hi ht he hs) fun _ _ _ h => eComp_imp h
def runF (n : Nat) (body : DSx) : List DV → M DV := fun ds => do
  let r ← body (ds.map .val ++ List.replicate (n - ds.length) .un)
  match r.1 with
  | .nx => pure .non
  | .rt d => pure d
  | _ => failure
def spD (K : PySem.W.Frag) (n : Nat) (F : List DV → M DV) : Sp := fun vs H Q _ => vs.length = n ∧ ∃ ρ B hp ds d hp', WOk K ρ B hp H ∧ RepL K ρ B H ds vs ∧ F ds hp = some (d, hp') ∧ Fol K ρ B H d hp' Q
structure Has (P : Program) (w : World) (K : PySem.W.Frag) (mg : Str → Option Value) (base : Heap) (x : Str) (k n : Nat) (F : List DV → M DV) : Prop where
  ex : ∃ (g : Addr) (fd : FuncData) (ps : List Str), FnOk P w K mg base CX0 k g fd ps (spD K n F) ∧ Binds K fd ps [] ∧ PySem.W.keepIn K (.ref g) = true ∧ mg x = some (.ref g)
theorem sOk_start {K : PySem.W.Frag} {ρ : List Addr} {B : Addr → Prop} {hp : Hs} {H : Hp} {ds : List DV} {vs : List V} {N : List Str} (W : WOk K ρ B hp H) (r : RepL K ρ B H ds vs) :
    SOk K ⟨ρ, B, H⟩ (ds.map .val ++ List.replicate (N.length - ds.length) .un) (L2.start N vs) ρ B hp H := by
  have hl := r.length
  have at_ : ∀ {i : Nat} {z : Sl}, (ds.map Sl.val ++ List.replicate (N.length - ds.length) Sl.un)[i]? = some z → z = .un ∨ ∃ d, ds[i]? = some d ∧ z = .val d := fun {i z} h => by
    by_cases hi : i < ds.length
    · rw [List.getElem?_append_left (by simpa using hi), List.getElem?_map, List.getElem?_eq_getElem hi] at h
      cases h
      exact .inr ⟨_, List.getElem?_eq_getElem hi, rfl⟩
    · rw [List.getElem?_append_right (by simpa using hi), List.getElem?_replicate] at h
      split at h
      · cases h; exact .inl rfl
      · cases h
  refine ⟨Gr.refl, W.bt, W, fun i d h => ?_, fun i es h => ?_, fun i j es es' a h => ?_, by unfold L2.start; simp; omega⟩
  · rcases at_ h with z | ⟨d', q, z⟩
    · cases z
    · cases z
      obtain ⟨v, h1, h2⟩ := r.get q
      refine ⟨v, ?_, h2⟩
      unfold L2.start
      have hi : i < vs.length := (List.getElem?_eq_some_iff.mp h1).1
      rw [List.getElem?_append_left (by simpa using hi), List.getElem?_map, h1]
      rfl
  · rcases at_ h with z | ⟨d', q, z⟩ <;> cases z
  · rcases at_ h with z | ⟨d', q, z⟩ <;> cases z
theorem fn_has {P : Program} {w : World} {K : PySem.W.Frag} {mg : Str → Option Value} {base : Heap} {x : Str} {stm : Stmt} {g : Addr} {fd : FuncData} {N ps : List Str} {k : Nat} {body : DSx} (F : Fun K x x stm g fd) (Sc : FnScope N ps (defScope stm)) (hm : mg x = some (.ref g))
    (hb : ∀ (kV doc pm : Value) (an : Option Addr) (cdv ct : Value) (us : List Value), us.length = ps.length → bindArgs (PySem.W.fnOf x x (defArgs stm) (defBody stm) (defScope stm) .none kV doc pm an cdv ct) ⟨us, []⟩ = pure (ps.zip us))
    (h : ∀ (cdv : Value) (A : Around) (outer : List Env) (s : Shared) (H : Hp) (E : XK), Room k (A.deeper (envOfC x (defScope stm) s.heap.objs.size g cdv)) → DSs (cxOf CX0 P w K mg base N x (defScope stm) g cdv A outer s H E).nox (defBody stm) body) :
    Has P w K mg base x (k + 1) ps.length (runF N.length body) := by
  refine ⟨g, fd, ps, F.ok Sc (fun vs H Q E h => h.1) (fun cdv A outer s H vs Q E hr sp => ?_), F.binds hb, F.kp, hm⟩
  obtain ⟨hn, ρ, B, hp, ds, d, hp', W, r, e, k⟩ := sp
  obtain ⟨⟨fl, env'⟩, hp1, e1, e2⟩ := bind_some e
  refine ⟨_, h cdv A outer s H E hr, ⟨ρ, B, H⟩, _, ρ, B, hp, fl, env', hp1, sOk_start W r, e1, fun σ' ρ' B' H' g' S' => ?_⟩
  cases fl with
  | nx => obtain ⟨rfl, rfl⟩ := pure_some e2; exact k .non ρ' B' H' S'.gr S'.wo rep_non
  | rt x => obtain ⟨rfl, rfl⟩ := pure_some e2; exact fun v rv => k v ρ' B' H' S'.gr S'.wo rv
  | bk => cases e2
  | ct => cases e2
def eCall (n : Nat) (F : List DV → M DV) (a : DAx) : DEx := fun env => do
  let ds ← a env
  guardM (decide (ds.length = n))
  F ds
theorem de_call {y : Str} {k j n : Nat} {F : List DV → M DV} {e : Expr} {es : List Expr} {fa : DAx} {p : Pos} (h : Has X.prog X.w X.K X.mg X.base y j n F) (hr : Room k X.A) (hj : j ≤ k) (hx : Passes CX0 X E0) (ha : DA X (e :: es) fa) (hg : Gl X y := by rfl)
    (hdb : (y == ("__debug__" : Str)) = false := by decide) (he : starEach (e :: es) X.env = (false, eval e X.env) :: starEach es X.env := by rfl) (hpl : (backTo pos (starEach es X.env)).any (·.1) = false := by rfl) : DE X (.Call (.Name y p) (e :: es) [] pos) (eCall n F fa) := by
  obtain ⟨g, fd, ps, F', hb, hk, hm⟩ := h.ex
  refine L2.PE.imp (pe_call F' (hr.mono hj) hg hm hk hb .nil hx ha hdb he hpl) fun σ H Q ⟨Z, env, ρ, B, hp, d, hp', S, e, k⟩ => ?_
  obtain ⟨ds, hp1, e1, e2⟩ := bind_some e
  obtain ⟨_, hp2, e3, e4⟩ := bind_some e2
  obtain ⟨hl, rfl⟩ := guardM_some e3
  refine tDA.run S e1 fun vs ρ1 B1 H1 g1 S1 r1 => ?_
  refine ⟨by rw [List.append_nil, ← r1.length]; exact of_decide_eq_true hl, ρ1, B1, hp1, ds, d, hp', S1.wo, by rw [List.append_nil]; exact r1, e4, k.after g1⟩
end
end D
namespace D
open PySem PySem.Spec PyProof.Rows L2
section
variable {X : Cx} {e a b c : Expr} {f fa fb fc : DEx} {ca cb : DTx} {pos : Pos}
def int2 (C : Int → Int → Bool) (g : Int → Int → DV) : DV → DV → M DV
  | .int i, .int j => if C i j then pure (g i j) else failure
  | _, _ => failure
theorem int2_some {C : Int → Int → Bool} {g : Int → Int → DV} {x y d : DV} {hp hp' : Hs} (h : int2 C g x y hp = some (d, hp')) : ∃ i j, x = .int i ∧ y = .int j ∧ C i j = true ∧ d = g i j ∧ hp = hp' := by
  unfold int2 at h
  split at h
  · rename_i i j
    by_cases hc : C i j = true
    · rw [if_pos hc] at h
      obtain ⟨rfl, rfl⟩ := pure_some h
      exact ⟨i, j, rfl, rfl, hc, rfl, rfl⟩
    · rw [if_neg hc] at h; cases h
  · cases h
theorem p2_int {g : Value → Value → Sem Value} {C : Int → Int → Bool} {P : Int → Int → Prop} {q : Int → Int → Int} (ho : OpR X g (rI P fun i j => .int (q i j))) (hC : ∀ i j, C i j = true → P i j) : P2 X g (int2 C fun i j => .int (q i j)) := by
  intro pins s σ H x y v u Q I rx ry h
  refine ho pins s σ H x y v u Q I rx ry ?_
  obtain ⟨ρ, B, hp, dx, dy, d, hp', W, r1, r2, e, k⟩ := h
  obtain ⟨i, j, rfl, rfl, hc, rfl, rfl⟩ := int2_some e
  exact ⟨i, j, r1.intI, r2.intI, hC i j hc, k _ ρ B H Gr.refl W rep_int⟩
theorem p2_int0 {g : Value → Value → Sem Value} {q : Int → Int → Int} (ho : OpR X g (rI0 fun i j => .int (q i j))) : P2 X g (int2 (fun _ _ => true) fun i j => .int (q i j)) := by
  intro pins s σ H x y v u Q I rx ry h
  refine ho pins s σ H x y v u Q I rx ry ?_
  obtain ⟨ρ, B, hp, dx, dy, d, hp', W, r1, r2, e, k⟩ := h
  obtain ⟨i, j, rfl, rfl, hc, rfl, rfl⟩ := int2_some e
  exact ⟨i, j, r1.intI, r2.intI, k _ ρ B H Gr.refl W rep_int⟩
def cMul (i j : Int) : Bool := decide ((-(2 ^ 64) < i ∧ i < 2 ^ 64) ∨ (-(2 ^ 64) < j ∧ j < 2 ^ 64))
def cMod (_ j : Int) : Bool := decide (0 < j)
def cPow (i j : Int) : Bool := decide (0 ≤ j ∧ j ≤ 1000000 ∧ i.natAbs < 2 ^ 64)
def subD : DV → DV → M DV := int2 (fun _ _ => true) fun i j => .int (i - j)
def mulD : DV → DV → M DV := int2 cMul fun i j => .int (i * j)
def modD : DV → DV → M DV := int2 cMod fun i j => .int (i % j)
def powD : DV → DV → M DV := int2 cPow fun i j => .int (i ^ j.toNat)
theorem p_sub : P2 X (binaryOp .Sub) subD := p2_int0 op_sub
theorem p_mul : P2 X (binaryOp .Mult) mulD := p2_int op_mul fun i j h => of_decide_eq_true (p := (-(2 ^ 64) < i ∧ i < 2 ^ 64) ∨ (-(2 ^ 64) < j ∧ j < 2 ^ 64)) h
theorem p_mod : P2 X (binaryOp .Mod) modD := p2_int op_mod fun _ _ h => of_decide_eq_true h
theorem p_pow : P2 X (binaryOp .Pow) powD := p2_int op_pow fun i j h => of_decide_eq_true (p := 0 ≤ j ∧ j ≤ 1000000 ∧ i.natAbs < 2 ^ 64) h
def negD : DV → M DV
  | .int i => pure (.int (-i))
  | _ => failure
def eNeg (f : DEx) : DEx := fun env => do negD (← f env)
theorem de_neg (h : DE X a f) : DE X (.UnaryOp .USub a pos) (eNeg f) := L2.PE.imp (pe_un un_neg h) fun σ H Q ⟨Z, env, ρ, B, hp, d, hp', S, e, k⟩ => by
  obtain ⟨x, hp1, e1, e2⟩ := bind_some e
  refine tD.run S e1 fun v ρ1 B1 H1 g1 S1 r1 => ?_
  cases x with
  | int i => obtain ⟨rfl, rfl⟩ := pure_some e2; exact ⟨i, r1.intI, k _ ρ1 B1 H1 g1 S1.wo rep_int⟩
  | _ => cases e2
theorem op_catT0 : OpR X (binaryOp .Add) (fun x y H Q => ∃ a b ys, x = .ref a ∧ y = .ref b ∧ SqT X.K H a [] ∧ SqT X.K H b ys ∧ ys.length ≤ sizeLine ∧ Q (.ref b) H) := by
  intro pins s σ H x y v u Q I rx ry h
  obtain ⟨a, b, ys, rfl, rfl, ha, hb, hz, q⟩ := h
  cases rx
  cases ry
  obtain ⟨its, r1, p1, _⟩ := I.tuple ha
  obtain ⟨its2, r2, p2, _⟩ := I.tuple hb
  obtain ⟨m, F⟩ := I.fr
  have z : its = [] := by cases r1; rfl
  subst z
  exact add_tuples F (news_all (g := X.base) (L := X.env.locals)) p1 p2 (fun _ => ⟨.ref b, H, I, rfl, q⟩) (fun n => absurd rfl n) (fun n => absurd rfl n) (by have := r2.length; simp; omega)
def addD : DV → DV → M DV
  | .int i, .int j => pure (.int (i + j))
  | .tup xs, .tup ys => do guardM (short (xs ++ ys)); pure (.tup (xs ++ ys))
  | .lst xs, .lst ys => do guardM (short (xs ++ ys)); pure (.lst (xs ++ ys))
  | _, _ => failure
theorem rd_catL : OpR X (binaryOp .Add) (fun x y H Q => ∃ l b xs zs, x = .ref l ∧ y = .ref b ∧ SqL X.K H l xs ∧ SqL X.K H b zs ∧ xs.length + zs.length ≤ sizeLine ∧ ∀ p, H p = none → Q (.ref p) (upd H p (.lst (xs ++ zs)))) := by
  intro pins s σ H x y v u Q I rx ry h
  obtain ⟨l, b, xs, zs, rfl, rfl, hl, hb, hz, q⟩ := h
  cases rx
  cases ry
  obtain ⟨its, r1, ⟨⟨k1, dd1, da1, sl1⟩, n1, e1, c1, d1, s1⟩, _⟩ := I.list hl
  obtain ⟨its2, r2, ⟨⟨k2, dd2, da2, sl2⟩, n2, e2, c2, d2, s2⟩, _⟩ := I.list hb
  simp only at c1 d1 s1 c2 d2 s2
  subst c1 d1 s1 c2 d2 s2
  have ea : its.toArray ++ its2.toArray = (its ++ its2).toArray := by simp
  have hz' : its.length + its2.length ≤ sizeLine := by rw [← r1.length, ← r2.length]; exact hz
  refine concat_meets (T := "list") ⟨_, e1, rfl⟩ ⟨_, e2, rfl⟩ noFill_list_add seq_list_add PySem.F.slot_list_add PySem.F.entry_list_add (PySem.F.args_list_add_2 _ _) (list_addW l b its.toArray its2.toArray n1 n2 none none sl1 sl2 (by simpa using hz')) ⟨e1, e2, ?_⟩
  rw [ea]
  exact ⟨.ref _, _, I.lnew (t' := s.toks) (r1.append r2) (by rw [List.length_append]; exact hz), rfl, q _ I.fresh⟩
theorem p_add : P2 X (binaryOp .Add) addD := by
  intro pins s σ H x y v u Q I rx ry h
  obtain ⟨ρ, B, hp, dx, dy, d, hp', W, r1, r2, e, k⟩ := h
  unfold addD at e
  split at e
  · obtain ⟨rfl, rfl⟩ := pure_some e
    exact op_add pins s σ H x y v u Q I rx ry ⟨_, _, r1.intI, r2.intI, k _ ρ B H Gr.refl W rep_int⟩
  · rename_i xs ys
    obtain ⟨_, hp1, e1, e2⟩ := bind_some e
    obtain ⟨hs, rfl⟩ := guardM_some e1
    obtain ⟨rfl, rfl⟩ := pure_some e2
    obtain ⟨a, vs, rfl, n1, q1, l1⟩ := r1.tupI
    obtain ⟨b, ws, rfl, n2, q2, l2⟩ := r2.tupI
    have hz : vs.length + ws.length ≤ sizeLine := by
      have := short_ok hs
      rw [List.length_append] at this
      rw [← l1.length, ← l2.length]; exact this
    by_cases hv : vs = []
    · subst hv
      have : xs = [] := by have := l1.length; cases xs with | nil => rfl | cons _ _ => simp at this
      subst this
      exact op_catT0 pins s σ H _ _ v u Q I rx ry ⟨a, b, ws, rfl, rfl, q1, q2, by simp at hz; exact hz, k _ ρ B H Gr.refl W (rep_tup n2 q2 l2)⟩
    · refine op_catT pins s σ H _ _ v u Q I rx ry ⟨a, b, vs, ws, rfl, rfl, q1, q2, hv, hz, fun hw => ?_, fun hw => fol_tup W (RepL.append l1 l2) k⟩
      subst hw
      have : ys = [] := by have := l2.length; cases ys with | nil => rfl | cons _ _ => simp at this
      subst this
      rw [List.append_nil] at k
      exact k _ ρ B H Gr.refl W (rep_tup n1 q1 l1)
  · rename_i xs ys
    obtain ⟨_, hp1, e1, e2⟩ := bind_some e
    obtain ⟨hs, rfl⟩ := guardM_some e1
    obtain ⟨rfl, rfl⟩ := pure_some e2
    obtain ⟨a, vs, rfl, n1, q1, l1⟩ := r1.lstI
    obtain ⟨b, ws, rfl, n2, q2, l2⟩ := r2.lstI
    have hz : vs.length + ws.length ≤ sizeLine := by
      have := short_ok hs
      rw [List.length_append] at this
      rw [← l1.length, ← l2.length]; exact this
    exact rd_catL pins s σ H _ _ v u Q I rx ry ⟨a, b, vs, ws, rfl, rfl, q1, q2, hz, fol_lst W (RepL.append l1 l2) k⟩
  · cases e
theorem atI_rep {K : PySem.W.Frag} {ρ : List Addr} {B : Addr → Prop} {H : Hp} {ds : List DV} {xs : List V} {i : Int} {d : DV} (r : RepL K ρ B H ds xs) (h : atI ds i = some d) : ∃ x, atI xs i = some x ∧ RepV K ρ B H d x := by
  unfold atI at h ⊢
  rw [← r.length]
  cases q : ixN ds.length i with
  | none => rw [q] at h; cases h
  | some j =>
    rw [q] at h
    exact r.get h
def ixD : DV → DV → M DV
  | .tup ds, .int i => match atI ds i with
    | some d => pure d
    | none => failure
  | .lst ds, .int i => match atI ds i with
    | some d => pure d
    | none => failure
  | _, _ => failure
theorem p_ix : IxR X (tP2 X.K ixD) := by
  intro value slice pins s σ H x y v u Q I rx ry h hsub
  obtain ⟨ρ, B, hp, dx, dy, d, hp', W, r1, r2, e, k⟩ := h
  unfold ixD at e
  split at e
  · rename_i ds i
    cases q : atI ds i with
    | none => rw [q] at e; cases e
    | some d' =>
      rw [q] at e
      obtain ⟨rfl, rfl⟩ := pure_some e
      obtain ⟨a, xs, rfl, n1, q1, l1⟩ := r1.tupI
      obtain ⟨z, hz, rz⟩ := atI_rep l1 q
      exact ix_tup value slice pins s σ H _ _ v u Q I rx ry ⟨a, xs, i, z, rfl, r2.intI, q1, hz, k _ ρ B H Gr.refl W rz⟩ hsub
  · rename_i ds i
    cases q : atI ds i with
    | none => rw [q] at e; cases e
    | some d' =>
      rw [q] at e
      obtain ⟨rfl, rfl⟩ := pure_some e
      obtain ⟨a, xs, rfl, n1, q1, l1⟩ := r1.lstI
      obtain ⟨z, hz, rz⟩ := atI_rep l1 q
      exact ix_list value slice pins s σ H _ _ v u Q I rx ry ⟨a, xs, i, z, rfl, r2.intI, q1, hz, k _ ρ B H Gr.refl W rz⟩ hsub
  · cases e
theorem de_ix (ha : DE X a fa) (hb : DE X b fb) (hs : PlainIx b := by intro _ _; rfl) : DE X (.Subscript a b pos) (eBin ixD fa fb) := L2.PE.imp (pe_ix p_ix ha hb hs) fun _ _ _ h => eBin_imp h
end
end D
namespace D
open PySem PySem.Spec PyProof.Rows L2
mutual
def toP : DV → PyData
  | .non => .none
  | .bl b => .bool b
  | .int i => .int i
  | .str x => .str x
  | .tup xs => .tuple (toPs xs)
  | .lst xs => .list (toPs xs)
  | .ref _ => .none
def toPs : List DV → List PyData
  | [] => []
  | d :: ds => toP d :: toPs ds
end
mutual
def noRef : DV → Bool
  | .ref _ => false
  | .tup xs => noRefs xs
  | .lst xs => noRefs xs
  | _ => true
def noRefs : List DV → Bool
  | [] => true
  | d :: ds => noRef d && noRefs ds
end
section
variable {X : Cx} {pins : List (Addr × Obj)} {σ : St} {H : Hp} {s : Shared} {ρ : List Addr} {B : Addr → Prop}
mutual
theorem reads_of (I : Inv X pins σ H s) : ∀ (d : DV) (v : V) (u : Value), RepV X.K ρ B H d v → RelV v u → noRef d = true → ∃ as, Reads s.heap u (toP d) as
  | .non, _, _, r, ru, _ => by obtain rfl := r.nonI; cases ru; exact ⟨[], by unfold toP; exact .none⟩
  | .bl b, _, _, r, ru, _ => by obtain rfl := r.blI; cases ru; exact ⟨[], by unfold toP; exact .bool b⟩
  | .int i, _, _, r, ru, _ => by obtain rfl := r.intI; obtain ⟨t, rfl⟩ := ru; exact ⟨[], by unfold toP; exact .int i t⟩
  | .str x, _, _, r, ru, _ => by obtain rfl := r.strI; obtain ⟨t, rfl⟩ := ru; exact ⟨[], by unfold toP; exact .str x t⟩
  | .ref _, _, _, _, _, n => by cases n
  | .tup ds, _, _, r, ru, n => by
    obtain ⟨a, xs, rfl, _, sq, rl⟩ := r.tupI
    cases ru
    obtain ⟨its, rv, ⟨o, e, hc, k, hd⟩, _⟩ := I.tuple sq
    obtain ⟨as, q⟩ := reads_all I ds xs its rl rv (by unfold noRef at n; exact n)
    exact ⟨_, by unfold toP; exact reads_tuple_at e hc hd (by simpa using q)⟩
  | .lst ds, _, _, r, ru, n => by
    obtain ⟨a, xs, rfl, _, sq, rl⟩ := r.lstI
    cases ru
    obtain ⟨its, rv, ⟨o, k, e, hc, _, hd⟩, _⟩ := I.list sq
    obtain ⟨as, q⟩ := reads_all I ds xs its rl rv (by unfold noRef at n; exact n)
    exact ⟨_, by unfold toP; exact reads_list_at e hc hd (by simpa using q)⟩
theorem reads_all (I : Inv X pins σ H s) : ∀ (ds : List DV) (xs : List V) (us : List Value), RepL X.K ρ B H ds xs → Vals xs us → noRefs ds = true → ∃ as, ReadsAll s.heap us (toPs ds) as
  | [], _, _, r, ru, _ => by unfold RepL at r; subst r; cases ru; exact ⟨[], by unfold toPs; exact .nil⟩
  | d :: ds, _, _, r, ru, n => by
    unfold RepL at r
    obtain ⟨x, xs, rfl, r1, r2⟩ := r
    cases ru with
    | cons q1 q2 =>
      unfold noRefs at n
      rw [Bool.and_eq_true] at n
      obtain ⟨as, h1⟩ := reads_of I d x _ r1 q1 n.1
      obtain ⟨bs, h2⟩ := reads_all I ds xs _ r2 q2 n.2
      exact ⟨_, by unfold toPs; exact .cons h1 h2⟩
end
end
def okP (d : DV) : Bool := noRef d && SeqAt.shaped (toP d)
def eqD : DV → DV → M DV := fun x y => do guardM (okP x && okP y); pure (.bl (PyData.eqv (toP x) (toP y)))
section
variable {X : Cx} {e a b c : Expr} {f fa fb fc : DEx} {ca cb : DTx} {pos : Pos}
theorem p_eq (hu : X.A.units + 64 < cLine) : P2 X (compareOp .Eq) eqD := by
  intro pins s σ H x y v u Q I rx ry h
  obtain ⟨ρ, B, hp, dx, dy, d, hp', W, r1, r2, e, k⟩ := h
  obtain ⟨_, hp1, e1, e2⟩ := bind_some e
  obtain ⟨hs, rfl⟩ := guardM_some e1
  obtain ⟨rfl, rfl⟩ := pure_some e2
  simp only [okP, Bool.and_eq_true] at hs
  obtain ⟨as, q1⟩ := reads_of I dx x v r1 rx hs.1.1
  obtain ⟨bs, q2⟩ := reads_of I dy y u r2 ry hs.2.1
  exact eq_dataH q1 q2 hs.1.2 hs.2.2 hu ⟨.bl _, H, I, rfl, k _ ρ B H Gr.refl W rep_bl⟩
def tPn (K : PySem.W.Frag) (g : List DV → M DV) : List V → Hp → VK → Prop := fun xs H Q => ∃ ρ B hp ds d hp', WOk K ρ B hp H ∧ RepL K ρ B H ds xs ∧ g ds hp = some (d, hp') ∧ Fol K ρ B H d hp' Q
def eBlt (g : List DV → M DV) (a : DAx) : DEx := fun env => do g (← a env)
theorem eBlt_imp {K : PySem.W.Frag} {g : List DV → M DV} {fa : DAx} {σ : St} {H : Hp} {Q : VK} (h : tD K (eBlt g fa) σ H Q) : tCB (tPn K g) (tDA K fa) σ H Q := by
  obtain ⟨Z, env, ρ, B, hp, d, hp', S, e, k⟩ := h
  obtain ⟨ds, hp1, e1, e2⟩ := bind_some e
  exact tDA.run S e1 fun vs ρ1 B1 H1 g1 S1 r1 => ⟨ρ1, B1, hp1, ds, d, hp', S1.wo, r1, e2, k.after g1⟩
theorem de_ty {x : Str} {T : String} {g : List DV → M DV} {e : Expr} {es : List Expr} {fa : DAx} {p : Pos} (hc : CallR X (.type T) (tPn X.K g)) (hm : X.mg x = none) (hv : bootBuiltins x = some (.type T)) (ha : DA X (e :: es) fa) (hg : Gl X x := by rfl) (hn : x ≠ "__name__" := by decide) (hdb : (x == ("__debug__" : Str)) = false := by decide)
    (he : starEach (e :: es) X.env = (false, eval e X.env) :: starEach es X.env := by rfl) (hpl : (backTo pos (starEach es X.env)).any (·.1) = false := by rfl) : DE X (.Call (.Name x p) (e :: es) [] pos) (eBlt g fa) :=
  L2.PE.imp (pe_callTy hc hg hm hv ha hn hdb he hpl) fun _ _ _ h => eBlt_imp h
theorem RepL.oneI {K : PySem.W.Frag} {ρ : List Addr} {B : Addr → Prop} {H : Hp} {d : DV} {vs : List V} (h : RepL K ρ B H [d] vs) : ∃ v, vs = [v] ∧ RepV K ρ B H d v := by
  unfold RepL at h
  obtain ⟨x, r, rfl, h1, h2⟩ := h
  unfold RepL at h2; subst h2
  exact ⟨x, rfl, h1⟩
def lenF : List DV → M DV
  | [.tup ds] => pure (.int ds.length)
  | [.lst ds] => pure (.int ds.length)
  | _ => failure
def tupF : List DV → M DV
  | [.lst ds] => pure (.tup ds)
  | [.tup ds] => pure (.tup ds)
  | _ => failure
theorem c_tuple : CallR X (.type "tuple") (tPn X.K tupF) := by
  intro pins s σ H xs us Q I r h
  obtain ⟨ρ, B, hp, ds, d, hp', W, rl, e, k⟩ := h
  unfold tupF at e
  split at e
  · obtain ⟨rfl, rfl⟩ := pure_some e
    obtain ⟨v, rfl, rv⟩ := rl.oneI
    obtain ⟨a, ys, rfl, _, sq, l⟩ := rv.lstI
    exact call_tuple_of pins s σ H _ us Q I r ⟨a, ys, rfl, .inl ⟨sq, fol_tup W l k⟩⟩
  · obtain ⟨rfl, rfl⟩ := pure_some e
    obtain ⟨v, rfl, rv⟩ := rl.oneI
    obtain ⟨a, ys, rfl, nb, sq, l⟩ := rv.tupI
    exact call_tuple_of pins s σ H _ us Q I r ⟨a, ys, rfl, .inr ⟨sq, k _ ρ B H Gr.refl W (rep_tup nb sq l)⟩⟩
  · cases e
def tyName : DV → Option String
  | .non => some "NoneType"
  | .bl _ => some "bool"
  | .int _ => some "int"
  | .str _ => some "str"
  | .tup _ => some "tuple"
  | .lst _ => some "list"
  | .ref _ => none
def isiB (t T : String) : Bool := t == T || (t == "bool" && T == "int")
theorem c_isi {T : String} (hT : T ∈ ["int", "bool", "tuple", "str", "list"]) : CallR X (.builtin "isinstance") (fun xs H Q => ∃ ρ B d x t, xs = [x, .ty T] ∧ RepV X.K ρ B H d x ∧ tyName d = some t ∧ Q (.bl (isiB t T)) H) := by
  intro pins s σ H xs us Q I r h
  obtain ⟨ρ, B, d, x, t, rfl, rv, ht, q⟩ := h
  obtain ⟨u, w', rfl, ru, rw'⟩ := vals2 r
  cases rw'
  have fin : ∀ tk, EP X pins σ Q (.bool (isiB t T)) { s with toks := tk } := fun tk => ⟨.bl _, H, I.tok _, rfl, q⟩
  have kit : PySem.W.kitOne X.K (.type t) (.type T) = some (isiB t T) := by
    have : t ∈ ["NoneType", "bool", "int", "str", "tuple", "list"] := by
      cases d <;> cases ht <;> simp
    simp only [List.mem_cons, List.not_mem_nil, or_false] at this hT
    rcases this with rfl | rfl | rfl | rfl | rfl | rfl <;> rcases hT with rfl | rfl | rfl | rfl | rfl <;> first | rfl | decide | with_unfolding_all rfl | kernel_rfl
  cases d with
  | non => obtain rfl := rv.nonI; cases ht; cases ru; exact PySem.W.kia_one PySem.W.kitx_none I.kIn True.intro kit (fun z => nomatch z) fin
  | bl b => obtain rfl := rv.blI; cases ht; cases ru; exact PySem.W.kia_one PySem.W.kitx_bool I.kIn True.intro kit (fun z => nomatch z) fin
  | int b => obtain rfl := rv.intI; cases ht; obtain ⟨tk, rfl⟩ := ru; exact PySem.W.kia_one PySem.W.kitx_int I.kIn True.intro kit (fun z => nomatch z) fin
  | str b => obtain rfl := rv.strI; cases ht; obtain ⟨tk, rfl⟩ := ru; exact PySem.W.kia_one PySem.W.kitx_str I.kIn True.intro kit (fun z => nomatch z) fin
  | ref b => cases ht
  | tup b =>
    cases ht
    obtain ⟨a, ys, rfl, _, sq, _⟩ := rv.tupI
    cases ru
    obtain ⟨its, _, ⟨o, e1, e2, _⟩, _⟩ := I.tuple sq
    exact PySem.W.kia_one PySem.W.kitx_tuple I.kIn ⟨o, e1, e2⟩ kit (fun z => nomatch z) fin
  | lst b =>
    cases ht
    obtain ⟨a, ys, rfl, _, sq, _⟩ := rv.lstI
    cases ru
    obtain ⟨its, _, ⟨o, k, e1, e2, _⟩, _⟩ := I.list sq
    exact PySem.W.kia_one PySem.W.kitx_list I.kIn ⟨o, e1, e2⟩ kit (fun z => nomatch z) fin
end
end D
namespace D
open PySem PySem.Spec PyProof.Rows L2
section
variable {X : Cx} {e a b c : Expr} {f fa fb fc : DEx} {ca cb : DTx} {pos : Pos}
abbrev DOx := En → M (Option Int)
def tDO (K : PySem.W.Frag) (f : DOx) : TO := fun σ H Q => ∃ Z env ρ B hp d hp', SOk K Z env σ ρ B hp H ∧ f env hp = some (d, hp') ∧ FolB K ρ B H hp' (Q d)
def DO (X : Cx) (e : Option Expr) (f : DOx) : Prop := PO X e (tDO X.K f)
def oNone : DOx := fun _ => pure none
def asI : DV → M Int
  | .int i => pure i
  | _ => failure
theorem asI_some {d : DV} {c : Int} {hp hp' : Hs} (h : asI d hp = some (c, hp')) : d = .int c ∧ hp = hp' := by
  cases d with
  | int b => obtain ⟨rfl, rfl⟩ := pure_some h; exact ⟨rfl, rfl⟩
  | _ => cases h
def oSome (f : DEx) : DOx := fun env => do let i ← asI (← f env); pure (some i)
theorem do_none : DO X none oNone := fun pins s σ H Q I ⟨Z, env, ρ, B, hp, d, hp', S, e, k⟩ => by
  obtain ⟨rfl, rfl⟩ := pure_some e
  exact po_none pins s σ H Q I (k ρ B H Gr.refl S.wo)
theorem do_some (h : DE X e f) : DO X (some e) (oSome f) := fun pins s σ H Q I ⟨Z, env, ρ, B, hp, d, hp', S, e, k⟩ => by
  obtain ⟨x, hp1, e1, e2⟩ := bind_some e
  obtain ⟨i, hp2, e3, e4⟩ := bind_some e2
  obtain ⟨rfl, rfl⟩ := asI_some e3
  obtain ⟨rfl, rfl⟩ := pure_some e4
  exact po_some h pins s σ H Q I (tD.run S e1 fun v ρ1 B1 H1 g1 S1 r1 => ⟨i, r1.intI, k ρ1 B1 H1 g1 S1.wo⟩)
theorem tDO.run {K : PySem.W.Frag} {f : DOx} {Z : Ent} {env : En} {σ : St} {ρ : List Addr} {B : Addr → Prop} {hp hp1 : Hs} {H : Hp} {d : Option Int} {Q : Option Int → Hp → Prop} (S : SOk K Z env σ ρ B hp H) (e : f env hp = some (d, hp1))
    (k : ∀ ρ' B' H', Gr K ρ B H ρ' B' H' → SOk K Z env σ ρ' B' hp1 H' → Q d H') : tDO K f σ H Q :=
  ⟨Z, env, ρ, B, hp, d, hp1, S, e, fun ρ' B' H' g W => k ρ' B' H' g (S.grow g W)⟩
def cutD (ds : List DV) (lo hi : Option Int) : List DV := (ds.drop (HT.sIx ds.length 0 lo)).take (HT.sIx ds.length ds.length hi - HT.sIx ds.length 0 lo)
theorem cutD_rep {K : PySem.W.Frag} {ρ : List Addr} {B : Addr → Prop} {H : Hp} {ds : List DV} {xs : List V} {lo hi : Option Int} (r : RepL K ρ B H ds xs) : RepL K ρ B H (cutD ds lo hi) (cutV xs lo hi) := by
  unfold cutD cutV
  rw [r.length]
  exact RepL.take _ (RepL.drop _ r)
def slD (d : DV) (lo hi : Option Int) : M DV := match d with
  | .lst ds => pure (.lst (cutD ds lo hi))
  | .tup ds => pure (.tup (cutD ds lo hi))
  | _ => failure
def eSl (f : DEx) (lo hi : DOx) : DEx := fun env => do let d ← f env; let l ← lo env; let h ← hi env; slD d l h
def tPs (K : PySem.W.Frag) : V → Option Int → Option Int → Hp → VK → Prop := fun x lo hi H Q => ∃ ρ B hp d r hp', WOk K ρ B hp H ∧ RepV K ρ B H d x ∧ slD d lo hi hp = some (r, hp') ∧ Fol K ρ B H r hp' Q
theorem tuple_whole {prog : Program} {w : World} {A : Around} {E : Value → Shared → Prop} {s : Shared} {t sl : Addr} {items : Array Value} {vl vu : Value} {lo hi : Option Int} {Q : Value → Shared → Prop} (ht : IsTup s.heap t items) (hs : s.heap.IsSliceOf sl vl vu .none) (pl : IsPart vl lo) (pu : IsPart vu hi)
    (h0 : HT.sIx items.size 0 lo = 0) (h1 : HT.sIx items.size items.size hi = items.size) (h : Q (.ref t) s) : wpAny (model prog w) A (getItem (.ref t) (.ref sl)) Q E s := by
  obtain ⟨os, hos, hcs, hds⟩ := id hs
  have hTs : s.TypeIs (.ref sl) "slice" := ⟨os, hos, hcs⟩
  unfold getItem
  try with_reducible refine wpAny_holding ?_
  first | refine wpAny_bind (wpAny_pure ?_) | skip
  refine wpAny_bind (wpAny_sequenceKey ht.typeIs (by decide) ?_)
  refine wpAny_bind (wpAny_callSpecial?_slot (name := Str.ofString "__getitem__") ht.typeIs PyProof.Rows.slot_tuple_getitem (wpAny_call_entry PyProof.Rows.slot_tuple_getitem ht.typeIs entry_tuple_getitem ?_ (args_tuple_getitem _ _)))
  show wpAny _ _ (Builtin.Tuple.tupleItemsOf (.ref t) >>= _) _ _ s
  refine wpAny_bind (tupleItemsOf_ ht ?_)
  refine wpAny_bind (wpAny_typeOf hTs ?_)
  rw [if_pos (by decide)]
  refine wpAny_bind (HT.sliceApplied_gen hs pl pu ?_)
  have yes : (((HT.sIx items.size 0 lo : Nat) : Int) == 0 && (1 : Int) == 1 && (HT.sIx items.size items.size hi - HT.sIx items.size 0 lo) == items.size) = true := by rw [h0, h1]; simp
  show wpAny _ _ (if (((HT.sIx items.size 0 lo : Nat) : Int) == 0 && (1 : Int) == 1 && (HT.sIx items.size items.size hi - HT.sIx items.size 0 lo) == items.size) = true then _ else _) _ _ s
  rw [if_pos yes]
  have ex : ∀ {Q' : Bool → Shared → Prop} {A' : Around} {E' : Value → Shared → Prop}, Q' true s → wpAny (model prog w) A' (Builtin.Tuple.tupleIsExact (.ref t)) Q' E' s := fun {Q' A' E'} q => by
    unfold Builtin.Tuple.tupleIsExact
    exact wpAny_bind (wpAny_typeOf ht.typeIs (wpAny_pure (by rw [show (Value.type "tuple" == Value.type "tuple") = true from beq_self_eq_true _]; exact q)))
  refine wpAny_bind (ex ?_)
  rw [if_pos rfl]
  first
    | exact wpAny_bind (wpAny_rule (wpAny_pure ⟨_, rfl, wpAny_pure h⟩))
    | exact wpAny_bind (wpAny_rule (wpAny_bind (wpAny_pure (wpAny_pure ⟨_, rfl, wpAny_pure h⟩))))
theorem sl_tupW : SlR X (fun x lo hi H Q => ∃ a xs, x = .ref a ∧ SqT X.K H a xs ∧ (HT.sIx xs.length 0 lo = 0 ∧ HT.sIx xs.length xs.length hi = xs.length) ∧ Q (.ref a) H) := by
  intro pins s σ H x v vl vu lo hi sl Q I rx hs pl pu h
  obtain ⟨a, xs, rfl, hx, ⟨h0, h1⟩, q⟩ := h
  cases rx
  obtain ⟨its, r, ht, hz⟩ := I.tuple hx
  have hlen : its.toArray.size = xs.length := by rw [List.size_toArray]; exact r.length.symm
  exact ⟨"tuple", _, PyProof.Rows.slot_tuple_getitem.lookup, ht.typeIs, tuple_whole ht hs pl pu (by rw [hlen]; exact h0) (by rw [hlen]; exact h1) ⟨.ref a, H, I, rfl, q⟩⟩
theorem cut_whole {α : Type} (ds : List α) (i j : Nat) (h0 : i = 0) (h1 : j = ds.length) : (ds.drop i).take (j - i) = ds := by subst h0 h1; simp
theorem p_sl : SlR X (tPs X.K) := by
  intro pins s σ H x v vl vu lo hi sl Q I rx hs pl pu h
  obtain ⟨ρ, B, hp, d, r, hp', W, rv, e, k⟩ := h
  cases d with
  | lst ds =>
    obtain ⟨rfl, rfl⟩ := pure_some e
    obtain ⟨a, xs, rfl, nb, sq, rl⟩ := rv.lstI
    exact sl_list pins s σ H _ v vl vu lo hi sl Q I rx hs pl pu ⟨a, xs, rfl, sq, fol_lst W (cutD_rep rl) k⟩
  | tup ds =>
    obtain ⟨rfl, rfl⟩ := pure_some e
    obtain ⟨a, xs, rfl, nb, sq, rl⟩ := rv.tupI
    by_cases hw : HT.sIx xs.length 0 lo = 0 ∧ HT.sIx xs.length xs.length hi = xs.length
    · refine sl_tupW pins s σ H _ v vl vu lo hi sl Q I rx hs pl pu ⟨a, xs, rfl, sq, hw, ?_⟩
      have : cutD ds lo hi = ds := by unfold cutD; exact cut_whole ds _ _ (by rw [rl.length]; exact hw.1) (by rw [rl.length]; exact hw.2)
      rw [this] at k
      exact k _ ρ B H Gr.refl W (rep_tup nb sq rl)
    · exact sl_tup pins s σ H _ v vl vu lo hi sl Q I rx hs pl pu ⟨a, xs, rfl, sq, hw, fol_tup W (cutD_rep rl) k⟩
  | non => cases e
  | bl _ => cases e
  | int _ => cases e
  | str _ => cases e
  | ref _ => cases e
theorem de_sl {lo hi : Option Expr} {ol oh : DOx} {p2 : Pos} (h : DE X e f) (hl : DO X lo ol) (hh : DO X hi oh) : DE X (.Subscript e (.Slice lo hi none p2) pos) (eSl f ol oh) :=
  L2.PE.imp (pe_slice p_sl h hl hh) fun σ H Q ⟨Z, env, ρ, B, hp, d, hp', S, e, k⟩ => by
    obtain ⟨x, hp1, e1, e⟩ := bind_some e
    obtain ⟨l, hp2, e2, e⟩ := bind_some e
    obtain ⟨u, hp3, e3, e⟩ := bind_some e
    refine tD.run S e1 fun v ρ1 B1 H1 g1 S1 r1 => tDO.run S1 e2 fun ρ2 B2 H2 g2 S2 => tDO.run S2 e3 fun ρ3 B3 H3 g3 S3 => ?_
    exact ⟨ρ3, B3, hp3, x, d, hp', S3.wo, RepV.grow S1.wo.rb (g2.trans g3) _ _ r1, e, k.after (g1.trans (g2.trans g3))⟩
theorem fn_ok {P : Program} {w : World} {K : PySem.W.Frag} {mg : Str → Option Value} {base : Heap} {x : Str} {stm : Stmt} {g : Addr} {fd : FuncData} {N ps : List Str} {k : Nat} {body : DSx} (F : Fun K x x stm g fd) (Sc : FnScope N ps (defScope stm))
    (h : ∀ (cdv : Value) (A : Around) (outer : List Env) (s : Shared) (H : Hp) (E : XK), Room k (A.deeper (envOfC x (defScope stm) s.heap.objs.size g cdv)) → DSs (cxOf CX0 P w K mg base N x (defScope stm) g cdv A outer s H E).nox (defBody stm) body) :
    FnOk P w K mg base CX0 (k + 1) g fd ps (spD K ps.length (runF N.length body)) := by
  refine F.ok Sc (fun vs H Q E h => h.1) (fun cdv A outer s H vs Q E hr sp => ?_)
  obtain ⟨hn, ρ, B, hp, ds, d, hp', W, r, e, k⟩ := sp
  obtain ⟨⟨fl, env'⟩, hp1, e1, e2⟩ := bind_some e
  refine ⟨_, h cdv A outer s H E hr, ⟨ρ, B, H⟩, _, ρ, B, hp, fl, env', hp1, sOk_start W r, e1, fun σ' ρ' B' H' g' S' => ?_⟩
  cases fl with
  | nx => obtain ⟨rfl, rfl⟩ := pure_some e2; exact k .non ρ' B' H' S'.gr S'.wo rep_non
  | rt x => obtain ⟨rfl, rfl⟩ := pure_some e2; exact fun v rv => k v ρ' B' H' S'.gr S'.wo rv
  | bk => cases e2
  | ct => cases e2
theorem rep_ints {K : PySem.W.Frag} {ρ : List Addr} {B : Addr → Prop} {H : Hp} : ∀ ns : List Int, RepL K ρ B H (ns.map DV.int) (ns.map V.int)
  | [] => RepL.nil
  | _ :: r => RepL.cons rep_int (rep_ints r)
theorem law_sp {K : PySem.W.Frag} {F : List DV → M DV} {H : Hp} {a : Addr} {ns : List Int} {E : XK} (h : ∃ hp', F [.lst (ns.map .int)] [] = some (.bl true, hp')) (hS : SqL K H a (ns.map V.int)) : spD K 1 F [.ref a] H (fun v _ => v = .bl true) E := by
  obtain ⟨hp', h⟩ := h
  refine ⟨rfl, [], fun _ => False, [], [.lst (ns.map .int)], .bl true, hp', ⟨rfl, List.nodup_nil, fun i a o h => by simp at h, fun a h => absurd h (by simp), fun a h => absurd h (fun z => z), fun a h => h.elim⟩, RepL.one (rep_lst (fun z => z) hS (rep_ints ns)), h, fun v _ _ _ _ _ r => r.blI⟩
end
end D
namespace L2
open PySem PySem.Spec PyProof.Rows
section
variable {prog : Program} {w : World} {A : Around} {E : Value → Shared → Prop} {s : Shared}
structure ZS (h : Heap) (z p o i j a b : Addr) (n : Nat) (f : Value) : Prop where
  zz : IsZip h z p o f
  pp : IsPair h p (.ref i) (.ref j)
  oo : ∃ x y, IsPair h o x y
  ii : h.IsTupleIter i a n
  jj : h.IsTupleIter j b n
end
end L2
namespace L2
open PySem PySem.Spec PyProof.Rows
section
variable {X : Cx} {pins : List (Addr × Obj)} {σ : L2.St} {H : Hp} {s : Shared} {h' : Heap}
end
theorem ZS.at {h h' : Heap} {z p o i j a b : Addr} {n : Nat} {f : Value} (S : ZS h z p o i j a b n f) (k : ∀ c ∈ [z, p, o, i, j], ∀ u, h.get? c = some u → h'.get? c = some u) : ZS h' z p o i j a b n f := by
  obtain ⟨zz, pp, ⟨u1, u2, oo⟩, ii, jj⟩ := S
  exact ⟨k z (by simp) _ zz, k p (by simp) _ pp, ⟨u1, u2, k o (by simp) _ oo⟩, ii.at fun u e => k i (by simp) u e, jj.at fun u e => k j (by simp) u e⟩
section
variable {X : Cx} {elts : List Expr} {kt : Nat} {p2 : Pos}
end
end L2
namespace D
open PySem PySem.Spec PyProof.Rows L2
section
variable {X : Cx} {elts : List Expr} {kt : Nat} {p2 : Pos} {f g : DEx}
end
end D
namespace D
open PySem PySem.Spec PyProof.Rows L2
theorem rangeL_len (lo : Int) (n : Nat) : (rangeL lo n).length = n := by simp [rangeL]
theorem okP_int (i : Int) : okP (.int i) = true := by rfl
theorem eqv_int (i j : Int) : PyData.eqv (.int i) (.int j) = (i == j) := rfl
theorem eqD_int (i j : Int) : eqD (.int i) (.int j) = pure (.bl (i == j)) := by
  simp only [eqD, okP_int, Bool.and_self, guardM, if_true, pure_bind, toP, eqv_int]
theorem atI_lt {α : Type} {xs : List α} {i : Int} (h0 : 0 ≤ i) (h1 : i < xs.length) : atI xs i = xs[i.toNat]? := by
  unfold atI ixN
  rw [if_pos h0, if_pos h1]; rfl
theorem atI_int (ns : List Int) {i : Int} (h0 : 0 ≤ i) (h1 : i < ns.length) : atI (ns.map DV.int) i = some (.int (ns.getD i.toNat 0)) := by
  have hl : i.toNat < ns.length := by omega
  rw [atI_lt h0 (by simpa using h1), List.getElem?_map, List.getElem?_eq_getElem hl]
  simp [List.getD_eq_getElem?_getD, hl]
def opt : Option Int → DV
  | none => .non
  | some i => .int i
end D
namespace D
open PySem PySem.Spec PyProof.Rows L2
theorem modD_pos (x y : Int) (h : 0 < y) : modD (.int x) (.int y) = pure (.int (x % y)) := by simp [modD, int2, cMod, h]
theorem mulD_l (x y : Int) (h : -(2 ^ 64) < x) (h' : x < 2 ^ 64) : mulD (.int x) (.int y) = pure (.int (x * y)) := by
  simp only [mulD, int2, cMul, decide_eq_true (Or.inl (b := (-(2 ^ 64) < y ∧ y < 2 ^ 64)) (And.intro h h')), if_true]
theorem subD_int (x y : Int) : subD (.int x) (.int y) = pure (.int (x - y)) := rfl
theorem pow30 : powD (.int 10) (.int 30) = pure (.int 1000000000000000000000000000000) := rfl
theorem small_ok {m : Int} (h0 : 0 ≤ m) (h1 : m ≤ 1000000) : smallI m = true := decide_eq_true ⟨by omega, by omega⟩
theorem ix2 (a b : DV) (i : Int) (h : i = 0 ∨ i = 1) : ∃ d, ixD (.lst [a, b]) (.int i) = pure d ∧ (d = a ∨ d = b) := by
  rcases h with rfl | rfl
  · exact ⟨a, rfl, .inl rfl⟩
  · exact ⟨b, rfl, .inr rfl⟩
theorem mod_rng (x y : Int) (h : 0 < y) : 0 ≤ x % y ∧ x % y < y := ⟨Int.emod_nonneg _ (by omega), Int.emod_lt_of_pos _ h⟩
end D
namespace D
open PySem PySem.Spec PyProof.Rows L2
theorem short_ok' {ds : List DV} (h : ds.length ≤ 100000) : short ds = true := decide_eq_true h
theorem sSeq_nx {f g : DSx} {env env1 : En} (h : f env = pure (.nx, env1)) : sSeq f g env = g env1 := by simp only [sSeq, h, pure_bind]
theorem sSeq_rt {f g : DSx} {env env1 : En} {d : DV} (h : f env = pure (.rt d, env1)) : sSeq f g env = pure (.rt d, env1) := by simp only [sSeq, h, pure_bind]
theorem sSet_eq {i : Nat} {f : DEx} {env : En} {d : DV} (h : f env = pure d) : sSet i f env = pure (.nx, env.set i (.val d)) := by simp only [sSet, h, pure_bind]
theorem sIf_t {c : DTx} {f g : DSx} {env : En} (h : c env = pure true) : sIf c f g env = f env := by simp only [sIf, h, pure_bind, if_true]
theorem sIf_f {c : DTx} {f g : DSx} {env : En} (h : c env = pure false) : sIf c f g env = g env := by simp only [sIf, h, pure_bind, Bool.false_eq_true, if_false]
theorem sRet_eq {f : DEx} {env : En} {d : DV} (h : f env = pure d) : sRet f env = pure (.rt d, env) := by simp only [sRet, h, pure_bind]
theorem runF_rt {n : Nat} {body : DSx} {ds : List DV} {d : DV} {env : En} (h : body (ds.map .val ++ List.replicate (n - ds.length) .un) = pure (.rt d, env)) : runF n body ds = pure d := by simp only [runF, h, pure_bind]
theorem eB_eq {f : DEx} {env : En} {b : Bool} (h : f env = pure (.bl b)) : eB f env = pure b := by simp only [eB, h, pure_bind, asB]
theorem eBin_eq {g : DV → DV → M DV} {f f' : DEx} {env : En} {x y d : DV} (h : f env = pure x) (h' : f' env = pure y) (hg : g x y = pure d) : eBin g f f' env = pure d := by simp only [eBin, h, h', pure_bind, hg]
theorem eCall2 {F : List DV → M DV} {f f' : DEx} {env : En} {x y d : DV} (h : f env = pure x) (h' : f' env = pure y) (hF : F [x, y] = pure d) : eCall 2 F (aCons f (aCons f' aNil)) env = pure d := by simp [eCall, aCons, aNil, h, h', guardM, hF]
end D
namespace D
open PySem PySem.Spec PyProof.Rows L2
section
variable {K : PySem.W.Frag} {ρ : List Addr} {B : Addr → Prop} {hp : Hs} {H : Hp}
theorem Gr.wset {i : Nat} {a : Addr} {o o' : HO} (ha : ρ[i]? = some a) (h : H a = some o) : Gr K ρ B H ρ B (upd H a o') where
  pre := List.prefix_rfl
  ban := fun _ h => h
  new := fun _ h => .inl h
  rnew := fun _ h => .inl h
  keep := fun b u nb q => by rw [upd_ne (show b ≠ a from fun z => nb (by rw [z]; exact List.mem_of_getElem? ha))]; exact q
  trk := fun b q => by
    by_cases e : b = a
    · subst e; rw [upd_same] at q; cases q
    · rw [upd_ne e] at q; exact q
theorem WOk.wset {i : Nat} {a : Addr} {o o' : HO} {v : OV} (W : WOk K ρ B hp H) (ha : ρ[i]? = some a) (h : H a = some o) (hv : ORep K ρ B (upd H a o') a v) : WOk K ρ B (hp.set i v) (upd H a o') where
  len := by simp [W.len]
  nd := W.nd
  obj := fun j b u e q => by
    by_cases hj : j = i
    · subst hj
      rw [ha] at e; cases e
      have hl : j < hp.length := by rw [← W.len]; exact (List.getElem?_eq_some_iff.mp ha).1
      rw [List.getElem?_set_self hl] at q; cases q
      exact hv
    · rw [List.getElem?_set_ne (Ne.symm hj)] at q
      have hb : b ≠ a := fun z => hj (by
        subst z
        exact (List.getElem?_inj (List.getElem?_eq_some_iff.mp e).1 W.nd).mp (e.trans ha.symm))
      exact ORep.gs ((Gr.wset ha h).gs W.rb) (upd_ne hb) (W.obj j b u e q)
  rb := W.rb
  bt := fun b z q => W.bt b z ((Gr.wset (K := K) (B := B) ha h).trk b q)
  bk := W.bk
end
section
variable {X : Cx} {e a b c : Expr} {f fa fb fc : DEx} {pos : Pos}
def allocW (o : OV) : M DV := fun h => some (.ref h.length, h ++ [o])
def getW (i : Nat) : M OV := fun h => match h[i]? with
  | some o => some (o, h)
  | none => none
def setW (i : Nat) (o : OV) : M Unit := fun h => some ((), h.set i o)
theorem getW_some {i : Nat} {o : OV} {hp hp' : Hs} (h : getW i hp = some (o, hp')) : hp[i]? = some o ∧ hp = hp' := by
  unfold getW at h
  cases q : hp[i]? with
  | none => rw [q] at h; cases h
  | some z => rw [q] at h; cases h; exact ⟨rfl, rfl⟩
theorem RepV.refW {K : PySem.W.Frag} {ρ : List Addr} {B : Addr → Prop} {H : Hp} {hp : Hs} {i : Nat} {o : OV} {v : V} (W : WOk K ρ B hp H) (r : RepV K ρ B H (.ref i) v) (h : hp[i]? = some o) : ∃ a, v = .ref a ∧ ρ[i]? = some a ∧ ORep K ρ B H a o := by
  obtain ⟨a, rfl, e⟩ := r.refI
  exact ⟨a, rfl, e, W.obj i a o e h⟩
end
end D
namespace D
open PySem PySem.Spec PyProof.Rows L2
end D
namespace D
open PySem PySem.Spec PyProof.Rows L2
def Runs {α : Type} (m : M α) (x : α) : Prop := ∀ hp, ∃ hp', m hp = some (x, hp')
theorem Runs.pure {α : Type} (x : α) : Runs (pure x : M α) x := fun hp => ⟨hp, rfl⟩
theorem Runs.of {α : Type} {m : M α} {x : α} (h : m = Pure.pure x) : Runs m x := h ▸ Runs.pure x
theorem Runs.bind {α β : Type} {m : M α} {k : α → M β} {x : α} {y : β} (h : Runs m x) (h' : Runs (k x) y) : Runs (m >>= k) y := fun hp => by
  obtain ⟨hp1, e1⟩ := h hp
  obtain ⟨hp2, e2⟩ := h' hp1
  refine ⟨hp2, ?_⟩
  show (m hp).bind (fun p => k p.1 p.2) = _
  rw [e1]; exact e2
section
variable {f g : DSx} {env env1 env2 : En} {c ca cb : DTx} {e fa fb : DEx} {d x y : DV} {r : Fl × En}
end
theorem bind_at {α β : Type} {m : M α} {k : α → M β} {x : α} {hp hp1 : Hs} (h : m hp = some (x, hp1)) : (m >>= k) hp = k x hp1 := by
  show (m hp).bind (fun p => k p.1 p.2) = _
  rw [h]; rfl
theorem sSeq_at {f g : DSx} {env env1 : En} {hp hp1 : Hs} (h : f env hp = some ((.nx, env1), hp1)) : sSeq f g env hp = g env1 hp1 := bind_at h
theorem sSet_at {i : Nat} {f : DEx} {env : En} {d : DV} {hp hp1 : Hs} (h : f env hp = some (d, hp1)) : sSet i f env hp = some ((.nx, env.set i (.val d)), hp1) := bind_at h
theorem ixD_lst {ds : List DV} {i : Int} {d : DV} (h : atI ds i = some d) : ixD (.lst ds) (.int i) = pure d := by simp only [ixD, h]
theorem cut_take (ds : List DV) (m : Nat) : D.cutD ds none (some (m : Int)) = ds.take m := by
  unfold D.cutD
  rw [HT.sIx_nat]
  show (ds.drop 0).take (min m ds.length - 0) = ds.take m
  simp
end D
namespace L2
open PySem PySem.Spec PyProof.Rows
section
variable {X : Cx}
def rIxD : R2 := fun x y H Q => ∃ a kvs k v, x = .ref a ∧ y = kV k ∧ H a = some (.dK kvs) ∧ valV kvs k = some v ∧ Q v H
theorem ix_dict (hu : X.A.units + 1 < cLine) : IxR X rIxD := by
  intro value slice pins s σ H x y v u Q I rx ry h hs
  obtain ⟨a, kvs, k, z, rfl, rfl, hH, hv, q⟩ := h
  cases rx
  have g : DGet H a (kV k) (some z) := hv ▸ DGet.k hH
  exact tail_any (dict_typeIs I g) PySem.F.slot_dict_getitem.lookup (d_getItem hu I g ry fun w' s' I' rw' => ⟨z, H, I', rw', q⟩) hs
theorem op_in_dict (hu : X.A.units + 1 < cLine) : OpR X (compareOp .In) (fun x y H Q => ∃ a kvs k, y = .ref a ∧ x = kV k ∧ H a = some (.dK kvs) ∧ Q (.bl (valV kvs k).isSome) H) := by
  intro pins s σ H x y v u Q I rx ry h
  obtain ⟨a, kvs, k, rfl, rfl, hH, q⟩ := h
  cases ry
  exact d_in hu I (DGet.k hH) rx fun s' I' => ⟨.bl _, H, I', rfl, q⟩
end
end L2
namespace D
open PySem PySem.Spec PyProof.Rows L2
def dkey : DV → Option Key
  | .int i => some (.inl i)
  | .str x => some (.inr x)
  | _ => none
def valD (kvs : List (Key × DV)) (k : Key) : Option DV := (kvs.find? fun kv => decide (kv.1 = k)).map (·.2)
def putD (kvs : List (Key × DV)) (k : Key) (d : DV) : List (Key × DV) :=
  if (kvs.any fun kv => decide (kv.1 = k)) = true then kvs.map (fun kv => if kv.1 = k then (kv.1, d) else kv) else kvs ++ [(k, d)]
def dropD (kvs : List (Key × DV)) (k : Key) : List (Key × DV) := kvs.filter fun kv => decide (kv.1 ≠ k)
section
variable {K : PySem.W.Frag} {ρ : List Addr} {B : Addr → Prop} {H : Hp} {hp : Hs}
theorem dkey_rep {d : DV} {k : Key} {v : V} (h : dkey d = some k) (r : RepV K ρ B H d v) : v = kV k := by
  cases d <;> simp [dkey] at h <;> subst h
  · exact r.intI
  · exact r.strI
abbrev RepK (K : PySem.W.Frag) (ρ : List Addr) (B : Addr → Prop) (H : Hp) : List (Key × DV) → List (Key × V) → Prop := Paired fun p q => p.1 = q.1 ∧ RepV K ρ B H p.2 q.2
theorem repK_of : ∀ {kvs : List (Key × DV)} {xs : List (Key × V)}, xs.map (·.1) = kvs.map (·.1) → RepL K ρ B H (kvs.map (·.2)) (xs.map (·.2)) → RepK K ρ B H kvs xs
  | [], [], _, _ => .nil
  | [], _ :: _, e, _ => by simp at e
  | _ :: _, [], e, _ => by simp at e
  | p :: kvs, q :: xs, e, r => by
    simp only [List.map_cons, List.cons.injEq] at e
    simp only [List.map_cons] at r
    unfold RepL at r
    obtain ⟨x, t, e2, h1, h2⟩ := r
    simp only [List.cons.injEq] at e2
    obtain ⟨rfl, rfl⟩ := e2
    exact .cons ⟨e.1.symm, h1⟩ (repK_of e.2 h2)
theorem RepK.val {kvs : List (Key × DV)} {xs : List (Key × V)} (r : RepK K ρ B H kvs xs) (k : Key) : (valD kvs k = none ∧ valV xs k = none) ∨ ∃ d v, valD kvs k = some d ∧ valV xs k = some v ∧ RepV K ρ B H d v := by
  induction r with
  | nil => exact .inl ⟨rfl, rfl⟩
  | @cons p q _ _ h _ ih =>
    by_cases e : p.1 = k
    · exact .inr ⟨p.2, q.2, by simp [valD, List.find?_cons, e], by simp [valV, List.find?_cons, h.1 ▸ e], h.2⟩
    · have e' : ¬ q.1 = k := h.1 ▸ e
      simpa [valD, valV, List.find?_cons, e, e'] using ih
theorem RepK.any {kvs : List (Key × DV)} {xs : List (Key × V)} (r : RepK K ρ B H kvs xs) (k : Key) : (kvs.any fun kv => decide (kv.1 = k)) = xs.any fun kv => decide (kv.1 = k) := by
  induction r with
  | nil => rfl
  | cons h _ ih => simp only [List.any_cons, ih, h.1]
theorem RepK.repl {kvs : List (Key × DV)} {xs : List (Key × V)} (r : RepK K ρ B H kvs xs) (k : Key) {d : DV} {v : V} (rd : RepV K ρ B H d v) : RepK K ρ B H (kvs.map fun kv => if kv.1 = k then (kv.1, d) else kv) (xs.map fun kv => if kv.1 = k then (kv.1, v) else kv) := by
  induction r with
  | nil => exact .nil
  | @cons p q _ _ h _ ih =>
    refine .cons ?_ ih
    dsimp only
    by_cases e : p.1 = k
    · rw [if_pos e, if_pos (h.1 ▸ e)]; exact ⟨h.1, rd⟩
    · rw [if_neg e, if_neg (h.1 ▸ e)]; exact h
theorem RepK.snoc {kvs : List (Key × DV)} {xs : List (Key × V)} (r : RepK K ρ B H kvs xs) {k : Key} {d : DV} {v : V} (rd : RepV K ρ B H d v) : RepK K ρ B H (kvs ++ [(k, d)]) (xs ++ [(k, v)]) := by
  induction r with
  | nil => exact .cons ⟨rfl, rd⟩ .nil
  | cons h _ ih => exact .cons h ih
theorem RepK.put {kvs : List (Key × DV)} {xs : List (Key × V)} (r : RepK K ρ B H kvs xs) (k : Key) {d : DV} {v : V} (rd : RepV K ρ B H d v) : RepK K ρ B H (putD kvs k d) (putK xs k v) := by
  unfold putD putK
  rw [r.any k]
  split
  · exact r.repl k rd
  · exact r.snoc rd
theorem RepK.drop {kvs : List (Key × DV)} {xs : List (Key × V)} (r : RepK K ρ B H kvs xs) (k : Key) : RepK K ρ B H (dropD kvs k) (dropK xs k) := by
  induction r with
  | nil => exact .nil
  | @cons p q _ _ h _ ih =>
    unfold dropD dropK at ih ⊢
    by_cases e : p.1 = k
    · have e' : q.1 = k := h.1 ▸ e
      simpa [e, e'] using ih
    · have e' : ¬ q.1 = k := h.1 ▸ e
      rw [List.filter_cons_of_pos (by simpa using e), List.filter_cons_of_pos (by simpa using e')]; exact .cons h ih
theorem RepK.len {kvs : List (Key × DV)} {xs : List (Key × V)} (r : RepK K ρ B H kvs xs) : kvs.length = xs.length := Paired.length r
theorem RepK.gs {ρ' : List Addr} {B' : Addr → Prop} {H' : Hp} {kvs : List (Key × DV)} {xs : List (Key × V)} (g : Gs K ρ B H ρ' B' H') (r : RepK K ρ B H kvs xs) : RepK K ρ' B' H' kvs xs := L2.Paired.mapP r fun _ _ h => ⟨h.1, RepV.gs g _ _ h.2⟩
theorem ORep.dic {a : Addr} {kvs : List (Key × DV)} (h : ORep K ρ B H a (.dic kvs)) : ∃ xs, H a = some (.dK xs) ∧ RepK K ρ B H kvs xs := by
  obtain ⟨xs, e, ek, rl⟩ := h
  exact ⟨xs, e, repK_of ek rl⟩
theorem wset_lst {n : Nat} {a : Addr} {o : HO} {xs' : List V} {ds' : List DV} (W : WOk K ρ B hp H) (i : ρ[n]? = some a) (e : H a = some o) (r : RepL K ρ B H ds' xs') : Gr K ρ B H ρ B (upd H a (.lst xs')) ∧ WOk K ρ B (hp.set n (.lst ds')) (upd H a (.lst xs')) := by
  have g : Gr K ρ B H ρ B (upd H a (.lst xs')) := Gr.wset i e
  exact ⟨g, W.wset (o' := .lst xs') (v := .lst ds') i e ⟨xs', upd_same, RepL.grow W.rb g _ _ r⟩⟩
end
section
variable {X : Cx} {e a b c : Expr} {f fa fb fc : DEx} {pos : Pos}
def optM (o : Option DV) : M DV := match o with
  | some d => pure d
  | none => failure
theorem optM_some {o : Option DV} {d : DV} {hp hp' : Hs} (h : optM o hp = some (d, hp')) : o = some d ∧ hp = hp' := by
  cases o with
  | none => cases h
  | some z => obtain ⟨rfl, rfl⟩ := pure_some h; exact ⟨rfl, rfl⟩
def keyM (d : DV) : M Key := match dkey d with
  | some k => pure k
  | none => failure
theorem keyM_some {d : DV} {k : Key} {hp hp' : Hs} (h : keyM d hp = some (k, hp')) : dkey d = some k ∧ hp = hp' := by
  unfold keyM at h
  cases q : dkey d with
  | none => rw [q] at h; cases h
  | some z => rw [q] at h; obtain ⟨rfl, rfl⟩ := pure_some h; exact ⟨rfl, rfl⟩
def ixG : DV → DV → M DV
  | .ref n, y => do
    match ← getW n with
    | .lst ds => do let i ← asI y; optM (atI ds i)
    | .dic kvs => do let k ← keyM y; optM (valD kvs k)
    | _ => failure
  | x, y => ixD x y
theorem p_ixG (hu : X.A.units + 1 < cLine) : IxR X (tP2 X.K ixG) := by
  intro value slice pins s σ H x y v u Q I rx ry h hsub
  obtain ⟨ρ, B, hp, dx, dy, d, hp', W, r1, r2, e, k⟩ := h
  unfold ixG at e
  split at e
  · rename_i n
    obtain ⟨o, hp1, e1, e2⟩ := bind_some e
    obtain ⟨e3, rfl⟩ := getW_some e1
    obtain ⟨a, rfl, i1, ro⟩ := RepV.refW W r1 e3
    cases o with
    | ins _ _ => cases e2
    | dic kvs =>
      obtain ⟨ky, hp2, e4, e5⟩ := bind_some e2
      obtain ⟨hk, rfl⟩ := keyM_some e4
      obtain ⟨hv, rfl⟩ := optM_some e5
      obtain ⟨xs, h1, rk⟩ := ro.dic
      rcases rk.val ky with ⟨z, _⟩ | ⟨d', v', z, zv, rz⟩
      · rw [hv] at z; cases z
      · rw [hv] at z; cases z
        exact ix_dict hu value slice pins s σ H _ _ v u Q I rx ry ⟨a, xs, ky, v', rfl, dkey_rep hk r2, h1, zv, k _ ρ B H Gr.refl W rz⟩ hsub
    | lst ds =>
      obtain ⟨i, hp2, e4, e5⟩ := bind_some e2
      obtain ⟨rfl, rfl⟩ := asI_some e4
      obtain ⟨hv, rfl⟩ := optM_some e5
      obtain ⟨xs, h1, l1⟩ := ro
      obtain ⟨z, hz, rz⟩ := atI_rep l1 hv
      exact ix_list value slice pins s σ H _ _ v u Q I rx ry ⟨a, xs, i, z, rfl, r2.intI, SqL.of h1, hz, k _ ρ B H Gr.refl W rz⟩ hsub
  · exact p_ix value slice pins s σ H x y v u Q I rx ry ⟨ρ, B, hp, _, _, d, hp', W, r1, r2, e, k⟩ hsub
theorem de_ixG (hu : X.A.units + 1 < cLine) (ha : DE X a fa) (hb : DE X b fb) (hs : PlainIx b := by intro _ _; rfl) : DE X (.Subscript a b pos) (eBin ixG fa fb) := L2.PE.imp (pe_ix (p_ixG hu) ha hb hs) fun _ _ _ h => eBin_imp h
def lenG : List DV → M DV
  | [.ref n] => do
    match ← getW n with
    | .lst ds => pure (.int ds.length)
    | .dic kvs => pure (.int kvs.length)
    | _ => failure
  | xs => lenF xs
def seqG : DV → M (List DV)
  | .tup ds => pure ds
  | .lst ds => pure ds
  | .ref n => do
    match ← getW n with
    | .lst ds => pure ds
    | _ => failure
  | _ => failure
theorem seqG_rep {d : DV} {ds : List DV} {hp hp' : Hs} {K : PySem.W.Frag} {ρ : List Addr} {B : Addr → Prop} {H : Hp} {v : V} (W : WOk K ρ B hp H) (r : RepV K ρ B H d v) (h : seqG d hp = some (ds, hp')) : hp = hp' ∧ ∃ p xs, v = .ref p ∧ (SqL K H p xs ∨ SqT K H p xs) ∧ RepL K ρ B H ds xs := by
  cases d with
  | tup xs =>
    obtain ⟨rfl, rfl⟩ := pure_some h
    obtain ⟨a, ys, rfl, _, sq, l⟩ := r.tupI
    exact ⟨rfl, a, ys, rfl, .inr sq, l⟩
  | lst xs =>
    obtain ⟨rfl, rfl⟩ := pure_some h
    obtain ⟨a, ys, rfl, _, sq, l⟩ := r.lstI
    exact ⟨rfl, a, ys, rfl, .inl sq, l⟩
  | ref n =>
    obtain ⟨o, hp1, e1, e2⟩ := bind_some (show (getW n >>= fun o => (match o with | .lst ds => pure ds | _ => failure : M (List DV))) hp = some (ds, hp') from h)
    obtain ⟨e3, rfl⟩ := getW_some e1
    cases o with
    | lst zs =>
      obtain ⟨rfl, rfl⟩ := pure_some e2
      obtain ⟨a, rfl, _, ys, h1, l1⟩ := RepV.refW W r e3
      exact ⟨rfl, a, ys, rfl, .inl (SqL.of h1), l1⟩
    | dic _ => cases e2
    | ins _ _ => cases e2
  | non => cases h
  | bl _ => cases h
  | int _ => cases h
  | str _ => cases h
def one1 (g : DV → M DV) : List DV → M DV
  | [d] => g d
  | _ => failure
def lstF : List DV → M DV := one1 fun d => do let ds ← seqG d; pure (.lst ds)
theorem one1_some {g : DV → M DV} {ds : List DV} {d : DV} {hp hp' : Hs} (h : one1 g ds hp = some (d, hp')) : ∃ x, ds = [x] ∧ g x hp = some (d, hp') := by
  unfold one1 at h
  split at h
  · exact ⟨_, rfl, h⟩
  · cases h
theorem c_list : CallR X (.type "list") (tPn X.K lstF) := by
  intro pins s σ H xs us Q I r h
  obtain ⟨ρ, B, hp, ds, d, hp', W, rl, e, k⟩ := h
  obtain ⟨x, rfl, e⟩ := one1_some e
  obtain ⟨zs, hp1, e1, e2⟩ := bind_some e
  obtain ⟨rfl, rfl⟩ := pure_some e2
  obtain ⟨v, rfl, rv⟩ := rl.oneI
  obtain ⟨rfl, p, ys, rfl, sq, l⟩ := seqG_rep W rv e1
  exact call_list_of pins s σ H _ us Q I r ⟨p, ys, rfl, sq, fol_lst W l k⟩
theorem _root_.L2.CallR.kf {f : Value} {r : List V → Hp → VK → Prop} (h : CallR X f r) : CallR X f (fun xs H Q => r xs H fun v H' => KFree X.K H' → Q v H') := by
  intro pins s σ H xs us Q I rv q
  refine thn (h pins s σ H xs us _ I rv q) fun v s' ⟨x, H', I', rx, q'⟩ => ⟨x, H', I', rx, q' (Inv.kfree I')⟩
end
end D
namespace D
open PySem PySem.Spec PyProof.Rows L2
def drf : Nat → Hs → DV → Option DV
  | 0, _, _ => none
  | n + 1, hp, d => match d with
    | .ref i => match hp[i]? with
      | some (.lst ds) => (ds.mapM (drf n hp)).map .lst
      | _ => none
    | .tup ds => (ds.mapM (drf n hp)).map .tup
    | .lst ds => (ds.mapM (drf n hp)).map .lst
    | d => some d
theorem mapM_cons_some {α β : Type} {f : α → Option β} {x : α} {xs : List α} {ys : List β} (h : (x :: xs).mapM f = some ys) : ∃ y zs, f x = some y ∧ xs.mapM f = some zs ∧ ys = y :: zs := by
  rw [List.mapM_cons] at h
  cases q : f x with
  | none => rw [q] at h; cases h
  | some y =>
    cases q2 : xs.mapM f with
    | none => rw [q, q2] at h; cases h
    | some zs => rw [q, q2] at h; exact ⟨y, zs, rfl, rfl, (Option.some.inj h).symm⟩
section
variable {X : Cx} {pins : List (Addr × Obj)} {σ : St} {H : Hp} {s : Shared} {ρ : List Addr} {B : Addr → Prop} {hp : Hs}
theorem reads_drf (I : Inv X pins σ H s) (W : WOk X.K ρ B hp H) : ∀ (n : Nat) (d d' : DV) (v : V) (u : Value), drf n hp d = some d' → RepV X.K ρ B H d v → RelV v u → ∃ as, Reads s.heap u (toP d') as
  | 0, _, _, _, _, h, _, _ => by cases h
  | n + 1, d, d', v, u, h, r, ru => by
    have all : ∀ (ds ds' : List DV) (xs : List V) (us : List Value), ds.mapM (drf n hp) = some ds' → RepL X.K ρ B H ds xs → Vals xs us → ∃ as, ReadsAll s.heap us (toPs ds') as := by
      intro ds
      induction ds with
      | nil =>
        intro ds' xs us h r ru
        rw [List.mapM_nil] at h; cases h
        unfold RepL at r; subst r; cases ru
        exact ⟨[], by unfold toPs; exact .nil⟩
      | cons x ds ih =>
        intro ds' xs us h r ru
        obtain ⟨y, zs, h1, h2, rfl⟩ := mapM_cons_some h
        unfold RepL at r
        obtain ⟨z, t, rfl, r1, r2⟩ := r
        cases ru with
        | cons q1 q2 =>
          obtain ⟨as, a1⟩ := reads_drf I W n x y z _ h1 r1 q1
          obtain ⟨bs, a2⟩ := ih zs t _ h2 r2 q2
          exact ⟨_, by unfold toPs; exact .cons a1 a2⟩
    have lst : ∀ (ds ds' : List DV) (a : Addr) (xs : List V), ds.mapM (drf n hp) = some ds' → SqL X.K H a xs → RepL X.K ρ B H ds xs → ∃ as, Reads s.heap (.ref a) (toP (.lst ds')) as := by
      intro ds ds' a xs h sq rl
      obtain ⟨its, rv, ⟨o, k, e, hc, _, hd⟩, _⟩ := I.list sq
      obtain ⟨as, q⟩ := all ds ds' xs its h rl rv
      exact ⟨_, by unfold toP; exact reads_list_at e hc hd (by simpa using q)⟩
    unfold drf at h
    cases d with
    | non => cases h; obtain rfl := r.nonI; cases ru; exact ⟨[], by unfold toP; exact .none⟩
    | bl b => cases h; obtain rfl := r.blI; cases ru; exact ⟨[], by unfold toP; exact .bool b⟩
    | int i => cases h; obtain rfl := r.intI; obtain ⟨t, rfl⟩ := ru; exact ⟨[], by unfold toP; exact .int i t⟩
    | str x => cases h; obtain rfl := r.strI; obtain ⟨t, rfl⟩ := ru; exact ⟨[], by unfold toP; exact .str x t⟩
    | tup ds =>
      obtain ⟨ds', h1, rfl⟩ := Option.map_eq_some_iff.mp h
      obtain ⟨a, xs, rfl, _, sq, rl⟩ := r.tupI
      cases ru
      obtain ⟨its, rv, ⟨o, e, hc, k, hd⟩, _⟩ := I.tuple sq
      obtain ⟨as, q⟩ := all ds ds' xs its h1 rl rv
      exact ⟨_, by unfold toP; exact reads_tuple_at e hc hd (by simpa using q)⟩
    | lst ds =>
      obtain ⟨ds', h1, rfl⟩ := Option.map_eq_some_iff.mp h
      obtain ⟨a, xs, rfl, _, sq, rl⟩ := r.lstI
      cases ru
      exact lst ds ds' a xs h1 sq rl
    | ref i =>
      cases q : hp[i]? with
      | none => simp only [q] at h; cases h
      | some o =>
        simp only [q] at h
        cases o with
        | dic _ => cases h
        | ins _ _ => cases h
        | lst ds =>
          obtain ⟨ds', h1, rfl⟩ := Option.map_eq_some_iff.mp h
          obtain ⟨a, rfl, _, xs, h2, l⟩ := RepV.refW W r q
          cases ru
          exact lst ds ds' a xs h1 (SqL.of h2) l
end
def drfM (d : DV) : M DV := fun hp => (drf 40 hp d).map fun x => (x, hp)
theorem drfM_some {d d' : DV} {hp hp' : Hs} (h : drfM d hp = some (d', hp')) : drf 40 hp d = some d' ∧ hp = hp' := by
  obtain ⟨x, h1, h2⟩ := Option.map_eq_some_iff.mp h
  cases h2; exact ⟨h1, rfl⟩
def eqvG (x y : DV) : M Bool := do
  let x' ← drfM x
  let y' ← drfM y
  guardM (SeqAt.shaped (toP x') && SeqAt.shaped (toP y'))
  pure (PyData.eqv (toP x') (toP y'))
def eqG : DV → DV → M DV := fun x y => do let b ← eqvG x y; pure (.bl b)
def neG : DV → DV → M DV := fun x y => do let b ← eqvG x y; pure (.bl (!b))
section
variable {X : Cx} {e a b c : Expr} {f fa fb fc : DEx} {ca cb : DTx} {pos : Pos}
theorem eqvG_some {x y : DV} {k : Bool} {hp hp' : Hs} (h : eqvG x y hp = some (k, hp')) : ∃ x' y', drf 40 hp x = some x' ∧ drf 40 hp y = some y' ∧ SeqAt.shaped (toP x') = true ∧ SeqAt.shaped (toP y') = true ∧ k = PyData.eqv (toP x') (toP y') ∧ hp = hp' := by
  obtain ⟨x', hp1, e1, h⟩ := bind_some h
  obtain ⟨y', hp2, e2, h⟩ := bind_some h
  obtain ⟨_, hp3, e3, h⟩ := bind_some h
  obtain ⟨q1, rfl⟩ := drfM_some e1
  obtain ⟨q2, rfl⟩ := drfM_some e2
  obtain ⟨hs, rfl⟩ := guardM_some e3
  obtain ⟨rfl, rfl⟩ := pure_some h
  rw [Bool.and_eq_true] at hs
  exact ⟨x', y', q1, q2, hs.1, hs.2, rfl, rfl⟩
theorem p_eqG (hu : X.A.units + 64 < cLine) : P2 X (compareOp .Eq) eqG := by
  intro pins s σ H x y v u Q I rx ry h
  obtain ⟨ρ, B, hp, dx, dy, d, hp', W, r1, r2, e, k⟩ := h
  obtain ⟨b, hp1, e1, e2⟩ := bind_some e
  obtain ⟨rfl, rfl⟩ := pure_some e2
  obtain ⟨x', y', q1, q2, s1, s2, rfl, rfl⟩ := eqvG_some e1
  obtain ⟨as, a1⟩ := reads_drf I W _ _ _ _ _ q1 r1 rx
  obtain ⟨bs, a2⟩ := reads_drf I W _ _ _ _ _ q2 r2 ry
  exact eq_dataH a1 a2 s1 s2 hu ⟨.bl _, H, I, rfl, k _ ρ B H Gr.refl W rep_bl⟩
theorem p_neG (hu : X.A.units + 64 < cLine) : P2 X (compareOp .NotEq) neG := by
  intro pins s σ H x y v u Q I rx ry h
  obtain ⟨ρ, B, hp, dx, dy, d, hp', W, r1, r2, e, k⟩ := h
  obtain ⟨b, hp1, e1, e2⟩ := bind_some e
  obtain ⟨rfl, rfl⟩ := pure_some e2
  obtain ⟨x', y', q1, q2, s1, s2, rfl, rfl⟩ := eqvG_some e1
  obtain ⟨as, a1⟩ := reads_drf I W _ _ _ _ _ q1 r1 rx
  obtain ⟨bs, a2⟩ := reads_drf I W _ _ _ _ _ q2 r2 ry
  exact ne_dataH a1 a2 s1 s2 hu ⟨.bl _, H, I, rfl, k _ ρ B H Gr.refl W rep_bl⟩
def flatD : DV → Bool
  | .non => true
  | .bl _ => true
  | .int _ => true
  | .str _ => true
  | _ => false
def eqF : DV → DV → Bool
  | .non, .non => true
  | .bl a, .bl b => a == b
  | .bl a, .int b => (if a then 1 else 0) == b
  | .int a, .bl b => a == (if b then 1 else 0)
  | .int a, .int b => a == b
  | .str a, .str b => a == b
  | _, _ => false
def vOf : DV → V
  | .non => .non
  | .bl b => .bl b
  | .int i => .int i
  | .str x => .str x
  | _ => .non
theorem vOf_rep {K : PySem.W.Frag} {ρ : List Addr} {B : Addr → Prop} {H : Hp} {d : DV} {v : V} (h : flatD d = true) (r : RepV K ρ B H d v) : v = vOf d := by
  cases d <;> simp [flatD] at h
  · exact r.nonI
  · exact r.blI
  · exact r.intI
  · exact r.strI
theorem flat_vOf {d : DV} (h : flatD d = true) : flatV (vOf d) = true := by cases d <;> simp [flatD] at h <;> rfl
theorem eqV_vOf {d e : DV} (h : flatD d = true) (h' : flatD e = true) : eqV (vOf d) (vOf e) = eqF d e := by cases d <;> simp [flatD] at h <;> cases e <;> simp [flatD] at h' <;> rfl
theorem vOf_all {K : PySem.W.Frag} {ρ : List Addr} {B : Addr → Prop} {H : Hp} : ∀ {ds : List DV} {xs : List V}, ds.all flatD = true → RepL K ρ B H ds xs → xs = ds.map vOf
  | [], _, _, r => by unfold RepL at r; exact r
  | d :: ds, _, h, r => by
    unfold RepL at r
    obtain ⟨x, t, rfl, r1, r2⟩ := r
    rw [List.all_cons, Bool.and_eq_true] at h
    rw [vOf_rep h.1 r1, vOf_all h.2 r2]; rfl
def inB (d : DV) (ds : List DV) : Bool := ds.any fun y => eqF y d
theorem inV_vOf {d : DV} (h : flatD d = true) : ∀ {ds : List DV}, ds.all flatD = true → inV (vOf d) (ds.map vOf) = inB d ds
  | [], _ => rfl
  | x :: ds, h' => by
    rw [List.all_cons, Bool.and_eq_true] at h'
    have ih := inV_vOf h h'.2
    unfold inV inB at ih ⊢
    rw [List.map_cons, List.any_cons, List.any_cons, ih, eqV_vOf h'.1 h]
theorem all_flat : ∀ {ds : List DV}, ds.all flatD = true → (ds.map vOf).all flatV = true
  | [], _ => rfl
  | x :: ds, h => by
    rw [List.all_cons, Bool.and_eq_true] at h
    rw [List.map_cons, List.all_cons, flat_vOf h.1, all_flat h.2]; rfl
def memG (x : DV) : DV → M Bool
  | .ref n => do
    match ← getW n with
    | .lst ds => do guardM (flatD x && ds.all flatD); pure (inB x ds)
    | .dic kvs => do let k ← keyM x; pure (valD kvs k).isSome
    | _ => failure
  | .tup ds => do guardM (flatD x && ds.all flatD); pure (inB x ds)
  | .lst ds => do guardM (flatD x && ds.all flatD); pure (inB x ds)
  | _ => failure
def inG : DV → DV → M DV := fun x y => do let b ← memG x y; pure (.bl b)
theorem memG_cases {x y : DV} {k : Bool} {hp hp' : Hs} {K : PySem.W.Frag} {ρ : List Addr} {B : Addr → Prop} {H : Hp} {vx vy : V} (W : WOk K ρ B hp H) (r1 : RepV K ρ B H x vx) (r2 : RepV K ρ B H y vy) (h : memG x y hp = some (k, hp')) : hp = hp' ∧
    ((∃ p xs, vy = .ref p ∧ (SqL K H p xs ∨ SqT K H p xs) ∧ flatV vx = true ∧ xs.all flatV = true ∧ k = inV vx xs) ∨ ∃ a kvs ky, vy = .ref a ∧ vx = kV ky ∧ H a = some (.dK kvs) ∧ k = (valV kvs ky).isSome) := by
  have seq : ∀ (ds : List DV) (xs : List V) (p : Addr), (do guardM (flatD x && ds.all flatD); pure (inB x ds) : M Bool) hp = some (k, hp') → RepL K ρ B H ds xs → (SqL K H p xs ∨ SqT K H p xs) → vy = .ref p → hp = hp' ∧ (∃ p xs, vy = .ref p ∧ (SqL K H p xs ∨ SqT K H p xs) ∧ flatV vx = true ∧ xs.all flatV = true ∧ k = inV vx xs) := by
    intro ds xs p h rl sq ev
    obtain ⟨_, hp1, e1, e2⟩ := bind_some h
    obtain ⟨hs, rfl⟩ := guardM_some e1
    obtain ⟨rfl, rfl⟩ := pure_some e2
    rw [Bool.and_eq_true] at hs
    have ex := vOf_all hs.2 rl
    have e0 := vOf_rep hs.1 r1
    subst ex e0
    exact ⟨rfl, p, _, ev, sq, flat_vOf hs.1, all_flat hs.2, (inV_vOf hs.1 hs.2).symm⟩
  cases y with
  | tup ds =>
    obtain ⟨a, xs, rfl, _, sq, rl⟩ := r2.tupI
    exact (seq ds xs a h rl (.inr sq) rfl).imp id .inl
  | lst ds =>
    obtain ⟨a, xs, rfl, _, sq, rl⟩ := r2.lstI
    exact (seq ds xs a h rl (.inl sq) rfl).imp id .inl
  | ref n =>
    obtain ⟨o, hp1, e1, e2⟩ := bind_some h
    obtain ⟨e3, rfl⟩ := getW_some e1
    obtain ⟨a, rfl, _, ro⟩ := RepV.refW W r2 e3
    cases o with
    | lst ds =>
      obtain ⟨xs, h1, rl⟩ := ro
      exact (seq ds xs a e2 rl (.inl (SqL.of h1)) rfl).imp id .inl
    | dic kvs =>
      obtain ⟨ky, hp2, e4, e5⟩ := bind_some e2
      obtain ⟨hk, rfl⟩ := keyM_some e4
      obtain ⟨rfl, rfl⟩ := pure_some e5
      obtain ⟨xs, h1, rk⟩ := ro.dic
      refine ⟨rfl, .inr ⟨a, xs, ky, rfl, dkey_rep hk r1, h1, ?_⟩⟩
      rcases rk.val ky with ⟨z1, z2⟩ | ⟨_, _, z1, z2, _⟩ <;> rw [z1, z2] <;> rfl
    | ins _ _ => cases e2
  | non => cases h
  | bl _ => cases h
  | int _ => cases h
  | str _ => cases h
theorem p_inG (hu : X.A.units + 1 < cLine) : P2 X (compareOp .In) inG := by
  intro pins s σ H x y v u Q I rx ry h
  obtain ⟨ρ, B, hp, dx, dy, d, hp', W, r1, r2, e, k⟩ := h
  obtain ⟨b, hp1, e1, e2⟩ := bind_some e
  obtain ⟨rfl, rfl⟩ := pure_some e2
  obtain ⟨rfl, h⟩ := memG_cases W r1 r2 e1
  have fin := k _ ρ B H Gr.refl W (rep_bl (b := b))
  rcases h with ⟨p, xs, rfl, sq, f1, f2, rfl⟩ | ⟨a, kvs, ky, rfl, rfl, h1, rfl⟩
  · exact op_in_seq pins s σ H _ _ v u Q I rx ry ⟨p, xs, rfl, sq, f1, f2, fin⟩
  · exact op_in_dict hu pins s σ H _ _ v u Q I rx ry ⟨a, kvs, ky, rfl, rfl, h1, fin⟩
def putG (o i d : DV) : M Unit := match o with
  | .ref n => do
    match ← getW n with
    | .lst ds => do
      let k ← asI i
      match ixN ds.length k with
      | some j => setW n (.lst (ds.set j d))
      | none => failure
    | .dic kvs => do
      let k ← keyM i
      guardM (decide (kvs.length < lim))
      setW n (.dic (putD kvs k d))
    | _ => failure
  | _ => failure
theorem RepL.set {K : PySem.W.Frag} {ρ : List Addr} {B : Addr → Prop} {H : Hp} {d : DV} {x : V} (r : RepV K ρ B H d x) : ∀ {ds : List DV} {xs : List V} (i : Nat), RepL K ρ B H ds xs → RepL K ρ B H (ds.set i d) (xs.set i x)
  | [], _, i, h => by unfold RepL at h; subst h; exact RepL.nil
  | _ :: ds, _, 0, h => by
    unfold RepL at h
    obtain ⟨y, t, rfl, _, h2⟩ := h
    exact RepL.cons r h2
  | _ :: ds, _, i + 1, h => by
    unfold RepL at h
    obtain ⟨y, t, rfl, h1, h2⟩ := h
    exact RepL.cons h1 (RepL.set r i h2)
def kindG : String → DV → M Unit
  | "list", .lst _ => pure ()
  | "str", .str _ => pure ()
  | T, .ref n => do
    match ← getW n with
    | .lst _ => guardM (T == "list")
    | .dic _ => guardM (T == "dict")
    | _ => failure
  | _, _ => failure
theorem kindG_ty {T : String} {d : DV} {hp hp' : Hs} {K : PySem.W.Frag} {ρ : List Addr} {B : Addr → Prop} {H : Hp} {v : V} {u : Unit} (W : WOk K ρ B hp H) (r : RepV K ρ B H d v) (h : kindG T d hp = some (u, hp')) : hp = hp' ∧ tyV K T v H := by
  unfold kindG at h
  split at h
  · obtain ⟨_, rfl⟩ := pure_some h
    obtain ⟨a, xs, rfl, _, sq, _⟩ := r.lstI
    exact ⟨rfl, .inl ⟨rfl, xs, sq⟩⟩
  · obtain ⟨_, rfl⟩ := pure_some h
    obtain rfl := r.strI
    exact ⟨rfl, rfl⟩
  · obtain ⟨o, hp1, e1, e2⟩ := bind_some h
    obtain ⟨e3, rfl⟩ := getW_some e1
    obtain ⟨a, rfl, _, ro⟩ := RepV.refW W r e3
    cases o with
    | lst ds =>
      obtain ⟨hT, rfl⟩ := guardM_some e2
      obtain ⟨xs, h1, _⟩ := ro
      exact ⟨rfl, .inl ⟨by simpa using hT, xs, SqL.of h1⟩⟩
    | dic kvs =>
      obtain ⟨hT, rfl⟩ := guardM_some e2
      obtain ⟨xs, h1, _⟩ := ro
      exact ⟨rfl, .inr (.inr (.inl ⟨by simpa using hT, .inl ⟨xs, h1⟩⟩))⟩
    | ins _ _ => cases e2
  · cases h
def tPm (K : PySem.W.Frag) (m : DV → List DV → M DV) : V → List V → Hp → VK → Prop := fun x vs H Q => ∃ ρ B hp dx ds d hp', WOk K ρ B hp H ∧ RepV K ρ B H dx x ∧ RepL K ρ B H ds vs ∧ m dx ds hp = some (d, hp') ∧ Fol K ρ B H d hp' Q
def eMth (T : String) (m : DV → List DV → M DV) (f : DEx) (a : DAx) : DEx := fun env => do
  let x ← f env
  kindG T x
  let ds ← a env
  m x ds
theorem de_mth0 {T id : String} {name : Str} {o : Expr} {fo : DEx} {m : DV → List DV → M DV} {apos cpos : Pos} (hm : MtR X id (tPm X.K m)) (pa : PlainAttrs T) (slot : Slot T name id) (hty : typeOf (.builtin id) = pure (.type "method_descriptor")) (ho : DE X o fo)
    (hbase : attributeBase o name X.env (eval o X.env) = eval o X.env := by rfl) (hline : (apos.endLine == cpos.line) = true := by rfl) : DE X (.Call (.Attribute o name apos) [] [] cpos) (eMth T m fo aNil) :=
  L2.PE.imp (pe_bm0 pa slot hty hm ho hbase hline) fun σ H Q ⟨Z, env, ρ, B, hp, d, hp', S, e, k⟩ => by
    obtain ⟨x, hp1, e1, ea⟩ := bind_some e
    obtain ⟨_, hp2, e2, eb⟩ := bind_some ea
    obtain ⟨ds, hp3, e3, ec⟩ := bind_some eb
    obtain ⟨z1, z2⟩ := pure_some e3
    refine tD.run S e1 fun v ρ1 B1 H1 g1 S1 r1 => ?_
    obtain ⟨z, ty⟩ := kindG_ty S1.wo r1 e2
    rw [← z1, ← z2, ← z] at ec
    exact ⟨ty, ρ1, B1, hp1, x, [], d, hp', S1.wo, r1, RepL.nil, ec, k.after g1⟩
def onL (x : DV) (k : Nat → List DV → M DV) : M DV := match x with
  | .ref n => do
    match ← getW n with
    | .lst ds => k n ds
    | _ => failure
  | _ => failure
theorem onL_some {x d : DV} {k : Nat → List DV → M DV} {hp hp' : Hs} (h : onL x k hp = some (d, hp')) : ∃ n ds, x = .ref n ∧ hp[n]? = some (.lst ds) ∧ k n ds hp = some (d, hp') := by
  cases x with
  | ref n =>
    obtain ⟨o, hp1, e1, e2⟩ := bind_some h
    obtain ⟨e3, rfl⟩ := getW_some e1
    cases o with
    | lst ds => exact ⟨n, ds, rfl, e3, e2⟩
    | dic _ => cases e2
    | ins _ _ => cases e2
  | _ => cases h
end
end D
namespace L2
open PySem PySem.Spec PyProof.Rows
end L2
namespace D
open PySem PySem.Spec PyProof.Rows L2
section
variable {X : Cx} {e a b c : Expr} {f fa fb fc : DEx} {ca cb : DTx} {pos : Pos}
abbrev NX := Nat → M (Option DV)
def NxtOk (K : PySem.W.Frag) (ρ : List Addr) (B : Addr → Prop) (H : Hp) (nxt : NX) (J : It) : Prop :=
  ∀ ρ1 B1 hp1 H1, Gs K ρ B H ρ1 B1 H1 → WOk K ρ1 B1 hp1 H1 → ∀ (i : Nat) (o : Option DV) (hp2 : Hs), nxt i hp1 = some (o, hp2) → hp2 = hp1 ∧ match o with
    | none => J.stop i H1
    | some d => J.go i H1 ∧ ∀ x H', J.yld i H1 x H' → RepV K ρ1 B1 H' d x ∧ (H' = H1 ∨ ∃ p o, H1 p = none ∧ H' = upd H1 p o)
abbrev DXx := En → M NX
def tDX (K : PySem.W.Frag) (f : DXx) : TI := fun σ H R => ∃ Z env ρ B hp nxt hp', SOk K Z env σ ρ B hp H ∧ f env hp = some (nxt, hp') ∧ ∀ J ρ' B' H', Gr K ρ B H ρ' B' H' → WOk K ρ' B' hp' H' → NxtOk K ρ' B' H' nxt J → R J H'
def DX (X : Cx) (tg iter : Expr) (f : DXx) : Prop := PI X tg iter (tDX X.K f)
def nxD (ds : List DV) : NX := fun i => if i ≤ ds.length then pure ds[i]? else failure
def nxW (n : Nat) : NX := fun i => do
  match ← getW n with
  | .lst ds => pure ds[i]?
  | _ => failure
theorem nxD_ok {K : PySem.W.Frag} {ρ : List Addr} {B : Addr → Prop} {H : Hp} {ds : List DV} {J : It} (h : ItOk K ρ B H ds J) : NxtOk K ρ B H (nxD ds) J := fun ρ1 B1 hp1 H1 g W i o hp2 e => by
  unfold nxD at e
  by_cases hi : i ≤ ds.length
  · rw [if_pos hi] at e
    obtain ⟨rfl, rfl⟩ := pure_some e
    obtain ⟨h1, h2⟩ := h ρ1 B1 H1 g W.rb W.bt
    refine ⟨rfl, ?_⟩
    cases q : ds[i]? with
    | none =>
      have : i = ds.length := by have := List.getElem?_eq_none_iff.mp q; omega
      subst this
      exact h2
    | some d => exact h1 i d q
  · rw [if_neg hi] at e; cases e
theorem nxW_ok {K : PySem.W.Frag} {ρ : List Addr} {B : Addr → Prop} {H : Hp} {n : Nat} {a : Addr} (ha : ρ[n]? = some a) (kf : ∀ H1 : Hp, ∀ xs ys, H1 a = some (.lst xs) → SqL K H1 a ys → ys = xs) : NxtOk K ρ B H (nxW n) (Itl K a) := fun ρ1 B1 hp1 H1 g W i o hp2 e => by
  obtain ⟨ob, hp3, e1, e2⟩ := bind_some e
  obtain ⟨e3, rfl⟩ := getW_some e1
  have ha1 := pre_get g.pre ha
  cases ob with
  | dic _ => cases e2
  | ins _ _ => cases e2
  | lst ds =>
    obtain ⟨rfl, rfl⟩ := pure_some e2
    obtain ⟨xs, h1, l1⟩ := W.obj n a _ ha1 e3
    refine ⟨rfl, ?_⟩
    cases q : ds[i]? with
    | none => exact ⟨xs, SqL.of h1, by rw [← l1.length]; exact List.getElem?_eq_none_iff.mp q⟩
    | some d =>
      obtain ⟨x, hx, rx⟩ := l1.get q
      refine ⟨⟨xs, x, SqL.of h1, hx⟩, fun y H' ⟨eH, hy⟩ => ?_⟩
      subst eH
      have := hy xs (SqL.of h1)
      rw [hx] at this; cases this
      exact ⟨rx, .inl rfl⟩
theorem sql_uniq {K : PySem.W.Frag} {a : Addr} (hk : K.lookup a = none) (H : Hp) (xs ys : List V) (h : H a = some (.lst xs)) (h' : SqL K H a ys) : ys = xs := by
  rcases h' with (h' | ⟨o, h'⟩) | ⟨o, _, _, h', _⟩
  · rw [h] at h'; cases h'; rfl
  · rw [h] at h'; cases h'
  · rw [hk] at h'; cases h'
def xLs (f : DEx) : DXx := fun env => do
  match ← f env with
  | .lst ds => pure (nxD ds)
  | .ref n => do
    match ← getW n with
    | .lst _ => pure (nxW n)
    | _ => failure
  | _ => failure
variable {tg iter : Expr}
theorem dx_list (h : DE X iter f) : DX X tg iter (xLs f) := L2.PI.imp (pi_list (L2.PE.kf h)) fun σ H R ⟨Z, env, ρ, B, hp, nxt, hp', S, e, k⟩ => by
  obtain ⟨d, hp1, e1, e2⟩ := bind_some e
  refine tD.run S e1 fun v ρ1 B1 H1 g1 S1 r1 kf => ?_
  cases d with
  | lst ds =>
    obtain ⟨rfl, rfl⟩ := pure_some e2
    obtain ⟨a, xs, rfl, nb, sq, rl⟩ := r1.lstI
    exact ⟨a, rfl, ⟨xs, sq⟩, k _ ρ1 B1 H1 g1 S1.wo (nxD_ok (it_list nb sq rl))⟩
  | ref n =>
    obtain ⟨o, hp2, e3, e4⟩ := bind_some (show (getW n >>= fun o => (match o with | .lst _ => pure (nxW n) | _ => failure : M NX)) hp1 = some (nxt, hp') from e2)
    obtain ⟨e5, e6⟩ := getW_some e3
    cases o with
    | lst ds =>
      obtain ⟨rfl, z⟩ := pure_some e4
      rw [← z, ← e6] at k
      obtain ⟨a, rfl, i1, xs, h1, _⟩ := RepV.refW S1.wo r1 e5
      exact ⟨a, rfl, ⟨xs, SqL.of h1⟩, k _ ρ1 B1 H1 g1 S1.wo (nxW_ok i1 (sql_uniq (kf a _ h1)))⟩
    | dic _ => cases e4
    | ins _ _ => cases e4
  | non => cases e2
  | bl _ => cases e2
  | int _ => cases e2
  | str _ => cases e2
  | tup _ => cases e2
def forX (nxt : NX) (b : DV → DSx) : Nat → Nat → DSx
  | 0, _, _ => failure
  | m + 1, i, env => do
    match ← nxt i with
    | none => pure (.nx, env)
    | some d => do
      let r ← b d env
      match r.1 with
      | .nx => forX nxt b m (i + 1) r.2
      | .ct => forX nxt b m (i + 1) r.2
      | .bk => pure (.nx, r.2)
      | .rt x => pure (.rt x, r.2)
def sForX (f : DXx) (g : DGx) (body : DSx) : DSx := fun env => do let nxt ← f env; forX nxt (fun d env => do let env' ← g d env; body env') 100000 0 env
theorem ds_forX {body : List Stmt} {fi : DXx} {g : DGx} {sb : DSx} (hp : PassesOwn (model X.prog X.w) X.A X.env X.xe) (hc : X.calm = true) (hi : DX X tg iter fi) (hg : PG X tg (tDG X.K g)) (hb : DSs X body sb)
    (hs : ∀ x, foldedSetIterable iter X.env x = pure x := by intro _; rfl) : DS X (.For tg iter body [] pos) (sForX fi g sb) :=
  (ps_for hp hc hi hg hb hs).imp fun D σ H ⟨Z, env, ρ, B, hp, fl, env', hp', S, e, k⟩ => by
    obtain ⟨nxt, hp1, e1, e2⟩ := bind_some e
    refine ⟨Z, env, ρ, B, hp, nxt, hp1, S, e1, fun J ρ1 B1 H1 g1 W1 it => ?_⟩
    have k1 := k.after (g1.gs S.wo.rb)
    refine ⟨fun i m σ H => ∃ env ρ B hp, SOk X.K Z env σ ρ B hp H ∧ Gs X.K ρ1 B1 H1 ρ B H ∧ forX nxt (fun d env => do let env' ← g d env; sb env') m i env hp = some ((fl, env'), hp'),
      ⟨100000, env, ρ1, B1, hp1, S.grow g1 W1, Gs.refl, e2⟩, ?_⟩
    rintro i m σ H ⟨env2, ρ2, B2, hp2, S2, g2, e3⟩
    cases m with
    | zero => cases e3
    | succ m =>
      obtain ⟨o, hpo, eo, e3⟩ := bind_some e3
      obtain ⟨rfl, ito⟩ := it ρ2 B2 hp2 H g2 S2.wo i o hpo eo
      cases o with
      | none =>
        obtain ⟨z, rfl⟩ := pure_some e3; cases z
        exact .inl ⟨ito, k1 σ ρ2 B2 H g2 S2⟩
      | some d =>
        obtain ⟨go, yl⟩ := ito
        obtain ⟨⟨f1, env4⟩, hp4, e4, e5⟩ := bind_some e3
        obtain ⟨env3, hp3, e6, e7⟩ := bind_some e4
        refine .inr ⟨go, fun σ' H' => ∃ env ρ B hp, SOk X.K Z env σ' ρ B hp H' ∧ Gs X.K ρ1 B1 H1 ρ B H' ∧ forX nxt (fun d env => do let env' ← g d env; sb env') m (i + 1) env hp = some ((fl, env'), hp'),
          fun σ' H' q => ⟨m, Nat.lt_succ_self m, q⟩, fun x H' y => ?_⟩
        obtain ⟨rx, hx⟩ := yl x H' y
        have S3 : SOk X.K Z env2 σ ρ2 B2 hpo H' ∧ Gs X.K ρ2 B2 H ρ2 B2 H' := by
          rcases hx with rfl | ⟨p, o, hn, rfl⟩
          · exact ⟨S2, Gs.refl⟩
          · exact ⟨S2.grow (Gr.laid hn) (S2.wo.laid hn), upd_gs S2.wo.rb hn⟩
        refine ⟨Z, env2, ρ2, B2, hpo, d, env3, hp3, S3.1, rx, e6, fun σ5 ρ5 B5 H5 g5 S5 => ⟨Z, env3, ρ5, B5, hp3, f1, env4, hp4, S5, e7, fun σ6 ρ6 B6 H6 g6 S6 => ?_⟩⟩
        have G6 := g2.trans (S3.2.trans (g5.trans g6))
        cases f1 with
        | nx => exact ⟨env4, ρ6, B6, hp4, S6, G6, e5⟩
        | ct => exact ⟨env4, ρ6, B6, hp4, S6, G6, e5⟩
        | bk => obtain ⟨z, rfl⟩ := pure_some e5; cases z; exact k1 σ6 ρ6 B6 H6 G6 S6
        | rt d => obtain ⟨z, rfl⟩ := pure_some e5; cases z; exact k1 σ6 ρ6 B6 H6 G6 S6
def compX (nxt : NX) (g : DV → M Bool) (f : DV → M DV) : Nat → Nat → M (List DV)
  | 0, _ => failure
  | m + 1, i => do
    match ← nxt i with
    | none => pure []
    | some d => do
      if ← g d then
        let y ← f d
        let ys ← compX nxt g f m (i + 1)
        pure (y :: ys)
      else compX nxt g f m (i + 1)
def eCompX (nw : Bool) (src : DXx) (idx : List Nat) (t : DTx) (f : DEx) : DEx := fun env => do
  let nxt ← src env
  let out ← compX nxt (fun d => t (cE idx env d)) (fun d => f (cE idx env d)) lim 0
  if nw then allocW (.lst out) else pure (.lst out)
variable {elt : Expr} {x : Str} {px : Pos} {ifs : List Expr} {scope : Scope} {cl : List (Str × Addr)} {caps : List Str} {idx : List Nat} {src : DXx} {te : DTx} {nw : Bool}
theorem eCompX_imp {K : PySem.W.Frag} {σ : St} {H : Hp} {Q : VK} (h : tD K (eCompX nw src idx te f) σ H Q) : tComp K (tDX K src) (tDT K te) (tD K f) idx σ H Q := by
  obtain ⟨Z, env, ρ, B, hp, d, hp', S, e, k⟩ := h
  obtain ⟨nxt, hp1, e1, e2⟩ := bind_some e
  obtain ⟨out, hp3, e5, e6⟩ := bind_some e2
  refine ⟨Z, env, ρ, B, hp, nxt, hp1, S, e1, fun J ρ1 B1 H1 g1 W1 it D hD hK => ?_⟩
  have g1s := g1.gs S.wo.rb
  refine ⟨fun i m ys H2 => H2 D = some (.lst ys) ∧ i + m = lim ∧ ∃ ρ2 B2 hp2 don rst, Gr K ρ1 B1 H1 ρ2 B2 H2 ∧ WOk K ρ2 B2 hp2 H2 ∧ B2 D ∧ D ∉ ρ2 ∧ RepL K ρ2 B2 H2 don ys ∧ don.length ≤ i ∧
    compX nxt (fun d => te (cE idx env d)) (fun d => f (cE idx env d)) m i hp2 = some (rst, hp3) ∧ don ++ rst = out, ?_, ?_⟩
  · exact ⟨lim, upd_same, Nat.zero_add _, ρ1, banP B1 D, hp1, [], out, Gr.banned hD hK, W1.banned hD hK, .inr rfl, fun z => W1.bt D (W1.rb D z) hD, RepL.nil, Nat.le_refl _, e5, rfl⟩
  · rintro i m ys H2 ⟨hDs, him, ρ2, B2, hp2, don, rst, g2, W2, bD, nD, rd, dn, e7, e8⟩
    refine ⟨hDs, ?_⟩
    cases m with
    | zero => cases e7
    | succ m =>
      obtain ⟨o, hpo, eo, e7⟩ := bind_some e7
      obtain ⟨rfl, ito⟩ := it ρ2 B2 hp2 H2 (g2.gs W1.rb) W2 i o hpo eo
      cases o with
      | some d0 =>
        obtain ⟨go, yl⟩ := ito
        obtain ⟨b, hp4, e9, e10⟩ := bind_some e7
        refine .inr ⟨go, fun x H3 y => ?_⟩
        obtain ⟨rx, hx⟩ := yl x H3 y
        have S3 : Gr K ρ2 B2 H2 ρ2 B2 H3 ∧ WOk K ρ2 B2 hpo H3 := by
          rcases hx with rfl | ⟨p, o, hn, rfl⟩
          · exact ⟨Gr.refl, W2⟩
          · exact ⟨Gr.laid hn, W2.laid hn⟩
        have g3 := g2.trans S3.1
        have C3 := cσ_ok (idx := idx) S (g1s.trans (g3.gs W1.rb)) S3.2 rx
        refine tDT.run C3 e9 fun ρ4 B4 H4 g4 S4 => ?_
        have hD4 : H4 D = some (.lst ys) := g4.keep D _ nD (S3.1.keep D _ nD hDs)
        have nD4 : D ∉ ρ4 := fun z => (g4.rnew D z).elim nD fun q => by rw [S3.1.keep D _ nD hDs] at q; cases q
        cases b with
        | false =>
          exact iteF ⟨m, Nat.lt_succ_self m, hD4, by omega, ρ4, B4, hp4, don, rst, g3.trans g4, S4.wo, g4.ban D bD, nD4, RepL.grow W2.rb (S3.1.trans g4) _ _ rd, by omega, e10, e8⟩
        | true =>
          obtain ⟨z, hp5, e11, e12⟩ := bind_some e10
          obtain ⟨zs, hp6, e13, e14⟩ := bind_some e12
          obtain ⟨rfl, rfl⟩ := pure_some e14
          refine iteT (tD.run S4 e11 fun v ρ5 B5 H5 g5 S5 r5 => ?_)
          have hD5 : H5 D = some (.lst ys) := g5.keep D _ nD4 hD4
          have nD5 : D ∉ ρ5 := fun z => (g5.rnew D z).elim nD4 fun q => by rw [hD4] at q; cases q
          have bD5 : B5 D := g5.ban D (g4.ban D bD)
          have G5 := g3.trans (g4.trans g5)
          have rd5 := RepL.grow W2.rb (S3.1.trans (g4.trans g5)) _ _ rd
          have trk : ∀ b, (upd H5 D (.lst (ys ++ [v]))) b = none → H5 b = none := fun b q => by
            by_cases e : b = D
            · subst e; rw [upd_same] at q; cases q
            · rw [upd_ne e] at q; exact q
          have g6 : Gs K ρ5 B5 H5 ρ5 B5 (upd H5 D (.lst (ys ++ [v]))) := ⟨List.prefix_rfl, fun _ h => .inl h, fun b o nb h => by rw [upd_ne (show b ≠ D from fun z => nb (by rw [z]; exact bD5))]; exact h, trk⟩
          refine ⟨hD5, ?_, m, Nat.lt_succ_self m, upd_same, by omega, ρ5, B5, hp5, don ++ [z], zs, ?_, ?_, bD5, nD5, RepL.gs g6 _ _ (RepL.append rd5 (RepL.one r5)), by simp; omega, e13, by rw [← e8]; simp⟩
          · have h1 := rd5.length
            have h2 : lim < sizeLine := by decide
            omega
          · exact ⟨G5.pre, G5.ban, G5.new, G5.rnew, fun b o nb h => by rw [upd_ne (show b ≠ D from fun q => by rw [q, hD] at h; cases h)]; exact G5.keep b o nb h, fun b q => G5.trk b (trk b q)⟩
          · exact ⟨S5.wo.len, S5.wo.nd, fun j b o q1 q2 => ORep.gs g6 (upd_ne (show b ≠ D from fun z => nD5 (by rw [← z]; exact List.mem_of_getElem? q1))) (S5.wo.obj j b o q1 q2), S5.wo.rb, fun b z q => S5.wo.bt b z (trk b q), S5.wo.bk⟩
      | none =>
        obtain ⟨z, z'⟩ := pure_some e7
        subst z
        subst z'
        refine .inl ⟨ito, ?_⟩
        rw [List.append_nil] at e8
        subst e8
        cases nw with
        | false =>
          obtain ⟨rfl, rfl⟩ := pure_some (show (pure (.lst don) : M DV) hpo = some (d, hp') from e6)
          have gU : Gs K ρ2 B2 H2 ρ2 (fun b => B2 b ∧ b ≠ D) H2 := ⟨List.prefix_rfl, fun _ h => .inl h.1, fun _ _ _ h => h, fun _ h => h⟩
          refine k (.ref D) ρ2 (fun b => B2 b ∧ b ≠ D) H2 (g1.trans ⟨g2.pre, fun b z => ⟨g2.ban b z, fun q => W1.bt b z (q ▸ hD)⟩, fun b z => g2.new b z.1, g2.rnew, g2.keep, g2.trk⟩)
            ⟨W2.len, W2.nd, fun j b o q1 q2 => ORep.gs gU rfl (W2.obj j b o q1 q2), fun b z => ⟨W2.rb b z, fun q => nD (q ▸ z)⟩, fun b z => W2.bt b z.1, fun b z => W2.bk b z.1⟩ (rep_lst (fun z => z.2 rfl) (SqL.of hDs) (RepL.gs gU _ _ rd))
        | true =>
          cases (show some (DV.ref hpo.length, hpo ++ [OV.lst don]) = some (d, hp') from e6)
          have gU : Gs K ρ2 B2 H2 (ρ2 ++ [D]) B2 H2 := ⟨List.prefix_append _ _, fun _ h => .inl h, fun _ _ _ h => h, fun _ h => h⟩
          refine k (.ref D) (ρ2 ++ [D]) B2 H2 (g1.trans ⟨g2.pre.trans (List.prefix_append _ _), g2.ban, g2.new, fun a z => (List.mem_append.mp z).elim (g2.rnew a) fun q => .inr (by rw [List.mem_singleton.mp q]; exact hD), g2.keep, g2.trk⟩)
            ⟨by simp [W2.len], List.nodup_append.mpr ⟨W2.nd, by simp, fun a ha b hb => by rw [List.mem_singleton.mp hb]; exact fun z => nD (z ▸ ha)⟩, fun j b o q1 q2 => ?_, fun b z => (List.mem_append.mp z).elim (W2.rb b) fun q => by rw [List.mem_singleton.mp q]; exact bD, W2.bt, W2.bk⟩ ?_
          · by_cases hi : j < ρ2.length
            · rw [List.getElem?_append_left hi] at q1
              rw [List.getElem?_append_left (by rw [← W2.len]; exact hi)] at q2
              exact ORep.gs gU rfl (W2.obj j b o q1 q2)
            · rw [List.getElem?_append_right (by omega)] at q1
              rw [List.getElem?_append_right (by rw [← W2.len]; omega)] at q2
              have hi0 : j - ρ2.length = 0 := by
                have := (List.getElem?_eq_some_iff.mp q1).1
                simp at this; omega
              rw [hi0] at q1
              rw [← W2.len, hi0] at q2
              simp at q1 q2
              subst q1 q2
              exact ⟨ys, hDs, RepL.gs gU _ _ rd⟩
          · unfold RepV
            exact ⟨D, rfl, by rw [← W2.len]; simp⟩
theorem de_compX (S : CompS X x scope cl caps idx) (hc : X.calm = true) (hi : DX X (.Name x px) iter src)
    (ht : ∀ C s₀ H₀ ex, DTs (cxComp X scope cl C (x :: caps) s₀ H₀ ex) ifs te) (he : ∀ C s₀ H₀ ex, DE (cxComp X scope cl C (x :: caps) s₀ H₀ ex) elt f)
    (hs : ∀ x, foldedSetIterable iter X.env x = pure x := by intro _; rfl) : DE X (.ListComp elt [⟨.Name x px, iter, ifs, 0⟩] scope pos) (eCompX nw src idx te f) :=
  L2.PE.imp (pe_comp (tt := tDT X.K te) (te := tD X.K f) S hc hi ht he hs) fun _ _ _ h => eCompX_imp h
theorem ds_compX (i : Nat) {y : Str} {py spos : Pos} (hN : X.N.Nodup) (S : CompS X x scope cl caps idx) (hc : X.calm = true) (hi : DX X (.Name x px) iter src)
    (ht : ∀ C s₀ H₀ ex, DTs (cxComp X scope cl C (x :: caps) s₀ H₀ ex) ifs te) (he : ∀ C s₀ H₀ ex, DE (cxComp X scope cl C (x :: caps) s₀ H₀ ex) elt f)
    (hy : X.N[i]? = some y := by rfl) (hx : Loc X.env.scope y := by first | exact Or.inl rfl | exact Or.inr rfl)
    (hsw : swapsWith (.ListComp elt [⟨.Name x px, iter, ifs, 0⟩] scope pos) (some (.Name y py)) spos.line X.env = pure true := by with_unfolding_all rfl)
    (hf : X.fn y = true ∨ X.env.scope.names.lookup y = some .local := by first | exact .inl rfl | exact .inr rfl | assumption)
    (hs : ∀ x, foldedSetIterable iter X.env x = pure x := by intro _; rfl) : DS X (.Assign [.Name y py] (.ListComp elt [⟨.Name x px, iter, ifs, 0⟩] scope pos) spos) (sSet i (eCompX nw src idx te f)) :=
  L2.PS.imp (ps_comp (tt := tDT X.K te) (te := tD X.K f) S hc hi ht he hN hy hx hsw hf hs) fun _ _ _ h => sSet_imp (fun _ _ _ q => eCompX_imp q) h
end
end D
namespace D
open PySem PySem.Spec PyProof.Rows L2
def WP {α : Type} (m : M α) (hp : Hs) (Q : α → Hs → Prop) : Prop := ∃ x hp', m hp = some (x, hp') ∧ Q x hp'
section
variable {α β : Type} {m : M α} {k : α → M β} {hp : Hs} {Q : α → Hs → Prop} {R : β → Hs → Prop}
theorem WP_pure {x : α} : WP (pure x) hp Q ↔ Q x hp := ⟨fun ⟨y, h, e, q⟩ => by obtain ⟨rfl, rfl⟩ := pure_some e; exact q, fun q => ⟨x, hp, rfl, q⟩⟩
theorem WP_bind : WP (m >>= k) hp R ↔ WP m hp fun x h => WP (k x) h R := ⟨fun ⟨y, h, e, q⟩ => by obtain ⟨x, h1, e1, e2⟩ := bind_some e; exact ⟨x, h1, e1, y, h, e2, q⟩, fun ⟨x, h1, e1, y, h, e2, q⟩ => ⟨y, h, (bind_at e1).trans e2, q⟩⟩
theorem WP.mono {Q' : α → Hs → Prop} (h : WP m hp Q) (hq : ∀ x h, Q x h → Q' x h) : WP m hp Q' := let ⟨x, h1, e, q⟩ := h; ⟨x, h1, e, hq x h1 q⟩
theorem WP.of {x : α} {hp' : Hs} (e : m hp = some (x, hp')) (q : Q x hp') : WP m hp Q := ⟨x, hp', e, q⟩
theorem WP.eq {x : α} (e : m = pure x) (q : Q x hp) : WP m hp Q := e ▸ WP_pure.mpr q
end
section
variable {hp : Hs} {env : En} {Q : Fl × En → Hs → Prop}
theorem WP_forL {b : DV → DSx} (I : Nat → En → Hs → Prop) (ds : List DV) (h0 : I 0 env hp) (hs : ∀ (i : Nat) d, ds[i]? = some d → ∀ env hp, I i env hp → WP (b d env) hp fun r h => match r.1 with
    | .nx => I (i + 1) r.2 h
    | .ct => I (i + 1) r.2 h
    | .bk => Q (.nx, r.2) h
    | .rt x => Q (.rt x, r.2) h) (he : ∀ env hp, I ds.length env hp → Q (.nx, env) hp) : WP (forL b ds env) hp Q := by
  suffices h : ∀ (m i : Nat) env hp, m + i = ds.length → I i env hp → WP (forL b (ds.drop i) env) hp Q by simpa using h ds.length 0 env hp rfl h0
  intro m
  induction m with
  | zero =>
    intro i env hp e hI
    have : i = ds.length := by omega
    subst this
    rw [List.drop_length]
    exact WP_pure.mpr (he env hp hI)
  | succ m ih =>
    intro i env hp e hI
    have hlt : i < ds.length := by omega
    rw [List.drop_eq_getElem_cons hlt, forL, WP_bind]
    refine (hs i ds[i] (List.getElem?_eq_getElem hlt) env hp hI).mono fun r h q => ?_
    obtain ⟨fl, env1⟩ := r
    cases fl with
    | nx => exact ih (i + 1) env1 h (by omega) q
    | ct => exact ih (i + 1) env1 h (by omega) q
    | bk => exact WP_pure.mpr q
    | rt x => exact WP_pure.mpr q
theorem WP_forX {nxt : NX} {b : DV → DSx} (ds : List DV) (I : Nat → En → Hs → Prop) (hl : ds.length < 100000) (hn : ∀ (i : Nat) env hp, i ≤ ds.length → I i env hp → nxt i hp = some (ds[i]?, hp)) (h0 : I 0 env hp) (hs : ∀ (i : Nat) d, ds[i]? = some d → ∀ env hp, I i env hp → WP (b d env) hp fun r h => match r.1 with
    | .nx => I (i + 1) r.2 h
    | .ct => I (i + 1) r.2 h
    | .bk => Q (.nx, r.2) h
    | .rt x => Q (.rt x, r.2) h) (he : ∀ env hp, I ds.length env hp → Q (.nx, env) hp) : WP (forX nxt b 100000 0 env) hp Q := by
  suffices h : ∀ (m i n : Nat) env hp, m + i = ds.length → m < n → I i env hp → WP (forX nxt b n i env) hp Q from h ds.length 0 100000 env hp rfl hl h0
  intro m
  induction m with
  | zero =>
    intro i n env hp e hn' hI
    have : i = ds.length := by omega
    subst this
    obtain ⟨n, rfl⟩ : ∃ k, n = k + 1 := ⟨n - 1, by omega⟩
    rw [forX, WP_bind]
    refine WP.of (hn _ env hp (Nat.le_refl _) hI) ?_
    rw [show ds[ds.length]? = none by simp]
    exact WP_pure.mpr (he env hp hI)
  | succ m ih =>
    intro i n env hp e hn' hI
    have hlt : i < ds.length := by omega
    obtain ⟨n, rfl⟩ : ∃ k, n = k + 1 := ⟨n - 1, by omega⟩
    rw [forX, WP_bind]
    refine WP.of (hn i env hp (by omega) hI) ?_
    simp only [List.getElem?_eq_getElem hlt]
    rw [WP_bind]
    refine (hs i ds[i] (List.getElem?_eq_getElem hlt) env hp hI).mono fun r h q => ?_
    obtain ⟨fl, env1⟩ := r
    cases fl with
    | nx => exact ih (i + 1) n env1 h (by omega) (by omega) q
    | ct => exact ih (i + 1) n env1 h (by omega) (by omega) q
    | bk => exact WP_pure.mpr q
    | rt x => exact WP_pure.mpr q
theorem nxD_at (ds : List DV) (i : Nat) (h : i ≤ ds.length) (hp : Hs) : nxD ds i hp = some (ds[i]?, hp) := by unfold nxD; rw [if_pos h]; rfl
theorem WP_forXD {b : DV → DSx} (ds : List DV) (I : Nat → En → Hs → Prop) (hl : ds.length < 100000) (h0 : I 0 env hp) (hs : ∀ (i : Nat) d, ds[i]? = some d → ∀ env hp, I i env hp → WP (b d env) hp fun r h => match r.1 with
    | .nx => I (i + 1) r.2 h
    | .ct => I (i + 1) r.2 h
    | .bk => Q (.nx, r.2) h
    | .rt x => Q (.rt x, r.2) h) (he : ∀ env hp, I ds.length env hp → Q (.nx, env) hp) : WP (forX (nxD ds) b 100000 0 env) hp Q :=
  WP_forX ds I hl (fun i env hp h _ => nxD_at ds i h hp) h0 hs he
end
theorem mapM_same {α : Type} {f : α → Option α} : ∀ {xs : List α}, (∀ x ∈ xs, f x = some x) → xs.mapM f = some xs
  | [], _ => rfl
  | x :: xs, h => by
    rw [List.mapM_cons, h x (by simp), mapM_same fun y hy => h y (List.mem_cons_of_mem _ hy)]; rfl
end D
namespace D
open PySem PySem.Spec PyProof.Rows L2
theorem getW_of {n : Nat} {o : OV} {hp : Hs} (h : hp[n]? = some o) : getW n hp = some (o, hp) := by unfold getW; rw [h]
theorem at_of {α : Type} {m : M α} {x : α} (h : m = pure x) (hp : Hs) : m hp = some (x, hp) := by rw [h]; rfl
theorem sIf_at {c : DTx} {f g : DSx} {env : En} {b : Bool} {hp hp1 : Hs} (h : c env hp = some (b, hp1)) : sIf c f g env hp = if b = true then f env hp1 else g env hp1 := by
  unfold sIf
  rw [bind_at h]
  cases b <;> rfl
theorem eB_at {f : DEx} {env : En} {b : Bool} {hp hp1 : Hs} (h : f env hp = some (.bl b, hp1)) : eB f env hp = some (b, hp1) := by
  unfold eB
  rw [bind_at h]; rfl
theorem eBin_atW {g : DV → DV → M DV} {f f' : DEx} {env : En} {x y d : DV} {hp hp1 hp2 hp3 : Hs} (h : f env hp = some (x, hp1)) (h' : f' env hp1 = some (y, hp2)) (hg : g x y hp2 = some (d, hp3)) : eBin g f f' env hp = some (d, hp3) := by
  unfold eBin
  rw [bind_at h, bind_at h', hg]
theorem eCall1_at {F : List DV → M DV} {f : DEx} {env : En} {x d : DV} {hp hp1 hp2 : Hs} (h : f env hp = some (x, hp1)) (hF : F [x] hp1 = some (d, hp2)) : eCall 1 F (aCons f aNil) env hp = some (d, hp2) := by
  have : aCons f aNil env hp = some ([x], hp1) := by unfold aCons; rw [bind_at h]; rfl
  unfold eCall
  rw [bind_at this]; exact hF
theorem eCall2_at {F : List DV → M DV} {f f' : DEx} {env : En} {x y d : DV} {hp hp1 hp2 hp3 : Hs} (h : f env hp = some (x, hp1)) (h' : f' env hp1 = some (y, hp2)) (hF : F [x, y] hp2 = some (d, hp3)) : eCall 2 F (aCons f (aCons f' aNil)) env hp = some (d, hp3) := by
  have e0 : aCons f' aNil env hp1 = some ([y], hp2) := by unfold aCons; rw [bind_at h']; rfl
  have : aCons f (aCons f' aNil) env hp = some ([x, y], hp2) := by unfold aCons at e0 ⊢; rw [bind_at h, bind_at e0]; rfl
  unfold eCall
  rw [bind_at this]; exact hF
theorem sRet_at {f : DEx} {env : En} {d : DV} {hp hp1 : Hs} (h : f env hp = some (d, hp1)) : sRet f env hp = some ((.rt d, env), hp1) := by
  unfold sRet
  rw [bind_at h]; rfl
theorem sDrop_at {f : DEx} {env : En} {d : DV} {hp hp1 : Hs} (h : f env hp = some (d, hp1)) : sDrop f env hp = some ((.nx, env), hp1) := by
  unfold sDrop
  rw [bind_at h]; rfl
theorem runF_at {n : Nat} {body : DSx} {ds : List DV} {d : DV} {env : En} {hp hp1 : Hs} (h : body (ds.map .val ++ List.replicate (n - ds.length) .un) hp = some ((.rt d, env), hp1)) : runF n body ds hp = some (d, hp1) := by
  unfold runF
  rw [bind_at h]; rfl
theorem eNot_at {c : DTx} {env : En} {b : Bool} {hp hp1 : Hs} (h : c env hp = some (b, hp1)) : eNot c env hp = some (!b, hp1) := by
  unfold eNot
  rw [bind_at h]; rfl
theorem eAndV_at {f g : DEx} {env : En} {b : Bool} {hp hp1 : Hs} (h : f env hp = some (.bl b, hp1)) : eAndV f g env hp = if b = true then g env hp1 else some (.bl false, hp1) := by
  unfold eAndV
  rw [bind_at h]
  cases b <;> rfl
end D
namespace D
open PySem PySem.Spec PyProof.Rows L2
abbrev ClsN (K : PySem.W.Frag) (c : Str) (C : Addr) : Prop := PySem.W.nsIn K mainGlobals c = some (some (.ref C))
section
variable {K : PySem.W.Frag} {ρ : List Addr} {B : Addr → Prop} {H : Hp} {hp : Hs}
abbrev RepF (K : PySem.W.Frag) (ρ : List Addr) (B : Addr → Prop) (H : Hp) : List (Str × DV) → List (Str × V) → Prop := Paired fun p q => p.1 = q.1 ∧ RepV K ρ B H p.2 q.2
theorem repF_of : ∀ {fs : List (Str × DV)} {xs : List (Str × V)}, xs.map (·.1) = fs.map (·.1) → RepL K ρ B H (fs.map (·.2)) (xs.map (·.2)) → RepF K ρ B H fs xs
  | [], [], _, _ => .nil
  | [], _ :: _, e, _ => by simp at e
  | _ :: _, [], e, _ => by simp at e
  | p :: fs, q :: xs, e, r => by
    simp only [List.map_cons, List.cons.injEq] at e
    simp only [List.map_cons] at r
    unfold RepL at r
    obtain ⟨x, t, e2, h1, h2⟩ := r
    simp only [List.cons.injEq] at e2
    obtain ⟨rfl, rfl⟩ := e2
    exact .cons ⟨e.1.symm, h1⟩ (repF_of e.2 h2)
def putFD (f : Str) (d : DV) : List (Str × DV) → List (Str × DV)
  | [] => [(f, d)]
  | (g, x) :: r => if g = f then (g, d) :: r else (g, x) :: putFD f d r
theorem RepF.put {fs : List (Str × DV)} {xs : List (Str × V)} (r : RepF K ρ B H fs xs) (f : Str) {d : DV} {v : V} (rd : RepV K ρ B H d v) : RepF K ρ B H (putFD f d fs) (putF f v xs) := by
  induction r with
  | nil => exact .cons ⟨rfl, rd⟩ .nil
  | @cons p q _ _ h t ih =>
    obtain ⟨p1, p2⟩ := p
    obtain ⟨q1, q2⟩ := q
    obtain ⟨h1, h2⟩ := h
    have h1 : p1 = q1 := h1
    subst h1
    unfold putFD putF
    by_cases e : p1 = f
    · rw [if_pos e, if_pos e]; exact .cons ⟨rfl, rd⟩ t
    · rw [if_neg e, if_neg e]; exact .cons ⟨rfl, h2⟩ ih
theorem RepF.len {fs : List (Str × DV)} {xs : List (Str × V)} (r : RepF K ρ B H fs xs) : fs.length = xs.length := Paired.length r
theorem RepF.gs {ρ' : List Addr} {B' : Addr → Prop} {H' : Hp} {fs : List (Str × DV)} {xs : List (Str × V)} (g : Gs K ρ B H ρ' B' H') (r : RepF K ρ B H fs xs) : RepF K ρ' B' H' fs xs := L2.Paired.mapP r fun _ _ h => ⟨h.1, RepV.gs g _ _ h.2⟩
theorem ORep.ins {a : Addr} {c : Str} {fs : List (Str × DV)} (h : ORep K ρ B H a (.ins c fs)) : ∃ C dx xs, ClsN K c C ∧ H a = some (.ins C dx xs) ∧ RepF K ρ B H fs xs := by
  obtain ⟨C, dx, xs, nc, e, ek, rl⟩ := h
  exact ⟨C, dx, xs, nc, e, repF_of ek rl⟩
end
section
variable {X : Cx} {o e value : Expr} {c f m : Str} {pos pos' tpos apos : Pos} {fo fv : DEx}
end
section
variable {X : Cx}
end
end D
namespace D
open PySem PySem.Spec PyProof.Rows L2
end D
namespace D
open PySem PySem.Spec PyProof.Rows L2
mutual
def KRep (K : PySem.W.Frag) : DV → V → Prop
  | .non, v => v = .non
  | .bl b, v => v = .bl b
  | .int i, v => v = .int i
  | .str x, v => v = .str x
  | .tup ds, v => ∃ (a : Addr) (o : Obj) (its : Array Value) (n : Nat) (xs : List V), v = .ref a ∧ K.lookup a = some o ∧ o.cls = .type "tuple" ∧ o.data = .seq its n ∧ its.size ≤ sizeLine ∧ Vals xs its.toList ∧ KRepL K ds xs
  | _, _ => False
def KRepL (K : PySem.W.Frag) : List DV → List V → Prop
  | [], xs => xs = []
  | d :: ds, xs => ∃ x r, xs = x :: r ∧ KRep K d x ∧ KRepL K ds r
end
mutual
theorem KRep.rep {K : PySem.W.Frag} {ρ : List Addr} {B : Addr → Prop} {H : Hp} (hb : ∀ a, B a → K.lookup a = none) : ∀ (d : DV) (v : V), KRep K d v → RepV K ρ B H d v
  | .non, _, h => by unfold KRep at h; unfold RepV; exact h
  | .bl _, _, h => by unfold KRep at h; unfold RepV; exact h
  | .int _, _, h => by unfold KRep at h; unfold RepV; exact h
  | .str _, _, h => by unfold KRep at h; unfold RepV; exact h
  | .lst _, _, h => by unfold KRep at h; exact h.elim
  | .ref _, _, h => by unfold KRep at h; exact h.elim
  | .tup ds, _, h => by
    unfold KRep at h; unfold RepV
    obtain ⟨a, o, its, n, xs, rfl, h1, h2, h3, h4, h5, h6⟩ := h
    exact ⟨a, xs, rfl, fun z => (by rw [hb a z] at h1; cases h1), .inr ⟨o, its, n, h1, h2, h3, h4, h5⟩, KRepL.rep hb ds xs h6⟩
theorem KRepL.rep {K : PySem.W.Frag} {ρ : List Addr} {B : Addr → Prop} {H : Hp} (hb : ∀ a, B a → K.lookup a = none) : ∀ (ds : List DV) (xs : List V), KRepL K ds xs → RepL K ρ B H ds xs
  | [], _, h => by unfold KRepL at h; unfold RepL; exact h
  | d :: ds, _, h => by
    unfold KRepL at h; unfold RepL
    obtain ⟨x, r, e, h1, h2⟩ := h
    exact ⟨x, r, e, KRep.rep hb d x h1, KRepL.rep hb ds r h2⟩
end
theorem kr_tup {K : PySem.W.Frag} {ds : List DV} {a : Addr} {od : Option Addr} {its : Array Value} {n : Nat} {sl : Array (Option Value)} {xs : List V} (h : K.lookup a = some ⟨.type "tuple", od, .seq its n, sl⟩) (hs : its.size ≤ sizeLine) (hv : Vals xs its.toList) (hl : KRepL K ds xs) : KRep K (.tup ds) (.ref a) := by
  unfold KRep; exact ⟨a, _, its, n, xs, rfl, h, rfl, rfl, hs, hv, hl⟩
theorem kr_str {K : PySem.W.Frag} {i : Str} : KRep K (.str i) (.str i) := by unfold KRep; rfl
theorem krl_nil {K : PySem.W.Frag} : KRepL K [] [] := by unfold KRepL; rfl
theorem krl_cons {K : PySem.W.Frag} {d : DV} {ds : List DV} {x : V} {r : List V} (h : KRep K d x) (h' : KRepL K ds r) : KRepL K (d :: ds) (x :: r) := by unfold KRepL; exact ⟨x, r, rfl, h, h'⟩
theorem de_gtup {X : Cx} {x : Str} {ds : List DV} {a : Addr} {pos : Pos} (hg : Gl X x) (hm : X.mg x = some (.ref a)) (hk : KRep X.K (.tup ds) (.ref a)) (hd : (x == ("__debug__" : Str)) = false := by decide) : DE X (.Name x pos) (eC (.tup ds)) :=
  (pe_glob (v := .ref a) hg hm rfl hd).imp fun σ H Q ⟨Z, env, ρ, B, hp, d', hp', S, e, k⟩ => by
    obtain ⟨rfl, rfl⟩ := pure_some e
    exact k _ ρ B H Gr.refl S.wo (KRep.rep S.wo.bk _ _ hk)
end D
namespace D
open PySem PySem.Spec PyProof.Rows L2
theorem sForX_data {f : DXx} {g : DGx} {body : DSx} {env : En} {hp hp1 : Hs} {ds : List DV} {r : (Fl × En) × Hs} (h : f env hp = some (nxD ds, hp1)) (h' : forX (nxD ds) (fun d env => do let env' ← g d env; body env') 100000 0 env hp1 = some r) : sForX f g body env hp = some r := by
  unfold sForX
  rw [bind_at h]; exact h'
theorem xLs_data {f : DEx} {env : En} {hp hp1 : Hs} {ds : List DV} (h : f env hp = some (.lst ds, hp1)) : xLs f env hp = some (nxD ds, hp1) := by
  unfold xLs
  rw [bind_at h]; rfl
end D
namespace D
open PySem PySem.Spec PyProof.Rows L2
section
variable {X : Cx}
def mExtend (x : DV) : List DV → M DV
  | [y] => onL x fun n ds => onL y fun _ es => do guardM (decide (ds.length + es.length ≤ lim)); setW n (.lst (ds ++ es)); pure .non
  | _ => failure
def mClear (x : DV) : List DV → M DV
  | [] => onL x fun n _ => do setW n (.lst []); pure .non
  | _ => failure
theorem m_clear : MtR X "list.clear" (tPm X.K mClear) := by
  intro pins s σ H x vs v us Q I rx rv h
  obtain ⟨ρ, B, hp, dx, es, d, hp', W, r1, r2, e, k⟩ := h
  unfold mClear at e
  split at e
  · obtain ⟨n, ds, rfl, h0, e⟩ := onL_some e
    cases e
    obtain ⟨a, rfl, i1, xs, h1, l1⟩ := RepV.refW W r1 h0
    have hv : vs = [] := by unfold RepL at r2; exact r2
    obtain ⟨g, W'⟩ := wset_lst W i1 h1 RepL.nil
    exact mt_clear pins s σ H _ _ v us Q I rx rv ⟨a, xs, rfl, hv, h1, k _ ρ B _ g W' rep_non⟩
  · cases e
end
end D
namespace L2
open PySem PySem.Spec PyProof.Rows
abbrev IsZipF (h : Heap) (z p o : Addr) (f : Value) (b : Bool) : Prop := h.get? z = some { cls := Value.type "zip", data := Data.fields #[f, Value.bool b, Value.bool false, Value.ref p, Value.ref o] }
structure ZU (h : Heap) (z p o i j a b : Addr) (n : Nat) : Prop where
  zz : ∃ f fl, IsZipF h z p o f fl ∧ (f = .none ∨ ∃ T : Nat, f = rawInt T)
  pp : IsPair h p (.ref i) (.ref j)
  oo : ∃ x y, IsPair h o x y
  ii : h.IsTupleIter i a n
  jj : h.IsTupleIter j b n
section
variable {prog : Program} {w : World} {A : Around} {E : Value → Shared → Prop} {s : Shared}
end
theorem ZU.at {h h' : Heap} {z p o i j a b : Addr} {n : Nat} (S : ZU h z p o i j a b n) (k : ∀ c ∈ [z, p, o, i, j], ∀ u, h.get? c = some u → h'.get? c = some u) : ZU h' z p o i j a b n := by
  obtain ⟨⟨f, fl, zz, hf⟩, pp, ⟨u1, u2, oo⟩, ii, jj⟩ := S
  exact ⟨⟨f, fl, k z (by simp) _ zz, hf⟩, k p (by simp) _ pp, ⟨u1, u2, k o (by simp) _ oo⟩, ii.at fun u e => k i (by simp) u e, jj.at fun u e => k j (by simp) u e⟩
section
variable {X : Cx} {xn : Str} {p2 : Pos}
end
end L2
namespace D
open PySem PySem.Spec PyProof.Rows L2
section
variable {X : Cx} {xn : Str} {p2 : Pos} {f g : DEx}
end
end D
namespace TR
structure Pg where
  lv : Nat
  ks : List Int
  ps : List Int
  hi : Option Int
  sd : Option Nat
structure Sh where
  room : Nat
  pg : List Pg
  top : Nat
  rd : Int
  wr : Int
inductive Deed where
  | find (k : Int) | put (k w : Int) | cut (k : Int) | stretch (l h : Int)
def Deed.key : Deed → Int
  | .find k => k
  | .put k _ => k
  | .cut k => k
  | .stretch l _ => l
structure Wk where
  deed : Deed
  aim : Int
  goal : Nat
  place : Option Nat
  forks : List (Nat × Nat)
  newp : Option Nat
  worth : Option Int
  pairs : List (Int × Int)
  ended : Bool
def cLe (ks : List Int) (k : Int) : Nat := (ks.filter fun x => decide (x ≤ k)).length
def cLt (ks : List Int) (k : Int) : Nat := (ks.filter fun x => decide (x < k)).length
def getN (fs : List (Nat × Nat)) (k : Nat) : Option Nat := (fs.find? fun p => decide (p.1 = k)).map (·.2)
def without (p : Pg) (k : Int) : Pg := { p with ks := p.ks.take (cLt p.ks k) ++ p.ks.drop (cLe p.ks k), ps := p.ps.take (cLt p.ks k) ++ p.ps.drop (cLe p.ks k) }
end TR
namespace TR
abbrev Bg := Nat → Option Int
def leB (b : Option Int) (x : Int) : Prop := ∀ v, b = some v → v ≤ x
def ltB (b : Option Int) (x : Int) : Prop := ∀ v, b = some v → v < x
def ltH (x : Int) (h : Option Int) : Prop := ∀ v, h = some v → x < v
def leBB (b c : Option Int) : Prop := ∀ v, b = some v → ∃ u, c = some u ∧ v ≤ u
theorem leBB.refl (b : Option Int) : leBB b b := fun v h => ⟨v, h, Int.le_refl _⟩
theorem leBB.trans {a b c : Option Int} (h : leBB a b) (g : leBB b c) : leBB a c := fun v e => by
  obtain ⟨u, e1, l1⟩ := h v e
  obtain ⟨x, e2, l2⟩ := g u e1
  exact ⟨x, e2, by omega⟩
def startAt (b : Option Int) (ks : List Int) : Nat → Option Int
  | 0 => b
  | j + 1 => ks[j]?
structure PageOk (room : Nat) (b : Option Int) (p : Pg) : Prop where
  sorted : p.ks.Pairwise (· < ·)
  few : p.ks.length ≤ room
  parts : p.ps.length = p.ks.length + (if p.lv = 0 then 0 else 1)
  low : ∀ k ∈ p.ks, leB b k
  lowF : 0 < p.lv → ∀ k ∈ p.ks, ltB b k
  high : ∀ k ∈ p.ks, ltH k p.hi
  wide : ∀ h, p.hi = some h → ltB b h
structure Tree (S : Sh) (bg : Bg) : Prop where
  room2 : 2 ≤ S.room
  root : ∃ r : Pg, S.pg[S.top]? = some r ∧ ∀ (n : Nat) (p : Pg), S.pg[n]? = some p → p.lv ≤ r.lv
  rbg : bg S.top = none
  page : ∀ (n : Nat) (p : Pg), S.pg[n]? = some p → PageOk S.room (bg n) p
  link : ∀ (n : Nat) (p : Pg), S.pg[n]? = some p → (p.hi = none ∧ p.sd = none) ∨ ∃ (h : Int) (s : Nat) (q : Pg), p.hi = some h ∧ p.sd = some s ∧ S.pg[s]? = some q ∧ q.lv = p.lv ∧ bg s = some h
  kid : ∀ (n : Nat) (p : Pg), S.pg[n]? = some p → 0 < p.lv → ∀ j k, p.ps[j]? = some k → ∃ (c : Nat) (q : Pg), k = (c : Int) ∧ S.pg[c]? = some q ∧ q.lv + 1 = p.lv ∧ bg c = startAt (bg n) p.ks j
  dis : ∀ (n m : Nat) (p q : Pg), S.pg[n]? = some p → S.pg[m]? = some q → p.lv = q.lv → n ≠ m → (∃ h v, p.hi = some h ∧ bg m = some v ∧ h ≤ v) ∨ (∃ h v, q.hi = some h ∧ bg n = some v ∧ h ≤ v)
  pred : ∀ (n : Nat) (p : Pg), S.pg[n]? = some p → ∀ v, bg n = some v → ∃ (m : Nat) (q : Pg), S.pg[m]? = some q ∧ q.lv = p.lv ∧ q.hi = some v
structure Grow (S : Sh) (bg : Bg) (S' : Sh) (bg' : Bg) : Prop where
  old : ∀ (n : Nat) (p : Pg), S.pg[n]? = some p → bg' n = bg n ∧ ∃ p' : Pg, S'.pg[n]? = some p' ∧ p'.lv = p.lv
theorem Grow.refl {S : Sh} {bg : Bg} : Grow S bg S bg := ⟨fun n p h => ⟨rfl, p, h, rfl⟩⟩
theorem Grow.trans {S S' S'' : Sh} {bg bg' bg'' : Bg} (a : Grow S bg S' bg') (b : Grow S' bg' S'' bg'') : Grow S bg S'' bg'' := ⟨fun n p h => by
  obtain ⟨e1, p1, h1, l1⟩ := a.old n p h
  obtain ⟨e2, p2, h2, l2⟩ := b.old n p1 h1
  exact ⟨e2.trans e1, p2, h2, l2.trans l1⟩⟩
def Untold (S : Sh) (k : Nat) : Prop := ∀ (n : Nat) (p : Pg), S.pg[n]? = some p → 0 < p.lv → (k : Int) ∉ p.ps
structure WOk (S : Sh) (bg : Bg) (w : Wk) : Prop where
  at_ : ∀ n : Nat, w.place = some n → ∃ p : Pg, S.pg[n]? = some p ∧ w.goal ≤ p.lv ∧ leB (bg n) w.aim
  none_ : w.place = none → ∀ l f, getN w.forks l = some f → l < w.goal
  kept : ∀ l f, getN w.forks l = some f → ∃ p : Pg, S.pg[f]? = some p ∧ p.lv = l
  above : ∀ (n : Nat) (p : Pg), w.place = some n → S.pg[n]? = some p → ∀ l f, getN w.forks l = some f → p.lv < l → leBB (bg f) (bg n)
  chain : ∀ l f l' f', getN w.forks l = some f → getN w.forks l' = some f' → w.goal ≤ l → l < l' → leBB (bg f') (bg f)
  gap : ∀ (n : Nat) (p : Pg), w.place = some n → S.pg[n]? = some p → w.goal < p.lv → ∀ l f, getN w.forks l = some f → l < w.goal ∨ p.lv < l
  full : ∀ (n : Nat) (p : Pg), w.place = some n → S.pg[n]? = some p → ∀ l' f', getN w.forks l' = some f' → ∀ l, p.lv < l → l ≤ l' → ∃ f, getN w.forks l = some f
  tell : 0 < w.goal → ∃ (k : Nat) (q : Pg), w.newp = some k ∧ S.pg[k]? = some q ∧ q.lv + 1 = w.goal ∧ bg k = some w.aim
theorem WOk.grow {S S' : Sh} {bg bg' : Bg} {w : Wk} (W : WOk S bg w) (g : Grow S bg S' bg') : WOk S' bg' w where
  at_ := fun n h => by
    obtain ⟨p, h1, h2, h3⟩ := W.at_ n h
    obtain ⟨e, p', h4, h5⟩ := g.old n p h1
    exact ⟨p', h4, by omega, by rw [e]; exact h3⟩
  none_ := W.none_
  kept := fun l f h => by
    obtain ⟨p, h1, h2⟩ := W.kept l f h
    obtain ⟨e, p', h4, h5⟩ := g.old f p h1
    exact ⟨p', h4, by omega⟩
  above := fun n p' hp hn l f hf hl => by
    obtain ⟨p, h1, _⟩ := W.at_ n hp
    obtain ⟨e, p2, h4, h5⟩ := g.old n p h1
    rw [h4] at hn; cases hn
    obtain ⟨pf, h6, _⟩ := W.kept l f hf
    rw [e, (g.old f pf h6).1]
    exact W.above n p hp h1 l f hf (by omega)
  chain := fun l f l' f' h h' a b => by
    obtain ⟨p, h1, _⟩ := W.kept l f h
    obtain ⟨p', h1', _⟩ := W.kept l' f' h'
    rw [(g.old f p h1).1, (g.old f' p' h1').1]
    exact W.chain l f l' f' h h' a b
  gap := fun n p' hp hn a l f hf => by
    obtain ⟨p, h1, _⟩ := W.at_ n hp
    obtain ⟨e, p2, h4, h5⟩ := g.old n p h1
    rw [h4] at hn; cases hn
    rw [h5]
    exact W.gap n p hp h1 (by omega) l f hf
  full := fun n p' hp hn l' f' hf l a b => by
    obtain ⟨p, h1, _⟩ := W.at_ n hp
    obtain ⟨e, p2, h4, h5⟩ := g.old n p h1
    rw [h4] at hn; cases hn
    exact W.full n p hp h1 l' f' hf l (by omega) b
  tell := fun h => by
    obtain ⟨k, q, h1, h2, h3, h4⟩ := W.tell h
    obtain ⟨e, p', h5, h6⟩ := g.old k q h2
    exact ⟨k, p', h1, h5, by omega, by rw [e]; exact h4⟩
theorem WOk.fresh {S : Sh} {bg : Bg} {w : Wk} (h1 : w.place = none) (h2 : w.forks = []) (h3 : w.goal = 0) : WOk S bg w where
  at_ := fun n h => by rw [h1] at h; cases h
  none_ := fun _ l f h => by rw [h2] at h; cases h
  kept := fun l f h => by rw [h2] at h; cases h
  above := fun n p h => by rw [h1] at h; cases h
  chain := fun l f l' f' h => by rw [h2] at h; cases h
  gap := fun n p h => by rw [h1] at h; cases h
  full := fun n p h => by rw [h1] at h; cases h
  tell := fun h => by omega
theorem get_set {α : Type} {xs : List α} {n m : Nat} {x y : α} (h : (xs.set n x)[m]? = some y) : (m = n ∧ y = x ∧ n < xs.length) ∨ (m ≠ n ∧ xs[m]? = some y) := by
  by_cases e : m = n
  · subst e
    by_cases hl : m < xs.length
    · rw [List.getElem?_set_self hl] at h; cases h; exact .inl ⟨rfl, rfl, hl⟩
    · rw [List.getElem?_eq_none (by simpa using hl)] at h; cases h
  · rw [List.getElem?_set_ne (Ne.symm e)] at h; exact .inr ⟨e, h⟩
theorem set_get {α : Type} {xs : List α} {n m : Nat} {x y : α} (h : xs[m]? = some y) : (xs.set n x)[m]? = some (if m = n then x else y) := by
  have hl := (List.getElem?_eq_some_iff.mp h).1
  by_cases e : m = n
  · subst e; rw [List.getElem?_set_self hl, if_pos rfl]
  · rw [List.getElem?_set_ne (Ne.symm e), h, if_neg e]
theorem Tree.write {S : Sh} {bg : Bg} (T : Tree S bg) {n : Nat} {p p' : Pg} {x y : Int} (hn : S.pg[n]? = some p) (hl : p'.lv = p.lv) (hh : p'.hi = p.hi) (hs : p'.sd = p.sd) (ok : PageOk S.room (bg n) p')
    (hk : 0 < p.lv → ∀ j k, p'.ps[j]? = some k → ∃ (c : Nat) (q : Pg), k = (c : Int) ∧ S.pg[c]? = some q ∧ q.lv + 1 = p.lv ∧ bg c = startAt (bg n) p'.ks j) :
    Tree { S with pg := S.pg.set n p', rd := x, wr := y } bg ∧ Grow S bg { S with pg := S.pg.set n p', rd := x, wr := y } bg := by
  have old : ∀ (m : Nat) (q : Pg), S.pg[m]? = some q → ∃ q' : Pg, (S.pg.set n p')[m]? = some q' ∧ q'.lv = q.lv ∧ q'.hi = q.hi ∧ q'.sd = q.sd := fun m q h => by
    refine ⟨_, set_get h, ?_⟩
    by_cases e : m = n
    · subst e; rw [hn] at h; cases h; simp [hl, hh, hs]
    · simp [e]
  have new : ∀ (m : Nat) (q' : Pg), (S.pg.set n p')[m]? = some q' → ∃ q : Pg, S.pg[m]? = some q ∧ q'.lv = q.lv ∧ q'.hi = q.hi ∧ q'.sd = q.sd := fun m q' h => by
    rcases get_set h with ⟨rfl, rfl, _⟩ | ⟨_, h⟩
    · exact ⟨p, hn, hl, hh, hs⟩
    · exact ⟨q', h, rfl, rfl, rfl⟩
  refine ⟨⟨T.room2, ?_, T.rbg, fun m q h => ?_, fun m q h => ?_, fun m q h h0 j k hj => ?_, fun a b q r ha hb hab e => ?_, fun m q h v hv => ?_⟩, ⟨fun m q h => ⟨rfl, by obtain ⟨q', h1, h2, _⟩ := old m q h; exact ⟨q', h1, h2⟩⟩⟩⟩
  · obtain ⟨r, h1, h2⟩ := T.root
    obtain ⟨r', h3, h4, _⟩ := old _ _ h1
    exact ⟨r', h3, fun m q h => by obtain ⟨q0, h5, h6, _⟩ := new m q h; rw [h6, h4]; exact h2 m q0 h5⟩
  · rcases get_set h with ⟨rfl, rfl, _⟩ | ⟨_, h⟩
    · exact ok
    · exact T.page m q h
  · obtain ⟨q0, h1, h2, h3, h4⟩ := new m q h
    rcases T.link m q0 h1 with ⟨a, b⟩ | ⟨x, s, r, a, b, c, d, e⟩
    · exact .inl ⟨h3.trans a, h4.trans b⟩
    · obtain ⟨r', c1, c2, _⟩ := old s r c
      exact .inr ⟨x, s, r', h3.trans a, h4.trans b, c1, by rw [c2, d, h2], e⟩
  · rcases get_set h with ⟨rfl, rfl, _⟩ | ⟨_, h⟩
    · obtain ⟨c, r, h1, h2, h3, h4⟩ := hk (by omega) j k hj
      obtain ⟨r', c1, c2, _⟩ := old c r h2
      exact ⟨c, r', h1, c1, by omega, h4⟩
    · obtain ⟨c, r, h1, h2, h3, h4⟩ := T.kid m q h h0 j k hj
      obtain ⟨r', c1, c2, _⟩ := old c r h2
      exact ⟨c, r', h1, c1, by omega, h4⟩
  · obtain ⟨q0, h1, h2, h3, _⟩ := new a q ha
    obtain ⟨r0, h5, h6, h7, _⟩ := new b r hb
    rw [h3, h7]
    exact T.dis a b q0 r0 h1 h5 (by omega) e
  · obtain ⟨q0, h1, h2, _⟩ := new m q h
    obtain ⟨a, r, h3, h4, h5⟩ := T.pred m q0 h1 v hv
    obtain ⟨r', c1, c2, c3, _⟩ := old a r h3
    exact ⟨a, r', c1, by omega, c3.trans h5⟩
end TR
namespace TR
theorem lt_of_get {α : Type} {xs : List α} {m : Nat} {y : α} (h : xs[m]? = some y) : m < xs.length := (List.getElem?_eq_some_iff.mp h).1
section
variable {S : Sh} {bg : Bg} {n : Nat} {p P : Pg}
end
end TR
namespace TR
section
variable {S : Sh} {bg : Bg} {n : Nat} {p : Pg}
end
end TR
namespace TR
structure All (S : Sh) (bg : Bg) (ws : List Wk) : Prop where
  ok : ∀ (i : Nat) (w : Wk), ws[i]? = some w → w.ended = false → WOk S bg w
  unt : ∀ (i : Nat) (w : Wk) (k : Nat), ws[i]? = some w → w.ended = false → 0 < w.goal → w.newp = some k → Untold S k
  diff : ∀ (i j : Nat) (w v : Wk) (k : Nat), i ≠ j → ws[i]? = some w → ws[j]? = some v → w.ended = false → v.ended = false → 0 < w.goal → 0 < v.goal → w.newp = some k → v.newp ≠ some k
structure Stp (S : Sh) (bg : Bg) (w : Wk) (S' : Sh) (bg' : Bg) (w' : Wk) : Prop where
  tree : Tree S' bg'
  grow : Grow S bg S' bg'
  wok : w'.ended = false → WOk S' bg' w'
  unt : ∀ k v, Untold S k → bg k = some v → (0 < w.goal → w.newp ≠ some k) → Untold S' k
  new : ∀ k, w'.ended = false → 0 < w'.goal → w'.newp = some k → Untold S' k ∧ ((0 < w.goal ∧ w.newp = some k) ∨ S.pg.length ≤ k)
  room : S'.room = S.room
  len : S'.pg.length ≤ S.pg.length + 1
theorem All.step {S S' : Sh} {bg bg' : Bg} {ws : List Wk} {i : Nat} {w w' : Wk} (A : All S bg ws) (hi : ws[i]? = some w) (hw : w.ended = false) (st : Stp S bg w S' bg' w') : All S' bg' (ws.set i w') where
  ok := fun j v hj hv => by
    rcases get_set hj with ⟨rfl, rfl, _⟩ | ⟨_, h⟩
    · exact st.wok hv
    · exact (A.ok j v h hv).grow st.grow
  unt := fun j v k hj hv hg hk => by
    rcases get_set hj with ⟨rfl, rfl, _⟩ | ⟨e, h⟩
    · exact (st.new k hv hg hk).1
    · obtain ⟨k', q, a1, a2, a3, a4⟩ := (A.ok j v h hv).tell hg
      rw [hk] at a1; cases a1
      exact st.unt k _ (A.unt j v k h hv hg hk) a4 fun g0 => (A.diff j i v w k e h hi hv hw hg g0 hk)
  diff := fun a b u v k e ha hb hu hv gu gv hk hk' => by
    have key : ∀ (c : Nat) (x : Wk), c ≠ i → ws[c]? = some x → x.ended = false → 0 < x.goal → x.newp = some k → w'.ended = false → 0 < w'.goal → w'.newp = some k → False := fun c x hc hx he hg hk he' hg' hk' => by
      rcases (st.new k he' hg' hk').2 with ⟨g0, n0⟩ | l
      · exact A.diff c i x w k hc hx hi he hw hg g0 hk n0
      · obtain ⟨k', q, a1, a2, _⟩ := (A.ok c x hx he).tell hg
        rw [hk] at a1; cases a1
        have := lt_of_get a2; omega
    rcases get_set ha with ⟨rfl, rfl, _⟩ | ⟨ea, ha2⟩
    · rcases get_set hb with ⟨rfl, rfl, _⟩ | ⟨eb, hb2⟩
      · exact e rfl
      · exact key b v eb hb2 hv gv hk' hu gu hk
    · rcases get_set hb with ⟨rfl, rfl, _⟩ | ⟨eb, hb2⟩
      · exact key a u ea ha2 hu gu hk hv gv hk'
      · exact A.diff a b u v k e ha2 hb2 hu hv gu gv hk hk'
theorem All.put {S : Sh} {bg : Bg} {ws : List Wk} {i : Nat} {w : Wk} (A : All S bg ws) (h1 : w.place = none) (h2 : w.forks = []) (h3 : w.goal = 0) : All S bg (ws.set i w) where
  ok := fun j v hj hv => by
    rcases get_set hj with ⟨rfl, rfl, _⟩ | ⟨_, h⟩
    · exact WOk.fresh h1 h2 h3
    · exact A.ok j v h hv
  unt := fun j v k hj hv hg hk => by
    rcases get_set hj with ⟨rfl, rfl, _⟩ | ⟨_, h⟩
    · omega
    · exact A.unt j v k h hv hg hk
  diff := fun a b u v k e ha hb hu hv gu gv hk => by
    rcases get_set ha with ⟨rfl, rfl, _⟩ | ⟨_, ha⟩
    · omega
    · rcases get_set hb with ⟨rfl, rfl, _⟩ | ⟨_, hb⟩
      · omega
      · exact A.diff a b u v k e ha hb hu hv gu gv hk
section
variable {S : Sh} {bg : Bg} {n : Nat} {p P : Pg} {w : Wk}
theorem Untold.set {S : Sh} {n : Nat} {p P : Pg} {k : Nat} {x y : Int} (h : Untold S k) (hn : S.pg[n]? = some p) (hl : P.lv = p.lv) (hs : 0 < p.lv → (k : Int) ∈ P.ps → (k : Int) ∈ p.ps) : Untold { S with pg := S.pg.set n P, rd := x, wr := y } k := fun m q hm h0 hk => by
  rcases get_set hm with ⟨rfl, rfl, _⟩ | ⟨_, hm⟩
  · exact h m p hn (by omega) (hs (by omega) hk)
  · exact h m q hm h0 hk
end
end TR
namespace TR
section
variable {S : Sh} {bg : Bg} {n : Nat} {p : Pg} {w : Wk}
end
end TR
namespace TR
def ltO : Option Int → Option Int → Bool
  | none, some _ => true
  | some v, some u => decide (v < u)
  | _, none => false
section
variable {S : Sh} {bg : Bg}
def mu (S : Sh) (bg : Bg) (n : Nat) : Nat := ((List.range S.pg.length).filter fun m => ltO (bg n) (bg m)).length
inductive Lefts (S : Sh) (bg : Bg) : Nat → List Nat → Prop
  | leaf {n : Nat} {p : Pg} : S.pg[n]? = some p → p.lv = 0 → bg n = none → Lefts S bg n [n]
  | fork {n c : Nat} {p : Pg} {r : List Nat} : S.pg[n]? = some p → 0 < p.lv → bg n = none → p.ps[0]? = some (c : Int) → Lefts S bg c r → Lefts S bg n (n :: r)
theorem Lefts.get {n : Nat} {r : List Nat} (h : Lefts S bg n r) : ∀ (T : Tree S bg) (p : Pg), S.pg[n]? = some p → r.length = p.lv + 1 ∧ ∀ i c, r[i]? = some c → ∃ q, S.pg[c]? = some q ∧ q.lv + i = p.lv ∧ bg c = none := by
  induction h with
  | @leaf n p0 hn h0 hb =>
    intro T p hp
    rw [hn] at hp; cases hp
    refine ⟨by simp [h0], fun i c hc => ?_⟩
    match i, hc with
    | 0, hc => cases hc; exact ⟨_, hn, rfl, hb⟩
    | i + 1, hc => simp at hc
  | @fork n c p0 r hn h0 hb hc l ih =>
    intro T p hp
    rw [hn] at hp; cases hp
    obtain ⟨c', q, a1, a2, a3, a4⟩ := T.kid n p0 hn h0 0 _ hc
    have : c = c' := by omega
    subst this
    obtain ⟨i1, i2⟩ := ih T q a2
    refine ⟨by simp [i1]; omega, fun i d hd => ?_⟩
    match i, hd with
    | 0, hd => cases hd; exact ⟨_, hn, rfl, hb⟩
    | i + 1, hd =>
      obtain ⟨z, b1, b2, b3⟩ := i2 i d (by simpa using hd)
      exact ⟨z, b1, by omega, b3⟩
end
end TR
namespace TR
def fresh (d : Deed) : Wk := ⟨d, d.key, 0, none, [], none, none, [], false⟩
end TR
namespace D
open PySem PySem.Spec PyProof.Rows L2
section
variable (s f q : Nat) (d a g p n w e x : DV)
end
end D
namespace D
open PySem PySem.Spec PyProof.Rows L2
section
variable {c f m : Str} {o e : DEx} {fa : DAx} {env : En} {hp hp1 hp2 : Hs} {a n : Nat} {fs : List (Str × DV)} {d v : DV} {ds : List DV} {F : List DV → M DV}
theorem a1_at (h : e env hp = some (v, hp1)) : aCons e aNil env hp = some ([v], hp1) := by unfold aCons; rw [bind_at h]; rfl
theorem a2_at {e' : DEx} {v' : DV} (h : e env hp = some (v, hp1)) (h' : e' env hp1 = some (v', hp2)) : aCons e (aCons e' aNil) env hp = some ([v, v'], hp2) := by
  have := a1_at h'
  unfold aCons at this ⊢; rw [bind_at h, bind_at this]; rfl
theorem a3_at {e' e'' : DEx} {v' v'' : DV} {hp3 : Hs} (h : e env hp = some (v, hp1)) (h' : e' env hp1 = some (v', hp2)) (h'' : e'' env hp2 = some (v'', hp3)) : aCons e (aCons e' (aCons e'' aNil)) env hp = some ([v, v', v''], hp3) := by
  have := a2_at h' h''
  unfold aCons at this ⊢; rw [bind_at h, bind_at this]; rfl
theorem var_at {i : Nat} (h : env[i]? = some (.val d)) : eVar i env hp = some (d, hp) := by unfold eVar; rw [h]; rfl
theorem ifT_at {c : DTx} {f g : DSx} (h : c env hp = some (true, hp1)) : sIf c f g env hp = f env hp1 := by rw [sIf_at h]; rfl
theorem ifF_at {c : DTx} {f g : DSx} (h : c env hp = some (false, hp1)) : sIf c f g env hp = g env hp1 := by rw [sIf_at h]; rfl
end
theorem tup_ix {xs : List DV} {i : Nat} {d : DV} (h : xs[i]? = some d) (hp : Hs) : ixG (.tup xs) (.int i) hp = some (d, hp) := by
  show ixD (.tup xs) (.int i) hp = _
  simp only [ixD, atI_nat h]; rfl
end D
namespace D
open PySem PySem.Spec PyProof.Rows L2
section
variable {e e' e'' e3 e4 : DEx} {fa : DAx} {env : En} {hp hp1 hp2 hp3 hp4 hp5 : Hs} {v v' v'' v3 v4 d : DV} {ds : List DV}
theorem tup_at (ha : fa env hp = some (ds, hp1)) (hs : ds.length ≤ 100000) : eTup fa env hp = some (.tup ds, hp1) := by
  unfold eTup
  rw [bind_at ha]
  have : short ds = true := decide_eq_true hs
  rw [this]; rfl
theorem a4_at (h : e env hp = some (v, hp1)) (h' : e' env hp1 = some (v', hp2)) (h'' : e'' env hp2 = some (v'', hp3)) (h3 : e3 env hp3 = some (v3, hp4)) : aCons e (aCons e' (aCons e'' (aCons e3 aNil))) env hp = some ([v, v', v'', v3], hp4) := by
  have := a3_at h' h'' h3
  unfold aCons at this ⊢; rw [bind_at h, bind_at this]; rfl
theorem a5_at (h : e env hp = some (v, hp1)) (h' : e' env hp1 = some (v', hp2)) (h'' : e'' env hp2 = some (v'', hp3)) (h3 : e3 env hp3 = some (v3, hp4)) (h4 : e4 env hp4 = some (v4, hp5)) : aCons e (aCons e' (aCons e'' (aCons e3 (aCons e4 aNil)))) env hp = some ([v, v', v'', v3, v4], hp5) := by
  have := a4_at h' h'' h3 h4
  unfold aCons at this ⊢; rw [bind_at h, bind_at this]; rfl
end
theorem compX_flt {t : DV → M Bool} {f : DV → M DV} {p : DV → Bool} {hp : Hs} (ds : List DV) (ht : ∀ d ∈ ds, t d hp = some (p d, hp)) (hf : ∀ d ∈ ds, f d hp = some (d, hp)) (hl : ds.length < 100000) : compX (nxD ds) t f 100000 0 hp = some (ds.filter p, hp) := by
  suffices h : ∀ (m i n : Nat), m + i = ds.length → m < n → compX (nxD ds) t f n i hp = some ((ds.drop i).filter p, hp) by simpa using h ds.length 0 100000 rfl hl
  intro m
  induction m with
  | zero =>
    intro i n e hn'
    obtain ⟨n, rfl⟩ : ∃ k, n = k + 1 := ⟨n - 1, by omega⟩
    have : i = ds.length := by omega
    subst this
    have e1 := nxD_at ds ds.length (Nat.le_refl _) hp
    rw [show ds[ds.length]? = none by simp] at e1
    rw [compX, bind_at e1, List.drop_length]
    rfl
  | succ m ih =>
    intro i n e hn'
    obtain ⟨n, rfl⟩ : ∃ k, n = k + 1 := ⟨n - 1, by omega⟩
    have hlt : i < ds.length := by omega
    have e1 := nxD_at ds i (by omega) hp
    rw [List.getElem?_eq_getElem hlt] at e1
    have hi := ih (i + 1) n (by omega) (by omega)
    rw [compX, bind_at e1]
    simp only
    rw [bind_at (ht ds[i] (List.getElem_mem hlt)), List.drop_eq_getElem_cons hlt]
    cases q : p ds[i] with
    | false => rw [List.filter_cons_of_neg (by simp [q])]; simpa using hi
    | true =>
      rw [List.filter_cons_of_pos q]
      simp only [if_true]
      rw [bind_at (hf ds[i] (List.getElem_mem hlt)), bind_at hi]
      rfl
theorem okP_str {x : Str} (h : PyData.strOk x = true) : okP (.str x) = true := by simp [okP, noRef, toP, SeqAt.shaped, PyData.canLay0, PyData.depth, h]
section
variable {c c' : DTx} {e e' : DEx} {env : En} {hp hp1 : Hs} {b : Bool}
theorem eOr_F (h : c env hp = some (false, hp1)) : eOr c c' env hp = c' env hp1 := by unfold eOr; rw [bind_at h]; rfl
end
end D
namespace D
open PySem PySem.Spec PyProof.Rows L2
section
variable {f g : DEx} {fa : DAx} {env : En} {hp hp1 hp2 : Hs} {d x y : DV} {ds : List DV} {F : List DV → M DV}
theorem blt_at (h : fa env hp = some (ds, hp1)) (hF : F ds hp1 = some (d, hp2)) : eBlt F fa env hp = some (d, hp2) := by unfold eBlt; rw [bind_at h]; exact hF
end
end D
namespace D
open PySem PySem.Spec PyProof.Rows L2
section
variable {c : DTx} {b : DSx} {n : Nat} {env env1 : En} {hp hp1 hp2 : Hs}
end
def nD (r : List Nat) : List DV := r.map fun n : Nat => DV.int (n : Int)
end D
namespace D
open PySem PySem.Spec PyProof.Rows L2
end D
namespace D
open PySem PySem.Spec PyProof.Rows L2
section
variable {X : Cx} {e : Expr} {f : DEx} {pos : Pos}
def eIsiG (T : String) (f : DEx) : DEx := fun env => do
  let x ← f env
  match x with
  | .ref n => do
    match ← getW n with
    | .lst _ => pure (.bl (isiB "list" T))
    | _ => failure
  | x => match tyName x with
    | some t => pure (.bl (isiB t T))
    | none => failure
theorem c_isiG {T : String} (hT : T ∈ ["int", "bool", "tuple", "str", "list"]) : CallR X (.builtin "isinstance") (fun xs H Q => (∃ ρ B d x t, xs = [x, .ty T] ∧ RepV X.K ρ B H d x ∧ tyName d = some t ∧ Q (.bl (isiB t T)) H) ∨ ∃ a ys, xs = [.ref a, .ty T] ∧ SqL X.K H a ys ∧ Q (.bl (isiB "list" T)) H) := by
  intro pins s σ H xs us Q I r h
  rcases h with h | ⟨a, ys, rfl, sq, q⟩
  · exact c_isi hT pins s σ H xs us Q I r h
  · obtain ⟨u, w', rfl, ru, rw'⟩ := vals2 r
    cases rw'
    have fin : ∀ tk, EP X pins σ Q (.bool (isiB "list" T)) { s with toks := tk } := fun tk => ⟨.bl _, H, I.tok _, rfl, q⟩
    have kit : PySem.W.kitOne X.K (.type "list") (.type T) = some (isiB "list" T) := by
      simp only [List.mem_cons, List.not_mem_nil, or_false] at hT
      rcases hT with rfl | rfl | rfl | rfl | rfl <;> first | rfl | decide | with_unfolding_all rfl | kernel_rfl
    cases ru
    obtain ⟨its, _, ⟨o, k, e1, e2, _⟩, _⟩ := I.list sq
    exact PySem.W.kia_one PySem.W.kitx_list I.kIn ⟨o, e1, e2⟩ kit (fun z => nomatch z) fin
theorem de_isiG {T : String} {p p' : Pos} (hm : X.mg "isinstance" = none) (hm' : X.mg (Str.ofString T) = none) (hv : bootBuiltins (Str.ofString T) = some (.type T)) (hT : T ∈ ["int", "bool", "tuple", "str", "list"]) (h : DE X e f) (hg : Gl X "isinstance" := by rfl) (hg' : Gl X (Str.ofString T) := by rfl)
    (hn : Str.ofString T ≠ "__name__" := by decide) (hdb : (Str.ofString T == ("__debug__" : Str)) = false := by decide) (hs : starEach [e, .Name (Str.ofString T) p'] X.env = (false, eval e X.env) :: starEach [.Name (Str.ofString T) p'] X.env := by rfl)
    (hs2 : starEach [.Name (Str.ofString T) p'] X.env = (false, eval (.Name (Str.ofString T) p') X.env) :: starEach [] X.env := by rfl) (hpl : (backTo pos (starEach [.Name (Str.ofString T) p'] X.env)).any (·.1) = false := by rfl) : DE X (.Call (.Name "isinstance" p) [e, .Name (Str.ofString T) p'] [] pos) (eIsiG T f) :=
  L2.PE.imp (pe_callB (c_isiG hT) hg hm boot_isinstance (pa_cons h (pa_cons (pe_bltn (v := .ty T) hg' hm' hv rfl hn hdb) pa_nil hs2) hs) (by decide) (by decide) hs hpl) fun σ H Q ⟨Z, env, ρ, B, hp, d, hp', S, e, k⟩ => by
    obtain ⟨x, hp1, e1, e2⟩ := bind_some e
    refine tD.run S e1 fun v ρ1 B1 H1 g1 S1 r1 => ?_
    cases x with
    | ref n =>
      obtain ⟨o, hp2, e3, e4⟩ := bind_some e2
      obtain ⟨e5, rfl⟩ := getW_some e3
      cases o with
      | lst zs =>
        obtain ⟨rfl, rfl⟩ := pure_some e4
        obtain ⟨a, rfl, _, ys, h1, l1⟩ := RepV.refW S1.wo r1 e5
        exact .inr ⟨a, ys, rfl, SqL.of h1, k _ ρ1 B1 H1 g1 S1.wo rep_bl⟩
      | dic _ => cases e4
      | ins _ _ => cases e4
    | non => obtain ⟨rfl, rfl⟩ := pure_some e2; exact .inl ⟨ρ1, B1, _, v, _, rfl, r1, rfl, k _ ρ1 B1 H1 g1 S1.wo rep_bl⟩
    | bl _ => obtain ⟨rfl, rfl⟩ := pure_some e2; exact .inl ⟨ρ1, B1, _, v, _, rfl, r1, rfl, k _ ρ1 B1 H1 g1 S1.wo rep_bl⟩
    | int _ => obtain ⟨rfl, rfl⟩ := pure_some e2; exact .inl ⟨ρ1, B1, _, v, _, rfl, r1, rfl, k _ ρ1 B1 H1 g1 S1.wo rep_bl⟩
    | str _ => obtain ⟨rfl, rfl⟩ := pure_some e2; exact .inl ⟨ρ1, B1, _, v, _, rfl, r1, rfl, k _ ρ1 B1 H1 g1 S1.wo rep_bl⟩
    | tup _ => obtain ⟨rfl, rfl⟩ := pure_some e2; exact .inl ⟨ρ1, B1, _, v, _, rfl, r1, rfl, k _ ρ1 B1 H1 g1 S1.wo rep_bl⟩
    | lst _ => obtain ⟨rfl, rfl⟩ := pure_some e2; exact .inl ⟨ρ1, B1, _, v, _, rfl, r1, rfl, k _ ρ1 B1 H1 g1 S1.wo rep_bl⟩
end
end D
namespace D
open PySem PySem.Spec PyProof.Rows L2
def Pl : Nat → DV → Prop
  | _, .non => True
  | _, .bl _ => True
  | _, .int _ => True
  | _, .str x => PyData.strOk x = true
  | n + 1, .tup ds => ∀ d ∈ ds, Pl n d
  | n + 1, .lst ds => ∀ d ∈ ds, Pl n d
  | _, _ => False
theorem drf_pl : ∀ (n : Nat) (d : DV) (k : Nat) (hp : Hs), Pl n d → drf (n + k + 1) hp d = some d
  | n, .non, k, hp, _ => rfl
  | n, .bl _, k, hp, _ => rfl
  | n, .int _, k, hp, _ => rfl
  | n, .str _, k, hp, _ => rfl
  | 0, .tup ds, k, hp, h => h.elim
  | 0, .lst ds, k, hp, h => h.elim
  | 0, .ref _, k, hp, h => h.elim
  | n + 1, .ref _, k, hp, h => h.elim
  | n + 1, .tup ds, k, hp, h => by
    show (ds.mapM (drf (n + 1 + k) hp)).map DV.tup = _
    rw [mapM_same fun d hd => (by rw [Nat.add_right_comm]; exact drf_pl n d k hp (h d hd))]; rfl
  | n + 1, .lst ds, k, hp, h => by
    show (ds.mapM (drf (n + 1 + k) hp)).map DV.lst = _
    rw [mapM_same fun d hd => (by rw [Nat.add_right_comm]; exact drf_pl n d k hp (h d hd))]; rfl
theorem lay_all : ∀ (ds : List DV), (∀ d ∈ ds, (toP d).canLay0 = true) → PyData.canLayAll0 (toPs ds) = true
  | [], _ => by unfold toPs PyData.canLayAll0; rfl
  | d :: ds, h => by unfold toPs PyData.canLayAll0; rw [h d (by simp), lay_all ds fun x hx => h x (List.mem_cons_of_mem _ hx)]; rfl
theorem lay_pl : ∀ (n : Nat) (d : DV), Pl n d → (toP d).canLay0 = true
  | n, .non, _ => by unfold toP PyData.canLay0; rfl
  | n, .bl _, _ => by unfold toP PyData.canLay0; rfl
  | n, .int _, _ => by unfold toP PyData.canLay0; rfl
  | n, .str x, h => by cases n <;> (unfold toP PyData.canLay0; exact h)
  | 0, .tup ds, h => h.elim
  | 0, .lst ds, h => h.elim
  | 0, .ref _, h => h.elim
  | n + 1, .ref _, h => h.elim
  | n + 1, .tup ds, h => by unfold toP PyData.canLay0; exact lay_all ds fun d hd => lay_pl n d (h d hd)
  | n + 1, .lst ds, h => by unfold toP PyData.canLay0; exact lay_all ds fun d hd => lay_pl n d (h d hd)
theorem depth_all (n : Nat) : ∀ (ds : List DV), (∀ d ∈ ds, (toP d).depth ≤ n) → PyData.depthAll (toPs ds) ≤ n
  | [], _ => by unfold toPs PyData.depthAll; exact Nat.zero_le _
  | d :: ds, h => by unfold toPs PyData.depthAll; exact Nat.max_le.mpr ⟨h d (by simp), depth_all n ds fun x hx => h x (List.mem_cons_of_mem _ hx)⟩
theorem depth_pl : ∀ (n : Nat) (d : DV), Pl n d → (toP d).depth ≤ n
  | n, .non, _ => by unfold toP PyData.depth; exact Nat.zero_le _
  | n, .bl _, _ => by unfold toP PyData.depth; exact Nat.zero_le _
  | n, .int _, _ => by unfold toP PyData.depth; exact Nat.zero_le _
  | n, .str x, h => by unfold toP PyData.depth; exact Nat.zero_le _
  | 0, .tup ds, h => h.elim
  | 0, .lst ds, h => h.elim
  | 0, .ref _, h => h.elim
  | n + 1, .ref _, h => h.elim
  | n + 1, .tup ds, h => by unfold toP PyData.depth; exact Nat.succ_le_succ (depth_all n ds fun d hd => depth_pl n d (h d hd))
  | n + 1, .lst ds, h => by unfold toP PyData.depth; exact Nat.succ_le_succ (depth_all n ds fun d hd => depth_pl n d (h d hd))
theorem shaped_pl {n : Nat} {d : DV} (h : Pl n d) (hn : n ≤ 64) : SeqAt.shaped (toP d) = true := by
  unfold SeqAt.shaped; rw [lay_pl n d h, decide_eq_true (Nat.le_trans (depth_pl n d h) hn)]; rfl
theorem drf_pl40 {n : Nat} {d : DV} (h : Pl n d) (hn : n < 40) (hp : Hs) : drf 40 hp d = some d := by
  have := drf_pl n d (39 - n) hp h
  rwa [show n + (39 - n) + 1 = 40 by omega] at this
theorem Pl.mono : ∀ {n m : Nat} {d : DV}, Pl n d → n ≤ m → Pl m d
  | n, m, .non, h, hn => by cases m <;> trivial
  | n, m, .bl _, h, hn => by cases m <;> trivial
  | n, m, .int _, h, hn => by cases m <;> trivial
  | n, m, .str _, h, hn => by cases n <;> cases m <;> exact h
  | 0, m, .tup ds, h, hn => h.elim
  | 0, m, .lst ds, h, hn => h.elim
  | 0, m, .ref _, h, hn => h.elim
  | n + 1, m, .ref _, h, hn => h.elim
  | n + 1, 0, .tup ds, h, hn => absurd hn (Nat.not_succ_le_zero _)
  | n + 1, 0, .lst ds, h, hn => absurd hn (Nat.not_succ_le_zero _)
  | n + 1, m + 1, .tup ds, h, hn => fun d hd => (h d hd).mono (Nat.le_of_succ_le_succ hn)
  | n + 1, m + 1, .lst ds, h, hn => fun d hd => (h d hd).mono (Nat.le_of_succ_le_succ hn)
theorem pl_int (n : Nat) (i : Int) : Pl n (.int i) := by cases n <;> trivial
theorem pl_non (n : Nat) : Pl n .non := by cases n <;> trivial
theorem pl_str {n : Nat} {x : Str} (h : PyData.strOk x = true) : Pl n (.str x) := by cases n <;> exact h
theorem pl_opt (n : Nat) (o : Option Int) : Pl n (opt o) := by cases o; exact pl_non n; exact pl_int n _
theorem pl_lst {n : Nat} {ds : List DV} (h : ∀ d ∈ ds, Pl n d) : Pl (n + 1) (.lst ds) := h
theorem eqvG_data {x y : DV} {n m : Nat} (h : Pl n x) (h' : Pl m y) (hn : n < 40) (hm : m < 40) (hp : Hs) : eqvG x y hp = some (PyData.eqv (toP x) (toP y), hp) := by
  unfold eqvG drfM
  show ((Option.map _ (drf 40 hp x)).bind _) = _
  rw [drf_pl40 h hn]
  show ((Option.map _ (drf 40 hp y)).bind _) = _
  rw [drf_pl40 h' hm]
  show (guardM (SeqAt.shaped (toP x) && SeqAt.shaped (toP y)) >>= fun _ => pure (PyData.eqv (toP x) (toP y)) : M Bool) hp = _
  rw [shaped_pl h (by omega), shaped_pl h' (by omega)]
  rfl
theorem eqvG_same {x : DV} {n : Nat} (h : Pl n x) (hn : n < 40) (hp : Hs) : eqvG x x hp = some (true, hp) := by
  rw [eqvG_data h h hn hn, SeqAt.eqv_refl _ (lay_pl n x h)]
theorem eqG_same {x : DV} {n : Nat} (h : Pl n x) (hn : n < 40) (hp : Hs) : eqG x x hp = some (.bl true, hp) := by
  unfold eqG; rw [bind_at (eqvG_same h hn hp)]; rfl
theorem neG_same {x : DV} {n : Nat} (h : Pl n x) (hn : n < 40) (hp : Hs) : neG x x hp = some (.bl false, hp) := by
  unfold neG; rw [bind_at (eqvG_same h hn hp)]; rfl
theorem eqvG_refL {a : Nat} {ds : List DV} {n : Nat} {hp : Hs} (ha : hp[a]? = some (.lst ds)) (h : ∀ d ∈ ds, Pl n d) (hn : n < 38) : eqvG (.ref a) (.lst ds) hp = some (true, hp) := by
  have hl : Pl (n + 1) (.lst ds) := h
  have e : drf 40 hp (.ref a) = some (.lst ds) := by
    show (match hp[a]? with | some (.lst ds) => (ds.mapM (drf 39 hp)).map DV.lst | _ => none) = _
    rw [ha]
    show (ds.mapM (drf 39 hp)).map DV.lst = _
    rw [mapM_same fun d hd => (by have := drf_pl n d (38 - n) hp (h d hd); rwa [show n + (38 - n) + 1 = 39 by omega] at this)]; rfl
  unfold eqvG drfM
  show ((Option.map _ (drf 40 hp (.ref a))).bind _) = _
  rw [e]
  show ((Option.map _ (drf 40 hp (.lst ds))).bind _) = _
  rw [drf_pl40 hl (by omega)]
  show (guardM (SeqAt.shaped (toP (.lst ds)) && SeqAt.shaped (toP (.lst ds))) >>= fun _ => pure (PyData.eqv (toP (.lst ds)) (toP (.lst ds))) : M Bool) hp = _
  rw [shaped_pl hl (by omega), SeqAt.eqv_refl _ (lay_pl _ _ hl)]
  rfl
theorem eqG_refL {a : Nat} {ds : List DV} {n : Nat} {hp : Hs} (ha : hp[a]? = some (.lst ds)) (h : ∀ d ∈ ds, Pl n d) (hn : n < 38) : eqG (.ref a) (.lst ds) hp = some (.bl true, hp) := by
  unfold eqG; rw [bind_at (eqvG_refL ha h hn)]; rfl
theorem neG_refL {a : Nat} {ds : List DV} {n : Nat} {hp : Hs} (ha : hp[a]? = some (.lst ds)) (h : ∀ d ∈ ds, Pl n d) (hn : n < 38) : neG (.ref a) (.lst ds) hp = some (.bl false, hp) := by
  unfold neG; rw [bind_at (eqvG_refL ha h hn)]; rfl
theorem compX_map {t : DV → M Bool} {f : DV → M DV} {g : DV → DV} {hp : Hs} (ds : List DV) (ht : ∀ d ∈ ds, t d hp = some (true, hp)) (hf : ∀ d ∈ ds, f d hp = some (g d, hp)) (hl : ds.length < 100000) : compX (nxD ds) t f 100000 0 hp = some (ds.map g, hp) := by
  suffices h : ∀ (m i n : Nat), m + i = ds.length → m < n → compX (nxD ds) t f n i hp = some ((ds.drop i).map g, hp) by simpa using h ds.length 0 100000 rfl hl
  intro m
  induction m with
  | zero =>
    intro i n e hn'
    obtain ⟨n, rfl⟩ : ∃ k, n = k + 1 := ⟨n - 1, by omega⟩
    have : i = ds.length := by omega
    subst this
    have e1 := nxD_at ds ds.length (Nat.le_refl _) hp
    rw [show ds[ds.length]? = none by simp] at e1
    rw [compX, bind_at e1, List.drop_length]; rfl
  | succ m ih =>
    intro i n e hn'
    obtain ⟨n, rfl⟩ : ∃ k, n = k + 1 := ⟨n - 1, by omega⟩
    have hlt : i < ds.length := by omega
    have e1 := nxD_at ds i (by omega) hp
    rw [List.getElem?_eq_getElem hlt] at e1
    rw [compX, bind_at e1]
    simp only
    rw [bind_at (ht ds[i] (List.getElem_mem hlt)), List.drop_eq_getElem_cons hlt]
    simp only [if_true]
    rw [bind_at (hf ds[i] (List.getElem_mem hlt)), bind_at (ih (i + 1) n (by omega) (by omega))]; rfl
theorem at_pure {α : Type} {m : M α} {x : α} (h : ∀ hp, m hp = some (x, hp)) : m = pure x := funext h
section
variable {env : En} {hp hp1 hp2 hp3 hp4 hp5 hp6 hp7 : Hs} {e e' e'' e3 e4 e5 e6 : DEx} {v v' v'' v3 v4 v5 v6 : DV}
theorem a6_at (h : e env hp = some (v, hp1)) (h' : e' env hp1 = some (v', hp2)) (h'' : e'' env hp2 = some (v'', hp3)) (h3 : e3 env hp3 = some (v3, hp4)) (h4 : e4 env hp4 = some (v4, hp5)) (h5 : e5 env hp5 = some (v5, hp6)) : aCons e (aCons e' (aCons e'' (aCons e3 (aCons e4 (aCons e5 aNil))))) env hp = some ([v, v', v'', v3, v4, v5], hp6) := by
  show (e env >>= fun x => aCons e' (aCons e'' (aCons e3 (aCons e4 (aCons e5 aNil)))) env >>= fun xs => pure (x :: xs)) hp = _
  rw [bind_at h, bind_at (a5_at h' h'' h3 h4 h5)]; rfl
theorem a7_at (h : e env hp = some (v, hp1)) (h' : e' env hp1 = some (v', hp2)) (h'' : e'' env hp2 = some (v'', hp3)) (h3 : e3 env hp3 = some (v3, hp4)) (h4 : e4 env hp4 = some (v4, hp5)) (h5 : e5 env hp5 = some (v5, hp6)) (h6 : e6 env hp6 = some (v6, hp7)) : aCons e (aCons e' (aCons e'' (aCons e3 (aCons e4 (aCons e5 (aCons e6 aNil)))))) env hp = some ([v, v', v'', v3, v4, v5, v6], hp7) := by
  show (e env >>= fun x => aCons e' (aCons e'' (aCons e3 (aCons e4 (aCons e5 (aCons e6 aNil))))) env >>= fun xs => pure (x :: xs)) hp = _
  rw [bind_at h, bind_at (a6_at h' h'' h3 h4 h5 h6)]; rfl
theorem inT_at {x : DV} {ds : List DV} (h1 : flatD x = true) (h2 : ds.all flatD = true) (hp : Hs) : inG x (.tup ds) hp = some (.bl (inB x ds), hp) := by
  show ((guardM (flatD x && ds.all flatD) >>= fun _ => pure (inB x ds)) >>= fun b => pure (DV.bl b) : M DV) hp = _
  rw [h1, h2]; rfl
theorem clear_at {o : DEx} {a : Nat} {ds : List DV} (ho : o env hp = some (.ref a, hp)) (h : hp[a]? = some (.lst ds)) : eMth "list" mClear o aNil env hp = some (.non, hp.set a (.lst [])) := by
  unfold eMth
  rw [bind_at ho]
  have e2 : kindG "list" (.ref a) hp = some ((), hp) := by
    show (getW a >>= _) hp = _
    rw [bind_at (getW_of h)]; rfl
  rw [bind_at e2, bind_at (rfl : aNil env hp = some ([], hp))]
  show (getW a >>= _) hp = _
  rw [bind_at (getW_of h)]; rfl
theorem isiL_at {f : DEx} {a : Nat} {ds : List DV} (h : f env hp = some (.ref a, hp1)) (h' : hp1[a]? = some (.lst ds)) : eIsiG "list" f env hp = some (.bl true, hp1) := by
  unfold eIsiG; rw [bind_at h]
  show (getW a >>= _) hp1 = _
  rw [bind_at (getW_of h')]; rfl
end
end D
namespace K41
open PySem PySem.Spec PyProof.Rows L2 D
def top (i : Nat) : Stmt := PySem.Challenge.pw_sidelink_k41_moments_picked.main.body.getD i (.Pass ⟨0, 0, 0, 0⟩)
abbrev s_moments : Stmt := top 2
def C_moments_1 : DEx := eCompX true (xLs (eVar 0)) [] (eB (eBin inG (eBin ixG (eVar 0) (eC (.int 0))) (eC (.tup [.str "found", .str "put", .str "cut", .str "read"])))) (eVar 0)
def b_moments : DSx := sRet (C_moments_1)
def F_moments : List DV → M DV := runF 1 b_moments
abbrev s_law_dealt : Stmt := top 4
def b_law_dealt : DSx := sSeq (sSet 2 (eBin modD (eBin addD (eBin modD (eVar 0) (eC (.int 982451653))) (eBin mulD (eC (.int 7368787)) (eBin addD (eVar 1) (eC (.int 1))))) (eC (.int 982451653)))) (sSeq (sSet 2 (eBin addD (eBin modD (eBin mulD (eVar 2) (eVar 2)) (eC (.int 982451653))) (eBin mulD (eC (.int 3)) (eVar 1)))) (sRet (eBin modD (eBin mulD (eVar 2) (eBin addD (eVar 2) (eC (.int 15485863)))) (eC (.int 899809343)))))
def F_law_dealt : List DV → M DV := runF 3 b_law_dealt
abbrev s_law_number : Stmt := top 5
def b_law_number : DSx := sSeq (sSet 2 (eCall 2 F_law_dealt (aCons (eVar 0) (aCons (eBin addD (eVar 1) (eC (.int 1))) (aNil))))) (sSeq (sIf (eB (eBin eqD (eBin modD (eCall 2 F_law_dealt (aCons (eVar 0) (aCons (eVar 1) (aNil)))) (eC (.int 4))) (eC (.int 0)))) (sRet (eBin ixD (eLst (aCons (eBin powD (eC (.int 10)) (eC (.int 30))) (aCons (eNeg (eBin powD (eC (.int 10)) (eC (.int 30)))) (aCons (eC (.int 0)) (aCons (eBin subD (eC (.int 1)) (eBin powD (eC (.int 10)) (eC (.int 30)))) (aNil)))))) (eBin modD (eVar 2) (eC (.int 4))))) (sNil)) (sSeq (sIf (eB (eBin eqD (eBin modD (eCall 2 F_law_dealt (aCons (eVar 0) (aCons (eVar 1) (aNil)))) (eC (.int 4))) (eC (.int 1)))) (sRet (eBin subD (eBin modD (eBin addD (eBin addD (eBin mulD (eVar 2) (eBin powD (eC (.int 10)) (eC (.int 22)))) (eBin mulD (eCall 2 F_law_dealt (aCons (eVar 0) (aCons (eBin addD (eVar 1) (eC (.int 2))) (aNil)))) (eBin powD (eC (.int 10)) (eC (.int 13))))) (eVar 2)) (eBin addD (eBin mulD (eC (.int 2)) (eBin powD (eC (.int 10)) (eC (.int 30)))) (eC (.int 1)))) (eBin powD (eC (.int 10)) (eC (.int 30))))) (sNil)) (sRet (eBin subD (eBin modD (eVar 2) (eC (.int 9))) (eC (.int 4))))))
def F_law_number : List DV → M DV := runF 3 b_law_number
abbrev s_law_or_none : Stmt := top 6
def b_law_or_none : DSx := sSeq (sIf (eB (eBin eqD (eBin modD (eCall 2 F_law_dealt (aCons (eVar 0) (aCons (eVar 1) (aNil)))) (eC (.int 3))) (eC (.int 0)))) (sRet (eC .non)) (sNil)) (sRet (eCall 2 F_law_number (aCons (eVar 0) (aCons (eBin addD (eVar 1) (eC (.int 1))) (aNil)))))
def F_law_or_none : List DV → M DV := runF 2 b_law_or_none
abbrev s_law_row : Stmt := top 7
def C_law_row_1 : DEx := eComp (iRg1 (aCons (eBin modD (eVar 6) (eC (.int 3))) (aNil))) [0] (tAll) (eTup (aCons (eCall 2 F_law_number (aCons (eVar 1) (aCons (eBin addD (eC (.int 10)) (eBin mulD (eC (.int 6)) (eVar 0))) (aNil)))) (aCons (eCall 2 F_law_number (aCons (eVar 1) (aCons (eBin addD (eC (.int 13)) (eBin mulD (eC (.int 6)) (eVar 0))) (aNil)))) (aNil))))
def b_law_row : DSx := sSeq (sSet 1 (eLst (aCons (eC (.str "found")) (aCons (eC (.str "put")) (aCons (eC (.str "cut")) (aCons (eC (.str "read")) (aCons (eC (.str "side")) (aCons (eC (.str "down")) (aCons (eC (.str "told")) (aCons (eC (.str "raised")) (aCons (eC (.str "take")) (aCons (eC (.str "rest")) (aNil))))))))))))) (sSeq (sSet 2 (eBin ixD (eVar 1) (eBin modD (eCall 2 F_law_dealt (aCons (eVar 0) (aCons (eC (.int 0)) (aNil)))) (eC (.int 10))))) (sSeq (sSet 3 (eBin modD (eCall 2 F_law_dealt (aCons (eVar 0) (aCons (eC (.int 1)) (aNil)))) (eC (.int 8)))) (sSeq (sSet 4 (eBin modD (eCall 2 F_law_dealt (aCons (eVar 0) (aCons (eC (.int 2)) (aNil)))) (eC (.int 300)))) (sSeq (sSet 5 (eBin modD (eCall 2 F_law_dealt (aCons (eVar 0) (aCons (eC (.int 3)) (aNil)))) (eC (.int 50)))) (sSeq (sSet 6 (eBin modD (eCall 2 F_law_dealt (aCons (eVar 0) (aCons (eC (.int 4)) (aNil)))) (eC (.int 50)))) (sSeq (sIf (eB (eBin eqD (eVar 2) (eC (.str "rest")))) (sRet (eTup (aCons (eVar 2) (aCons (eVar 3) (aNil))))) (sNil)) (sSeq (sIf (eB (eBin eqD (eVar 2) (eC (.str "take")))) (sRet (eTup (aCons (eVar 2) (aCons (eVar 3) (aCons (eVar 4) (aNil)))))) (sNil)) (sSeq (sIf (eOr (eB (eBin eqD (eVar 2) (eC (.str "found")))) (eB (eBin eqD (eVar 2) (eC (.str "cut"))))) (sRet (eTup (aCons (eVar 2) (aCons (eVar 3) (aCons (eVar 4) (aCons (eVar 5) (aCons (eCall 2 F_law_or_none (aCons (eVar 0) (aCons (eC (.int 5)) (aNil)))) (aNil)))))))) (sNil)) (sSeq (sIf (eOr (eB (eBin eqD (eVar 2) (eC (.str "put")))) (eB (eBin eqD (eVar 2) (eC (.str "told"))))) (sSeq (sSet 7 (eBin ixD (eLst (aCons (eC .non) (aCons (eVar 6) (aNil)))) (eBin modD (eCall 2 F_law_dealt (aCons (eVar 0) (aCons (eC (.int 9)) (aNil)))) (eC (.int 2))))) (sSeq (sIf (eB (eBin eqD (eVar 2) (eC (.str "told")))) (sRet (eTup (aCons (eVar 2) (aCons (eVar 3) (aCons (eVar 4) (aCons (eVar 5) (aCons (eVar 7) (aNil)))))))) (sNil)) (sRet (eTup (aCons (eVar 2) (aCons (eVar 3) (aCons (eVar 4) (aCons (eVar 5) (aCons (eCall 2 F_law_or_none (aCons (eVar 0) (aCons (eC (.int 5)) (aNil)))) (aCons (eVar 7) (aNil))))))))))) (sNil)) (sSeq (sIf (eB (eBin eqD (eVar 2) (eC (.str "read")))) (sSeq (sSet 8 (eBlt tupF (aCons (C_law_row_1) (aNil)))) (sSeq (sIf (eB (eBin eqD (eBin modD (eVar 6) (eC (.int 2))) (eC (.int 0)))) (sRet (eTup (aCons (eVar 2) (aCons (eVar 3) (aCons (eVar 4) (aCons (eVar 5) (aCons (eVar 8) (aCons (eC .non) (aCons (eC .non) (aNil)))))))))) (sNil)) (sRet (eTup (aCons (eVar 2) (aCons (eVar 3) (aCons (eVar 4) (aCons (eVar 5) (aCons (eVar 8) (aCons (eVar 6) (aCons (eCall 2 F_law_number (aCons (eVar 0) (aCons (eC (.int 30)) (aNil)))) (aNil)))))))))))) (sNil)) (sRet (eTup (aCons (eVar 2) (aCons (eVar 3) (aCons (eVar 4) (aCons (eVar 5) (aCons (eVar 6) (aNil))))))))))))))))))
def F_law_row : List DV → M DV := runF 9 b_law_row
abbrev s_law : Stmt := top 8
def l_law_1 : DSx := sIf (eB (eBin inG (eBin ixG (eVar 3) (eC (.int 0))) (eTup (aCons (eC (.str "found")) (aCons (eC (.str "put")) (aCons (eC (.str "cut")) (aCons (eC (.str "read")) (aNil)))))))) (sApp 2 (eVar 3)) (sNil)
def L_law_1 : DSx := sForX (xLs (eVar 1)) (gN 3) (l_law_1)
def C_law_1 : DEx := eCompX false (xLs (eSl (eVar 0) (oNone) (oSome (eC (.int 3000))))) [] (tAll) (eCall 1 F_law_row (aCons (eVar 0) (aNil)))
def b_law : DSx := sSeq (sSet 1 (C_law_1)) (sSeq (sAcc 2) (sSeq (L_law_1) (sSeq (sSet 4 (eBlt lstF (aCons (eVar 1) (aNil)))) (sSeq (sSet 5 (eCall 1 F_moments (aCons (eVar 4) (aNil)))) (sSeq (sDis 2 (sIf (eOr (eNot (eB (eIsiG "list" (eVar 5)))) (eOr (eB (eBin neG (eVar 5) (eVar 2))) (eB (eBin neG (eVar 4) (eVar 1))))) (sRet (eC (.bl false))) (sNil))) (sSeq (sDrop (eMth "list" mClear (eVar 5) aNil)) (sDis 2 (sRet (eAndV (eBin eqG (eCall 1 F_moments (aCons (eVar 4) (aNil))) (eVar 2)) (eBin eqG (eVar 4) (eVar 1)))))))))))
def F_law : List DV → M DV := runF 6 b_law
section
variable {P : Program} {w : World} {K : PySem.W.Frag} {mg : Str → Option Value} {base : Heap} {g : Addr} {fd : FuncData}
theorem sc_moments : FnScope ["rows"] ["rows"] (defScope s_moments) := ⟨rfl, rfl, rfl, by decide +kernel, rfl, by decide +kernel, by decide +kernel⟩
theorem has_moments (F : Fun K "moments" "moments" s_moments g fd) (hm : mg "moments" = some (.ref g)) {a_MOMENT_WORDS : Addr} (g_MOMENT_WORDS : mg "MOMENT_WORDS" = some (.ref a_MOMENT_WORDS)) (q_MOMENT_WORDS : KRep K (.tup [.str "found", .str "put", .str "cut", .str "read"]) (.ref a_MOMENT_WORDS)) : Has P w K mg base "moments" 1 1 F_moments :=
  fn_has F sc_moments hm (fun _ _ _ _ _ _ us hl => match us, hl with | [_], _ => rfl) fun cdv A outer s H E hr => by
    have Sc := sc_moments
    refine dss_one ?_; (refine ds_ret ?_; (refine de_compX (caps := []) (idx := []) ⟨by with_unfolding_all rfl, by decide +kernel, rfl, by decide +kernel, rfl, (by exact trivial), by with_unfolding_all rfl, (by exact trivial), by decide⟩ rfl ?_ ?_ ?_; (refine dx_list ?_; exact de_var 0); (exact fun _ _ _ _ => by refine dts_one ?_; (refine dt_cmp (p_inG (hu_of hr)) ?_ ?_ (by with_unfolding_all rfl); (refine de_ixG (hu_of hr) ?_ ?_; exact de_var 0; exact de_int); exact de_gtup rfl g_MOMENT_WORDS q_MOMENT_WORDS)); (exact fun _ _ _ _ => by exact de_var 0)))
theorem sc_law_dealt : FnScope ["cell", "k", "stir"] ["cell", "k"] (defScope s_law_dealt) := ⟨rfl, rfl, rfl, by decide +kernel, rfl, by decide +kernel, by decide +kernel⟩
theorem has_law_dealt (F : Fun K "_law_dealt" "_law_dealt" s_law_dealt g fd) (hm : mg "_law_dealt" = some (.ref g)) : Has P w K mg base "_law_dealt" 1 2 F_law_dealt :=
  fn_has F sc_law_dealt hm (fun _ _ _ _ _ _ us hl => match us, hl with | [_, _], _ => rfl) fun cdv A outer s H E hr => by
    have Sc := sc_law_dealt
    refine dss_cons ?_ ?_; (refine ds_set 2 Sc.nd ?_; (refine de_bin p_mod ?_ ?_; (refine de_bin p_add ?_ ?_; (refine de_bin p_mod ?_ ?_; exact de_var 0; exact de_int); (refine de_bin p_mul ?_ ?_; exact de_int; (refine de_bin p_add ?_ ?_; exact de_var 1; exact de_int))); exact de_int)); (refine dss_cons ?_ ?_; (refine ds_set 2 Sc.nd ?_; (refine de_bin p_add ?_ ?_; (refine de_bin p_mod ?_ ?_; (refine de_bin p_mul ?_ ?_; exact de_var 2; exact de_var 2); exact de_int); (refine de_bin p_mul ?_ ?_; exact de_int; exact de_var 1))); (refine dss_one ?_; (refine ds_ret ?_; (refine de_bin p_mod ?_ ?_; (refine de_bin p_mul ?_ ?_; exact de_var 2; (refine de_bin p_add ?_ ?_; exact de_var 2; exact de_int)); exact de_int))))
theorem sc_law_number : FnScope ["cell", "k", "number"] ["cell", "k"] (defScope s_law_number) := ⟨rfl, rfl, rfl, by decide +kernel, rfl, by decide +kernel, by decide +kernel⟩
theorem has_law_number (F : Fun K "_law_number" "_law_number" s_law_number g fd) (hm : mg "_law_number" = some (.ref g)) (h_law_dealt : Has P w K mg base "_law_dealt" 1 2 F_law_dealt) : Has P w K mg base "_law_number" 2 2 F_law_number :=
  fn_has F sc_law_number hm (fun _ _ _ _ _ _ us hl => match us, hl with | [_, _], _ => rfl) fun cdv A outer s H E hr => by
    have Sc := sc_law_number
    refine dss_cons ?_ ?_; (refine ds_set 2 Sc.nd ?_; (refine de_call h_law_dealt hr (by decide) pass0 ?_; (refine da_cons ?_ ?_; exact de_var 0; (refine da_cons ?_ ?_; (refine de_bin p_add ?_ ?_; exact de_var 1; exact de_int); exact da_nil)))); (refine dss_cons ?_ ?_; (refine ds_if ?_ ?_ ?_; (refine dt_cmp (p_eq hr.units) ?_ ?_ (nomark _); (refine de_bin p_mod ?_ ?_; (refine de_call h_law_dealt hr (by decide) pass0 ?_; (refine da_cons ?_ ?_; exact de_var 0; (refine da_cons ?_ ?_; exact de_var 1; exact da_nil))); exact de_int); exact de_int); (refine dss_one ?_; (refine ds_ret ?_; (refine de_ix ?_ ?_; (refine de_lst ?_; (refine da_cons ?_ ?_; (refine de_bin p_pow ?_ ?_; exact de_int; exact de_int); (refine da_cons ?_ ?_; (refine de_neg ?_; (refine de_bin p_pow ?_ ?_; exact de_int; exact de_int)); (refine da_cons ?_ ?_; exact de_int; (refine da_cons ?_ ?_; (refine de_bin p_sub ?_ ?_; exact de_int; (refine de_bin p_pow ?_ ?_; exact de_int; exact de_int)); exact da_nil))))); (refine de_bin p_mod ?_ ?_; exact de_var 2; exact de_int)))); exact dss_nil); (refine dss_cons ?_ ?_; (refine ds_if ?_ ?_ ?_; (refine dt_cmp (p_eq hr.units) ?_ ?_ (nomark _); (refine de_bin p_mod ?_ ?_; (refine de_call h_law_dealt hr (by decide) pass0 ?_; (refine da_cons ?_ ?_; exact de_var 0; (refine da_cons ?_ ?_; exact de_var 1; exact da_nil))); exact de_int); exact de_int); (refine dss_one ?_; (refine ds_ret ?_; (refine de_bin p_sub ?_ ?_; (refine de_bin p_mod ?_ ?_; (refine de_bin p_add ?_ ?_; (refine de_bin p_add ?_ ?_; (refine de_bin p_mul ?_ ?_; exact de_var 2; (refine de_bin p_pow ?_ ?_; exact de_int; exact de_int)); (refine de_bin p_mul ?_ ?_; (refine de_call h_law_dealt hr (by decide) pass0 ?_; (refine da_cons ?_ ?_; exact de_var 0; (refine da_cons ?_ ?_; (refine de_bin p_add ?_ ?_; exact de_var 1; exact de_int); exact da_nil))); (refine de_bin p_pow ?_ ?_; exact de_int; exact de_int))); exact de_var 2); (refine de_bin p_add ?_ ?_; (refine de_bin p_mul ?_ ?_; exact de_int; (refine de_bin p_pow ?_ ?_; exact de_int; exact de_int)); exact de_int)); (refine de_bin p_pow ?_ ?_; exact de_int; exact de_int)))); exact dss_nil); (refine dss_one ?_; (refine ds_ret ?_; (refine de_bin p_sub ?_ ?_; (refine de_bin p_mod ?_ ?_; exact de_var 2; exact de_int); exact de_int)))))
theorem sc_law_or_none : FnScope ["cell", "k"] ["cell", "k"] (defScope s_law_or_none) := ⟨rfl, rfl, rfl, by decide +kernel, rfl, by decide +kernel, by decide +kernel⟩
theorem has_law_or_none (F : Fun K "_law_or_none" "_law_or_none" s_law_or_none g fd) (hm : mg "_law_or_none" = some (.ref g)) (h_law_number : Has P w K mg base "_law_number" 2 2 F_law_number) (h_law_dealt : Has P w K mg base "_law_dealt" 1 2 F_law_dealt) : Has P w K mg base "_law_or_none" 3 2 F_law_or_none :=
  fn_has F sc_law_or_none hm (fun _ _ _ _ _ _ us hl => match us, hl with | [_, _], _ => rfl) fun cdv A outer s H E hr => by
    have Sc := sc_law_or_none
    refine dss_cons ?_ ?_; (refine ds_if ?_ ?_ ?_; (refine dt_cmp (p_eq hr.units) ?_ ?_ (nomark _); (refine de_bin p_mod ?_ ?_; (refine de_call h_law_dealt hr (by decide) pass0 ?_; (refine da_cons ?_ ?_; exact de_var 0; (refine da_cons ?_ ?_; exact de_var 1; exact da_nil))); exact de_int); exact de_int); (refine dss_one ?_; (refine ds_ret ?_; exact de_non)); exact dss_nil); (refine dss_one ?_; (refine ds_ret ?_; (refine de_call h_law_number hr (by decide) pass0 ?_; (refine da_cons ?_ ?_; exact de_var 0; (refine da_cons ?_ ?_; (refine de_bin p_add ?_ ?_; exact de_var 1; exact de_int); exact da_nil)))))
theorem sc_law_row : FnScope ["cell", "words", "word", "hand", "deed", "page", "other", "more", "pairs"] ["cell"] (defScope s_law_row) := ⟨rfl, rfl, rfl, by decide +kernel, rfl, by decide +kernel, by decide +kernel⟩
theorem has_law_row (F : Fun K "_law_row" "_law_row" s_law_row g fd) (hm : mg "_law_row" = some (.ref g)) (h_law_number : Has P w K mg base "_law_number" 2 2 F_law_number) (h_law_or_none : Has P w K mg base "_law_or_none" 3 2 F_law_or_none) (h_law_dealt : Has P w K mg base "_law_dealt" 1 2 F_law_dealt) (z_tuple : mg "tuple" = none) (z_range : mg "range" = none) : Has P w K mg base "_law_row" 4 1 F_law_row :=
  fn_has F sc_law_row hm (fun _ _ _ _ _ _ us hl => match us, hl with | [_], _ => rfl) fun cdv A outer s H E hr => by
    have Sc := sc_law_row
    refine dss_cons ?_ ?_; (refine ds_set 1 Sc.nd ?_; (refine de_lst ?_; (refine da_cons ?_ ?_; exact de_str; (refine da_cons ?_ ?_; exact de_str; (refine da_cons ?_ ?_; exact de_str; (refine da_cons ?_ ?_; exact de_str; (refine da_cons ?_ ?_; exact de_str; (refine da_cons ?_ ?_; exact de_str; (refine da_cons ?_ ?_; exact de_str; (refine da_cons ?_ ?_; exact de_str; (refine da_cons ?_ ?_; exact de_str; (refine da_cons ?_ ?_; exact de_str; exact da_nil)))))))))))); (refine dss_cons ?_ ?_; (refine ds_set 2 Sc.nd ?_; (refine de_ix ?_ ?_; exact de_var 1; (refine de_bin p_mod ?_ ?_; (refine de_call h_law_dealt hr (by decide) pass0 ?_; (refine da_cons ?_ ?_; exact de_var 0; (refine da_cons ?_ ?_; exact de_int; exact da_nil))); exact de_int))); (refine dss_cons ?_ ?_; (refine ds_set 3 Sc.nd ?_; (refine de_bin p_mod ?_ ?_; (refine de_call h_law_dealt hr (by decide) pass0 ?_; (refine da_cons ?_ ?_; exact de_var 0; (refine da_cons ?_ ?_; exact de_int; exact da_nil))); exact de_int)); (refine dss_cons ?_ ?_; (refine ds_set 4 Sc.nd ?_; (refine de_bin p_mod ?_ ?_; (refine de_call h_law_dealt hr (by decide) pass0 ?_; (refine da_cons ?_ ?_; exact de_var 0; (refine da_cons ?_ ?_; exact de_int; exact da_nil))); exact de_int)); (refine dss_cons ?_ ?_; (refine ds_set 5 Sc.nd ?_; (refine de_bin p_mod ?_ ?_; (refine de_call h_law_dealt hr (by decide) pass0 ?_; (refine da_cons ?_ ?_; exact de_var 0; (refine da_cons ?_ ?_; exact de_int; exact da_nil))); exact de_int)); (refine dss_cons ?_ ?_; (refine ds_set 6 Sc.nd ?_; (refine de_bin p_mod ?_ ?_; (refine de_call h_law_dealt hr (by decide) pass0 ?_; (refine da_cons ?_ ?_; exact de_var 0; (refine da_cons ?_ ?_; exact de_int; exact da_nil))); exact de_int)); (refine dss_cons ?_ ?_; (refine ds_if ?_ ?_ ?_; (refine dt_cmp (p_eq hr.units) ?_ ?_ (nomark _); exact de_var 2; exact de_str); (refine dss_one ?_; (refine ds_ret ?_; (refine de_tup ?_; (refine da_cons ?_ ?_; exact de_var 2; (refine da_cons ?_ ?_; exact de_var 3; exact da_nil))))); exact dss_nil); (refine dss_cons ?_ ?_; (refine ds_if ?_ ?_ ?_; (refine dt_cmp (p_eq hr.units) ?_ ?_ (nomark _); exact de_var 2; exact de_str); (refine dss_one ?_; (refine ds_ret ?_; (refine de_tup ?_; (refine da_cons ?_ ?_; exact de_var 2; (refine da_cons ?_ ?_; exact de_var 3; (refine da_cons ?_ ?_; exact de_var 4; exact da_nil)))))); exact dss_nil); (refine dss_cons ?_ ?_; (refine ds_if ?_ ?_ ?_; (refine DW.pt ?_; (refine dw_or ?_ ?_; (refine dt_cmp (p_eq hr.units) ?_ ?_ (nomark _); exact de_var 2; exact de_str); (refine dw_or1 ?_; (refine dt_cmp (p_eq hr.units) ?_ ?_ (nomark _); exact de_var 2; exact de_str)))); (refine dss_one ?_; (refine ds_ret ?_; (refine de_tup ?_; (refine da_cons ?_ ?_; exact de_var 2; (refine da_cons ?_ ?_; exact de_var 3; (refine da_cons ?_ ?_; exact de_var 4; (refine da_cons ?_ ?_; exact de_var 5; (refine da_cons ?_ ?_; (refine de_call h_law_or_none hr (by decide) pass0 ?_; (refine da_cons ?_ ?_; exact de_var 0; (refine da_cons ?_ ?_; exact de_int; exact da_nil))); exact da_nil)))))))); exact dss_nil); (refine dss_cons ?_ ?_; (refine ds_if ?_ ?_ ?_; (refine DW.pt ?_; (refine dw_or ?_ ?_; (refine dt_cmp (p_eq hr.units) ?_ ?_ (nomark _); exact de_var 2; exact de_str); (refine dw_or1 ?_; (refine dt_cmp (p_eq hr.units) ?_ ?_ (nomark _); exact de_var 2; exact de_str)))); (refine dss_cons ?_ ?_; (refine ds_set 7 Sc.nd ?_; (refine de_ix ?_ ?_; (refine de_lst ?_; (refine da_cons ?_ ?_; exact de_non; (refine da_cons ?_ ?_; exact de_var 6; exact da_nil))); (refine de_bin p_mod ?_ ?_; (refine de_call h_law_dealt hr (by decide) pass0 ?_; (refine da_cons ?_ ?_; exact de_var 0; (refine da_cons ?_ ?_; exact de_int; exact da_nil))); exact de_int))); (refine dss_cons ?_ ?_; (refine ds_if ?_ ?_ ?_; (refine dt_cmp (p_eq hr.units) ?_ ?_ (nomark _); exact de_var 2; exact de_str); (refine dss_one ?_; (refine ds_ret ?_; (refine de_tup ?_; (refine da_cons ?_ ?_; exact de_var 2; (refine da_cons ?_ ?_; exact de_var 3; (refine da_cons ?_ ?_; exact de_var 4; (refine da_cons ?_ ?_; exact de_var 5; (refine da_cons ?_ ?_; exact de_var 7; exact da_nil)))))))); exact dss_nil); (refine dss_one ?_; (refine ds_ret ?_; (refine de_tup ?_; (refine da_cons ?_ ?_; exact de_var 2; (refine da_cons ?_ ?_; exact de_var 3; (refine da_cons ?_ ?_; exact de_var 4; (refine da_cons ?_ ?_; exact de_var 5; (refine da_cons ?_ ?_; (refine de_call h_law_or_none hr (by decide) pass0 ?_; (refine da_cons ?_ ?_; exact de_var 0; (refine da_cons ?_ ?_; exact de_int; exact da_nil))); (refine da_cons ?_ ?_; exact de_var 7; exact da_nil))))))))))); exact dss_nil); (refine dss_cons ?_ ?_; (refine ds_if ?_ ?_ ?_; (refine dt_cmp (p_eq hr.units) ?_ ?_ (nomark _); exact de_var 2; exact de_str); (refine dss_cons ?_ ?_; (refine ds_set 8 Sc.nd ?_; (refine de_ty c_tuple z_tuple boot_tuple ?_; (refine da_cons ?_ ?_; (refine de_comp (caps := ["cell"]) (idx := [0]) ⟨by with_unfolding_all rfl, by decide +kernel, rfl, by decide +kernel, rfl, (by exact ⟨rfl, trivial⟩), by with_unfolding_all rfl, (by exact ⟨rfl, .inl rfl, ⟨_, rfl⟩, (fun h => NameKind.noConfusion (Option.some.inj (show some NameKind.cell = some NameKind.local from h))), trivial⟩), by decide⟩ rfl ?_ ?_ ?_; (refine di_range1 rfl z_range ?_; (refine da_cons ?_ ?_; (refine de_bin p_mod ?_ ?_; exact de_var 6; exact de_int); exact da_nil)); (exact fun _ _ _ _ => by exact dts_nil); (exact fun _ _ _ _ => by refine de_tup ?_; (refine da_cons ?_ ?_; (refine de_call h_law_number hr (by decide) pass0 ?_; (refine da_cons ?_ ?_; exact de_var 1; (refine da_cons ?_ ?_; (refine de_bin p_add ?_ ?_; exact de_int; (refine de_bin p_mul ?_ ?_; exact de_int; exact de_var 0)); exact da_nil))); (refine da_cons ?_ ?_; (refine de_call h_law_number hr (by decide) pass0 ?_; (refine da_cons ?_ ?_; exact de_var 1; (refine da_cons ?_ ?_; (refine de_bin p_add ?_ ?_; exact de_int; (refine de_bin p_mul ?_ ?_; exact de_int; exact de_var 0)); exact da_nil))); exact da_nil)))); exact da_nil))); (refine dss_cons ?_ ?_; (refine ds_if ?_ ?_ ?_; (refine dt_cmp (p_eq hr.units) ?_ ?_ (nomark _); (refine de_bin p_mod ?_ ?_; exact de_var 6; exact de_int); exact de_int); (refine dss_one ?_; (refine ds_ret ?_; (refine de_tup ?_; (refine da_cons ?_ ?_; exact de_var 2; (refine da_cons ?_ ?_; exact de_var 3; (refine da_cons ?_ ?_; exact de_var 4; (refine da_cons ?_ ?_; exact de_var 5; (refine da_cons ?_ ?_; exact de_var 8; (refine da_cons ?_ ?_; exact de_non; (refine da_cons ?_ ?_; exact de_non; exact da_nil)))))))))); exact dss_nil); (refine dss_one ?_; (refine ds_ret ?_; (refine de_tup ?_; (refine da_cons ?_ ?_; exact de_var 2; (refine da_cons ?_ ?_; exact de_var 3; (refine da_cons ?_ ?_; exact de_var 4; (refine da_cons ?_ ?_; exact de_var 5; (refine da_cons ?_ ?_; exact de_var 8; (refine da_cons ?_ ?_; exact de_var 6; (refine da_cons ?_ ?_; (refine de_call h_law_number hr (by decide) pass0 ?_; (refine da_cons ?_ ?_; exact de_var 0; (refine da_cons ?_ ?_; exact de_int; exact da_nil))); exact da_nil)))))))))))); exact dss_nil); (refine dss_one ?_; (refine ds_ret ?_; (refine de_tup ?_; (refine da_cons ?_ ?_; exact de_var 2; (refine da_cons ?_ ?_; exact de_var 3; (refine da_cons ?_ ?_; exact de_var 4; (refine da_cons ?_ ?_; exact de_var 5; (refine da_cons ?_ ?_; exact de_var 6; exact da_nil))))))))))))))))))
theorem sc_law : FnScope ["script", "rows", "due", "row", "handed", "found"] ["script"] (defScope s_law) := ⟨rfl, rfl, rfl, by decide +kernel, rfl, by decide +kernel, by decide +kernel⟩
theorem law_fn (F : Fun K "law" "law" s_law g fd) (h_moments : Has P w K mg base "moments" 1 1 F_moments) (h_law_row : Has P w K mg base "_law_row" 4 1 F_law_row) (z_isinstance : mg "isinstance" = none) (z_list : mg "list" = none) : FnOk P w K mg base CX0 5 g fd ["script"] (spD K 1 F_law) :=
  fn_ok F sc_law fun cdv A outer s H E hr => by
    have Sc := sc_law
    refine dss_cons ?_ ?_; (refine ds_compX 1 Sc.nd (caps := []) (idx := []) ⟨by with_unfolding_all rfl, by decide +kernel, rfl, by decide +kernel, rfl, (by exact trivial), by with_unfolding_all rfl, (by exact trivial), by decide⟩ rfl ?_ ?_ ?_; (refine dx_list ?_; (refine de_sl ?_ ?_ ?_; exact de_var 0; exact do_none; (refine do_some ?_; exact de_int))); (exact fun _ _ _ _ => by exact dts_nil); (exact fun _ _ _ _ => by refine de_call h_law_row hr (by decide) pass0 ?_; (refine da_cons ?_ ?_; exact de_var 0; exact da_nil))); (refine dss_cons ?_ ?_; exact ds_acc 2 Sc.nd; (refine dss_cons ?_ ?_; (refine ds_forX PassesOwn.never rfl ?_ ?_ ?_; (refine dx_list ?_; exact de_var 1); exact dg_name 3 Sc.nd; (refine dss_one ?_; (refine ds_if ?_ ?_ ?_; (refine dt_cmp (p_inG (hu_of hr)) ?_ ?_ (by with_unfolding_all rfl); (refine de_ixG (hu_of hr) ?_ ?_; exact de_var 3; exact de_int); (refine de_tup ?_; (refine da_cons ?_ ?_; exact de_str; (refine da_cons ?_ ?_; exact de_str; (refine da_cons ?_ ?_; exact de_str; (refine da_cons ?_ ?_; exact de_str; exact da_nil)))))); (refine dss_one ?_; (refine ds_app 2 ?_; exact de_var 3)); exact dss_nil))); (refine dss_cons ?_ ?_; (refine ds_set 4 Sc.nd ?_; (refine de_ty c_list z_list boot_list ?_; (refine da_cons ?_ ?_; exact de_var 1; exact da_nil))); (refine dss_cons ?_ ?_; (refine ds_set 5 Sc.nd ?_; (refine de_call h_moments hr (by decide) pass0 ?_; (refine da_cons ?_ ?_; exact de_var 4; exact da_nil))); (refine dss_cons ?_ ?_; (refine ds_dis 2 ?_; (refine ds_if ?_ ?_ ?_; (refine DW.pt ?_; (refine dw_or ?_ ?_; (refine dt_not ?_; (refine dt_of ?_; (refine de_isiG z_isinstance z_list boot_list (by decide) ?_; exact de_var 5))); (refine dw_or ?_ ?_; (refine dt_cmp (p_neG hr.units) ?_ ?_ (nomark _); exact de_var 5; exact de_var 2); (refine dw_or1 ?_; (refine dt_cmp (p_neG hr.units) ?_ ?_ (nomark _); exact de_var 4; exact de_var 1))))); (refine dss_one ?_; (refine ds_ret ?_; exact de_bl)); exact dss_nil)); (refine dss_cons ?_ ?_; (refine ds_expr ?_; (refine de_mth0 m_clear PySem.F.plainAttrs_list PySem.F.slot_list_clear PySem.F.type_list_clear ?_; exact de_var 5)); (refine dss_one ?_; (refine ds_dis 2 ?_; (refine ds_ret ?_; (refine de_and ?_ ?_; (refine de_cmp (p_eqG hr.units) ?_ ?_ (nomark _); (refine de_call h_moments hr (by decide) pass0 ?_; (refine da_cons ?_ ?_; exact de_var 4; exact da_nil)); exact de_var 2); (refine de_one ?_; (refine de_cmp (p_eqG hr.units) ?_ ?_ (nomark _); exact de_var 4; exact de_var 1))))))))))))
end
theorem pow22 : powD (.int 10) (.int 22) = pure (.int 10000000000000000000000) := rfl
theorem pow13 : powD (.int 10) (.int 13) = pure (.int 10000000000000) := rfl
def stir (c k : Int) : Int := (c % 982451653 + 7368787 * (k + 1)) % 982451653
def dealt (c k : Int) : Int := (stir c k * stir c k % 982451653 + 3 * k) * (stir c k * stir c k % 982451653 + 3 * k + 15485863) % 899809343
theorem dealt_ge (c k : Int) : 0 ≤ dealt c k := Int.emod_nonneg _ (by decide)
theorem dealt_lt (c k : Int) : dealt c k < 899809343 := Int.emod_lt_of_pos _ (by decide)
theorem dealt_ev (c k : Int) (h0 : 0 ≤ k) (h1 : k ≤ 1000) : F_law_dealt [.int c, .int k] = pure (.int (dealt c k)) := by
  have s0 : 0 ≤ stir c k := Int.emod_nonneg _ (by decide)
  have s1 : stir c k < 982451653 := Int.emod_lt_of_pos _ (by decide)
  have q0 : 0 ≤ stir c k * stir c k % 982451653 := Int.emod_nonneg _ (by decide)
  have q1 : stir c k * stir c k % 982451653 < 982451653 := Int.emod_lt_of_pos _ (by decide)
  refine runF_rt (env := [.val (.int c), .val (.int k), .val (.int (stir c k * stir c k % 982451653 + 3 * k))]) ?_
  refine (sSeq_nx (sSet_eq (d := .int (stir c k)) ?_)).trans ((sSeq_nx (sSet_eq (d := .int (stir c k * stir c k % 982451653 + 3 * k)) ?_)).trans (sRet_eq ?_))
  · refine eBin_eq (x := .int (c % 982451653 + 7368787 * (k + 1))) (y := .int 982451653) ?_ rfl (modD_pos _ _ (by decide))
    refine eBin_eq (x := .int (c % 982451653)) (y := .int (7368787 * (k + 1))) (eBin_eq (x := .int c) (y := .int 982451653) rfl rfl (modD_pos _ _ (by decide))) (eBin_eq (x := .int 7368787) (y := .int (k + 1)) rfl rfl (mulD_l _ _ (by decide) (by decide))) rfl
  · refine eBin_eq (x := .int (stir c k * stir c k % 982451653)) (y := .int (3 * k)) (eBin_eq (x := .int (stir c k * stir c k)) (y := .int 982451653) (eBin_eq (x := .int (stir c k)) (y := .int (stir c k)) rfl rfl (mulD_l _ _ (by omega) (by omega))) rfl (modD_pos _ _ (by decide))) (eBin_eq (x := .int 3) (y := .int k) rfl rfl (mulD_l _ _ (by decide) (by decide))) rfl
  · refine eBin_eq (x := .int ((stir c k * stir c k % 982451653 + 3 * k) * (stir c k * stir c k % 982451653 + 3 * k + 15485863))) (y := .int 899809343) (eBin_eq (x := .int (stir c k * stir c k % 982451653 + 3 * k)) (y := .int (stir c k * stir c k % 982451653 + 3 * k + 15485863)) rfl rfl (mulD_l _ _ (by omega) (by omega))) rfl (modD_pos _ _ (by decide))
theorem dm_ev (c k m : Int) (t : En) (h0 : 0 ≤ k) (h1 : k ≤ 1000) (hm : 0 < m) : eBin modD (eCall 2 F_law_dealt (aCons (eVar 0) (aCons (eC (.int k)) aNil))) (eC (.int m)) (.val (.int c) :: t) = pure (.int (dealt c k % m)) :=
  eBin_eq (x := .int (dealt c k)) (y := .int m) (eCall2 (x := .int c) (y := .int k) rfl rfl (dealt_ev c k h0 h1)) rfl (modD_pos _ _ hm)
def drawn (c k : Int) : Int := if dealt c k % 4 = 0 then ([1000000000000000000000000000000, -1000000000000000000000000000000, 0, 1 - 1000000000000000000000000000000] : List Int).getD (dealt c (k + 1) % 4).toNat 0 else if dealt c k % 4 = 1 then (dealt c (k + 1) * 10000000000000000000000 + dealt c (k + 2) * 10000000000000 + dealt c (k + 1)) % (2 * 1000000000000000000000000000000 + 1) - 1000000000000000000000000000000 else dealt c (k + 1) % 9 - 4
theorem drawn_ev (c k : Int) (h0 : 0 ≤ k) (h1 : k ≤ 900) : F_law_number [.int c, .int k] = pure (.int (drawn c k)) := by
  have d0 := dealt_ev c k h0 (by omega)
  have d1 := dealt_ev c (k + 1) (by omega) (by omega)
  have d2 := dealt_ev c (k + 2) (by omega) (by omega)
  have g1 := dealt_ge c (k + 1); have l1 := dealt_lt c (k + 1)
  have g2 := dealt_ge c (k + 2); have l2 := dealt_lt c (k + 2)
  have t : ∀ (j : Int) (v : Sl), eB (eBin eqD (eBin modD (eCall 2 F_law_dealt (aCons (eVar 0) (aCons (eVar 1) aNil))) (eC (.int 4))) (eC (.int j))) [.val (.int c), .val (.int k), v] = pure (decide (dealt c k % 4 = j)) := fun j v =>
    eB_eq (eBin_eq (x := .int (dealt c k % 4)) (y := .int j) (eBin_eq (x := .int (dealt c k)) (y := .int 4) (eCall2 (x := .int c) (y := .int k) rfl rfl d0) rfl (modD_pos _ _ (by decide))) rfl (eqD_int _ _))
  have s1 : sSet 2 (eCall 2 F_law_dealt (aCons (eVar 0) (aCons (eBin addD (eVar 1) (eC (.int 1))) aNil))) [.val (.int c), .val (.int k), .un] = pure (.nx, [.val (.int c), .val (.int k), .val (.int (dealt c (k + 1)))]) :=
    sSet_eq (eCall2 (x := .int c) (y := .int (k + 1)) rfl rfl d1)
  unfold drawn
  by_cases h : dealt c k % 4 = 0
  · rw [if_pos h]
    refine runF_rt (env := [.val (.int c), .val (.int k), .val (.int (dealt c (k + 1)))]) ((sSeq_nx s1).trans (sSeq_rt ((sIf_t ((t 0 _).trans (by rw [decide_eq_true h]))).trans (sRet_eq ?_))))
    have m4 := mod_rng (dealt c (k + 1)) 4 (by decide)
    have a := atI_int [1000000000000000000000000000000, -1000000000000000000000000000000, 0, 1 - 1000000000000000000000000000000] (i := dealt c (k + 1) % 4) m4.1 m4.2
    exact eBin_eq (x := .lst [.int 1000000000000000000000000000000, .int (-1000000000000000000000000000000), .int 0, .int (1 - 1000000000000000000000000000000)]) (y := .int (dealt c (k + 1) % 4)) rfl (eBin_eq (x := .int (dealt c (k + 1))) (y := .int 4) rfl rfl (modD_pos _ _ (by decide))) (ixD_lst a)
  · rw [if_neg h]
    have e1 := (sIf_f (f := sRet (eBin ixD (eLst (aCons (eBin powD (eC (.int 10)) (eC (.int 30))) (aCons (eNeg (eBin powD (eC (.int 10)) (eC (.int 30)))) (aCons (eC (.int 0)) (aCons (eBin subD (eC (.int 1)) (eBin powD (eC (.int 10)) (eC (.int 30)))) aNil))))) (eBin modD (eVar 2) (eC (.int 4))))) (g := sNil) ((t 0 (.val (.int (dealt c (k + 1))))).trans (by rw [decide_eq_false h]))).trans (rfl : sNil _ = pure (.nx, _))
    by_cases h' : dealt c k % 4 = 1
    · rw [if_pos h']
      refine runF_rt (env := [.val (.int c), .val (.int k), .val (.int (dealt c (k + 1)))]) ((sSeq_nx s1).trans ((sSeq_nx e1).trans (sSeq_rt ((sIf_t ((t 1 _).trans (by rw [decide_eq_true h']))).trans (sRet_eq ?_)))))
      refine eBin_eq (x := .int _) (y := .int 1000000000000000000000000000000) (eBin_eq (x := .int (dealt c (k + 1) * 10000000000000000000000 + dealt c (k + 2) * 10000000000000 + dealt c (k + 1))) (y := .int (2 * 1000000000000000000000000000000 + 1)) ?_ ?_ (modD_pos _ _ (by decide))) pow30 (subD_int _ _)
      · refine eBin_eq (x := .int (dealt c (k + 1) * 10000000000000000000000 + dealt c (k + 2) * 10000000000000)) (y := .int (dealt c (k + 1))) (eBin_eq (x := .int (dealt c (k + 1) * 10000000000000000000000)) (y := .int (dealt c (k + 2) * 10000000000000)) (eBin_eq (x := .int (dealt c (k + 1))) (y := .int 10000000000000000000000) rfl pow22 (mulD_l _ _ (by omega) (by omega))) (eBin_eq (x := .int (dealt c (k + 2))) (y := .int 10000000000000) (eCall2 (x := .int c) (y := .int (k + 2)) rfl rfl d2) pow13 (mulD_l _ _ (by omega) (by omega))) rfl) rfl rfl
      · exact eBin_eq (x := .int (2 * 1000000000000000000000000000000)) (y := .int 1) (eBin_eq (x := .int 2) (y := .int 1000000000000000000000000000000) rfl pow30 (mulD_l _ _ (by decide) (by decide))) rfl rfl
    · rw [if_neg h']
      refine runF_rt (env := [.val (.int c), .val (.int k), .val (.int (dealt c (k + 1)))]) ((sSeq_nx s1).trans ((sSeq_nx e1).trans ((sSeq_nx ((sIf_f ((t 1 _).trans (by rw [decide_eq_false h']))).trans rfl)).trans (sRet_eq ?_))))
      exact eBin_eq (x := .int (dealt c (k + 1) % 9)) (y := .int 4) (eBin_eq (x := .int (dealt c (k + 1))) (y := .int 9) rfl rfl (modD_pos _ _ (by decide))) rfl (subD_int _ _)
theorem ornone_ev (c k : Int) (h0 : 0 ≤ k) (h1 : k ≤ 800) : ∃ o : Option Int, F_law_or_none [.int c, .int k] = pure (opt o) := by
  have t : eB (eBin eqD (eBin modD (eCall 2 F_law_dealt (aCons (eVar 0) (aCons (eVar 1) aNil))) (eC (.int 3))) (eC (.int 0))) [.val (.int c), .val (.int k)] = pure (decide (dealt c k % 3 = 0)) :=
    eB_eq (eBin_eq (x := .int (dealt c k % 3)) (y := .int 0) (eBin_eq (x := .int (dealt c k)) (y := .int 3) (eCall2 (x := .int c) (y := .int k) rfl rfl (dealt_ev c k h0 (by omega))) rfl (modD_pos _ _ (by decide))) rfl (eqD_int _ _))
  by_cases h : dealt c k % 3 = 0
  · exact ⟨none, runF_rt (env := [.val (.int c), .val (.int k)]) (sSeq_rt ((sIf_t (t.trans (by rw [decide_eq_true h]))).trans (sRet_eq rfl)))⟩
  · exact ⟨some (drawn c (k + 1)), runF_rt (env := [.val (.int c), .val (.int k)]) ((sSeq_nx ((sIf_f (t.trans (by rw [decide_eq_false h]))).trans rfl)).trans (sRet_eq (eCall2 (x := .int c) (y := .int (k + 1)) rfl rfl (drawn_ev c (k + 1) (by omega) (by omega)))))⟩
theorem eqDS {x y : Str} (h1 : PyData.strOk x = true) (h2 : PyData.strOk y = true) : eqD (.str x) (.str y) = pure (.bl (x == y)) := by
  simp [eqD, okP_str h1, okP_str h2, guardM, toP, PyData.eqv]
theorem compD_map {t : DV → M Bool} {f : DV → M DV} {g : DV → DV} : ∀ (ds : List DV), (∀ d ∈ ds, t d = pure true) → (∀ d ∈ ds, f d = pure (g d)) → compD t f ds = pure (ds.map g)
  | [], _, _ => rfl
  | d :: ds, ht, hf => by
    simp only [compD, ht d (by simp), pure_bind, if_true, hf d (by simp), compD_map ds (fun x hx => ht x (List.mem_cons_of_mem _ hx)) (fun x hx => hf x (List.mem_cons_of_mem _ hx)), List.map_cons]
def wordsD : List Str := ["found", "put", "cut", "read", "side", "down", "told", "raised", "take", "rest"]
theorem wordsD_ok : ∀ w ∈ wordsD, PyData.strOk w = true := by decide +kernel
theorem word_at (i : Int) (h0 : 0 ≤ i) (h1 : i < 10) : ∃ w : Str, w ∈ wordsD ∧ atI (wordsD.map DV.str) i = some (.str w) := by
  rw [atI_lt h0 (by simpa [wordsD] using h1)]
  have h : i.toNat < wordsD.length := by simp only [wordsD, List.length_cons, List.length_nil]; omega
  exact ⟨wordsD[i.toNat], List.getElem_mem h, by rw [List.getElem?_map, List.getElem?_eq_getElem h]; rfl⟩
theorem row_ev (c : Int) : ∃ (w : Str) (rest : List DV), F_law_row [.int c] = pure (.tup (.str w :: rest)) ∧ w ∈ wordsD ∧ ∀ d ∈ rest, Pl 2 d := by
  obtain ⟨w, hw, ew⟩ := word_at (dealt c 0 % 10) (Int.emod_nonneg _ (by decide)) (Int.emod_lt_of_pos _ (by decide))
  have sw := wordsD_ok w hw
  have teq : ∀ (x : Str) (env : En), PyData.strOk x = true → env[2]? = some (.val (.str w)) → eB (eBin eqD (eVar 2) (eC (.str x))) env = pure (w == x) := fun x env hx he =>
    eB_eq (eBin_eq (x := .str w) (y := .str x) (by unfold eVar; rw [he]) rfl (eqDS sw hx))
  let h := dealt c 1 % 8
  let e := dealt c 2 % 300
  let p := dealt c 3 % 50
  let o := dealt c 4 % 50
  let e0 : En := [.val (.int c), .val (.lst (wordsD.map .str)), .val (.str w), .val (.int h), .val (.int e), .val (.int p), .val (.int o), .un, .un]
  have i2 := fun (n : Nat) (i : Int) => pl_int n i
  obtain ⟨on, eo⟩ := ornone_ev c 5 (by decide) (by decide)
  have o0 : 0 ≤ o := Int.emod_nonneg _ (by decide)
  have o3 := mod_rng o 3 (by decide)
  suffices H : ∃ rest env', (∀ d ∈ rest, Pl 2 d) ∧ b_law_row [.val (.int c), .un, .un, .un, .un, .un, .un, .un, .un] = pure (.rt (.tup (.str w :: rest)), env') by
    obtain ⟨rest, env', h1, h2⟩ := H
    exact ⟨w, rest, runF_rt (env := env') h2, hw, h1⟩
  have pre : ∀ r, (∃ S : DSx, b_law_row = sSeq (sSet 1 (eLst (aCons (eC (.str "found")) (aCons (eC (.str "put")) (aCons (eC (.str "cut")) (aCons (eC (.str "read")) (aCons (eC (.str "side")) (aCons (eC (.str "down")) (aCons (eC (.str "told")) (aCons (eC (.str "raised")) (aCons (eC (.str "take")) (aCons (eC (.str "rest")) aNil))))))))))) ) (sSeq (sSet 2 (eBin ixD (eVar 1) (eBin modD (eCall 2 F_law_dealt (aCons (eVar 0) (aCons (eC (.int 0)) aNil))) (eC (.int 10))))) (sSeq (sSet 3 (eBin modD (eCall 2 F_law_dealt (aCons (eVar 0) (aCons (eC (.int 1)) aNil))) (eC (.int 8)))) (sSeq (sSet 4 (eBin modD (eCall 2 F_law_dealt (aCons (eVar 0) (aCons (eC (.int 2)) aNil))) (eC (.int 300)))) (sSeq (sSet 5 (eBin modD (eCall 2 F_law_dealt (aCons (eVar 0) (aCons (eC (.int 3)) aNil))) (eC (.int 50)))) (sSeq (sSet 6 (eBin modD (eCall 2 F_law_dealt (aCons (eVar 0) (aCons (eC (.int 4)) aNil))) (eC (.int 50)))) S))))) ∧ S e0 = r) → b_law_row [.val (.int c), .un, .un, .un, .un, .un, .un, .un, .un] = r := by
    rintro r ⟨S, eS, hS⟩
    rw [eS]
    refine (sSeq_nx (sSet_eq (d := .lst (wordsD.map .str)) rfl)).trans ?_
    refine (sSeq_nx (sSet_eq (d := .str w) (eBin_eq (x := .lst (wordsD.map .str)) (y := .int (dealt c 0 % 10)) rfl (dm_ev c 0 10 _ (by decide) (by decide) (by decide)) (ixD_lst ew)))).trans ?_
    refine (sSeq_nx (sSet_eq (dm_ev c 1 8 _ (by decide) (by decide) (by decide)))).trans ?_
    refine (sSeq_nx (sSet_eq (dm_ev c 2 300 _ (by decide) (by decide) (by decide)))).trans ?_
    refine (sSeq_nx (sSet_eq (dm_ev c 3 50 _ (by decide) (by decide) (by decide)))).trans ?_
    exact (sSeq_nx (sSet_eq (dm_ev c 4 50 _ (by decide) (by decide) (by decide)))).trans hS
  have nx : ∀ {t : DTx} {A B : DSx} {env : En} {r}, t env = pure false → B env = r → sSeq (sIf t A sNil) B env = r := fun h1 h2 => (sSeq_nx ((sIf_f h1).trans rfl)).trans h2
  have rt : ∀ {t : DTx} {A B : DSx} {env env' : En} {d : DV}, t env = pure true → A env = pure (.rt d, env') → sSeq (sIf t A sNil) B env = pure (.rt d, env') := fun h1 h2 => sSeq_rt ((sIf_t h1).trans h2)
  have orE : ∀ {s t : DTx} {env : En} {a b : Bool}, s env = pure a → t env = pure b → eOr s t env = pure (a || b) := fun {s t env a b} h1 h2 => by
    cases a <;> simp [eOr, h1, h2]
  by_cases w1 : (w == ("rest" : Str)) = true
  · exact ⟨[.int h], e0, by simp [i2], pre _ ⟨_, rfl, rt ((teq _ e0 (by decide +kernel) rfl).trans (by rw [w1])) rfl⟩⟩
  have f1 := (teq "rest" e0 (by decide +kernel) rfl).trans (by rw [Bool.eq_false_iff.mpr w1])
  by_cases w2 : (w == ("take" : Str)) = true
  · exact ⟨[.int h, .int e], e0, by simp [i2], pre _ ⟨_, rfl, nx f1 (rt ((teq _ e0 (by decide +kernel) rfl).trans (by rw [w2])) rfl)⟩⟩
  have f2 := (teq "take" e0 (by decide +kernel) rfl).trans (by rw [Bool.eq_false_iff.mpr w2])
  have t3 := orE (teq "found" e0 (by decide +kernel) rfl) (teq "cut" e0 (by decide +kernel) rfl)
  by_cases w3 : ((w == ("found" : Str)) || (w == ("cut" : Str))) = true
  · refine ⟨[.int h, .int e, .int p, opt on], e0, by simp [i2, pl_opt], pre _ ⟨_, rfl, nx f1 (nx f2 (rt (t3.trans (by rw [w3])) (sRet_eq ?_)))⟩⟩
    exact at_pure fun hp => tup_at (a5_at rfl rfl rfl rfl (eCall2_at (x := .int c) (y := .int 5) rfl rfl (at_of eo hp))) (Nat.le_of_ble_eq_true rfl)
  have f3 := t3.trans (by rw [Bool.eq_false_iff.mpr w3])
  have t4 := orE (teq "put" e0 (by decide +kernel) rfl) (teq "told" e0 (by decide +kernel) rfl)
  by_cases w4 : ((w == ("put" : Str)) || (w == ("told" : Str))) = true
  · obtain ⟨d, ed, hd⟩ := ix2 .non (.int o) (dealt c 9 % 2) (by have := mod_rng (dealt c 9) 2 (by decide); omega)
    have pd : Pl 2 d := by rcases hd with rfl | rfl; exact pl_non _; exact pl_int _ _
    let e7 : En := [.val (.int c), .val (.lst (wordsD.map .str)), .val (.str w), .val (.int h), .val (.int e), .val (.int p), .val (.int o), .val d, .un]
    have s7 : sSet 7 (eBin ixD (eLst (aCons (eC .non) (aCons (eVar 6) aNil))) (eBin modD (eCall 2 F_law_dealt (aCons (eVar 0) (aCons (eC (.int 9)) aNil))) (eC (.int 2)))) e0 = pure (.nx, e7) :=
      sSet_eq (eBin_eq (x := .lst [.non, .int o]) (y := .int (dealt c 9 % 2)) rfl (dm_ev c 9 2 _ (by decide) (by decide) (by decide)) ed)
    by_cases w5 : (w == ("told" : Str)) = true
    · exact ⟨[.int h, .int e, .int p, d], e7, by simp [i2, pd], pre _ ⟨_, rfl, nx f1 (nx f2 (nx f3 (rt (t4.trans (by rw [w4])) ((sSeq_nx s7).trans (rt ((teq _ e7 (by decide +kernel) rfl).trans (by rw [w5])) rfl)))))⟩⟩
    · refine ⟨[.int h, .int e, .int p, opt on, d], e7, by simp [i2, pd, pl_opt], pre _ ⟨_, rfl, nx f1 (nx f2 (nx f3 (rt (t4.trans (by rw [w4])) ((sSeq_nx s7).trans (nx ((teq _ e7 (by decide +kernel) rfl).trans (by rw [Bool.eq_false_iff.mpr w5])) (sRet_eq ?_))))))⟩⟩
      exact at_pure fun hp => tup_at (a6_at rfl rfl rfl rfl (eCall2_at (x := .int c) (y := .int 5) rfl rfl (at_of eo hp)) rfl) (Nat.le_of_ble_eq_true rfl)
  have f4 := t4.trans (by rw [Bool.eq_false_iff.mpr w4])
  by_cases w6 : (w == ("read" : Str)) = true
  · let g : DV → DV := fun x => match x with | .int k => .tup [.int (drawn c (10 + 6 * k)), .int (drawn c (13 + 6 * k))] | _ => .non
    let ds := (rangeL 0 (o % 3).toNat).map g
    have pds : Pl 2 (.tup ds) := fun d hd => by
      obtain ⟨x, hx, rfl⟩ := List.mem_map.mp hd
      obtain ⟨i, hi, rfl⟩ := List.mem_map.mp hx
      exact fun y hy => by simp only [g, List.mem_cons, List.not_mem_nil, or_false] at hy; rcases hy with rfl | rfl <;> exact pl_int _ _
    let e8 : En := [.val (.int c), .val (.lst (wordsD.map .str)), .val (.str w), .val (.int h), .val (.int e), .val (.int p), .val (.int o), .un, .val (.tup ds)]
    have cm : C_law_row_1 e0 = pure (.lst ds) := by
      have src : iRg1 (aCons (eBin modD (eVar 6) (eC (.int 3))) aNil) e0 = pure (rangeL 0 (o % 3).toNat) := by
        have : aCons (eBin modD (eVar 6) (eC (.int 3))) aNil e0 = pure [.int (o % 3)] := by
          have q : eBin modD (eVar 6) (eC (.int 3)) e0 = pure (.int (o % 3)) := eBin_eq (x := .int o) (y := .int 3) rfl rfl (modD_pos _ _ (by decide))
          simp [aCons, aNil, q]
        simp only [iRg1, this, pure_bind, rng1, small_ok o3.1 (by omega), guardM, if_true]
      have sh : short (rangeL 0 (o % 3).toNat) = true := short_ok' (by rw [rangeL_len]; omega)
      have body : ∀ x ∈ rangeL 0 (o % 3).toNat, eTup (aCons (eCall 2 F_law_number (aCons (eVar 1) (aCons (eBin addD (eC (.int 10)) (eBin mulD (eC (.int 6)) (eVar 0))) aNil))) (aCons (eCall 2 F_law_number (aCons (eVar 1) (aCons (eBin addD (eC (.int 13)) (eBin mulD (eC (.int 6)) (eVar 0))) aNil))) aNil)) (cE [0] e0 x) = pure (g x) := fun x hx => by
        obtain ⟨i, hi, rfl⟩ := List.mem_map.mp hx
        have hi' := List.mem_range.mp hi
        have m6 := mulD_l 6 (0 + (i : Int)) (by decide) (by decide)
        exact at_pure fun hp => tup_at (a2_at (eCall2_at (x := .int c) (y := .int (10 + 6 * (0 + (i : Int)))) rfl (at_of (eBin_eq (x := .int 10) (y := .int (6 * (0 + (i : Int)))) rfl (eBin_eq (x := .int 6) (y := .int (0 + (i : Int))) rfl rfl m6) rfl) hp) (at_of (drawn_ev c _ (by omega) (by omega)) hp)) (eCall2_at (x := .int c) (y := .int (13 + 6 * (0 + (i : Int)))) rfl (at_of (eBin_eq (x := .int 13) (y := .int (6 * (0 + (i : Int)))) rfl (eBin_eq (x := .int 6) (y := .int (0 + (i : Int))) rfl rfl m6) rfl) hp) (at_of (drawn_ev c _ (by omega) (by omega)) hp))) (Nat.le_of_ble_eq_true rfl)
      unfold C_law_row_1
      simp only [eComp, src, pure_bind, sh, guardM, if_true, compD_map (t := fun d => tAll (cE [0] e0 d)) (g := g) (rangeL 0 (o % 3).toNat) (fun _ _ => rfl) body]
      rfl
    have s8 : sSet 8 (eBlt tupF (aCons C_law_row_1 aNil)) e0 = pure (.nx, e8) := by
      refine sSet_eq ?_
      simp [eBlt, aCons, aNil, cm, tupF]
    by_cases w7 : (o % 2 == 0) = true
    · refine ⟨[.int h, .int e, .int p, .tup ds, .non, .non], e8, by simp [i2, pl_non]; exact pds, pre _ ⟨_, rfl, nx f1 (nx f2 (nx f3 (nx f4 (rt ((teq _ e0 (by decide +kernel) rfl).trans (by rw [w6])) ((sSeq_nx s8).trans (rt ?_ rfl))))))⟩⟩
      exact eB_eq (eBin_eq (x := .int (o % 2)) (y := .int 0) (eBin_eq (x := .int o) (y := .int 2) rfl rfl (modD_pos _ _ (by decide))) rfl ((eqD_int _ _).trans (by rw [w7])))
    · refine ⟨[.int h, .int e, .int p, .tup ds, .int o, .int (drawn c 30)], e8, by simp [i2]; exact pds, pre _ ⟨_, rfl, nx f1 (nx f2 (nx f3 (nx f4 (rt ((teq _ e0 (by decide +kernel) rfl).trans (by rw [w6])) ((sSeq_nx s8).trans (nx ?_ (sRet_eq ?_)))))))⟩⟩
      · exact eB_eq (eBin_eq (x := .int (o % 2)) (y := .int 0) (eBin_eq (x := .int o) (y := .int 2) rfl rfl (modD_pos _ _ (by decide))) rfl ((eqD_int _ _).trans (by rw [Bool.eq_false_iff.mpr w7])))
      · exact at_pure fun hp => tup_at (a7_at rfl rfl rfl rfl rfl rfl (eCall2_at (x := .int c) (y := .int 30) rfl rfl (at_of (drawn_ev c 30 (by decide) (by decide)) hp))) (Nat.le_of_ble_eq_true rfl)
  · exact ⟨[.int h, .int e, .int p, .int o], e0, by simp [i2], pre _ ⟨_, rfl, nx f1 (nx f2 (nx f3 (nx f4 (nx ((teq _ e0 (by decide +kernel) rfl).trans (by rw [Bool.eq_false_iff.mpr w6])) rfl))))⟩⟩
def fourD : List DV := [.str "found", .str "put", .str "cut", .str "read"]
def isM : DV → Bool
  | .tup (x :: _) => inB x fourD
  | _ => false
def RowOk (d : DV) : Prop := ∃ (w : Str) (rest : List DV), d = .tup (.str w :: rest) ∧ w ∈ wordsD ∧ ∀ x ∈ rest, Pl 2 x
theorem RowOk.pl {d : DV} (h : RowOk d) : Pl 3 d := by
  obtain ⟨w, rest, rfl, hw, hr⟩ := h
  intro x hx
  rcases List.mem_cons.mp hx with rfl | hx
  · exact pl_str (wordsD_ok w hw)
  · exact hr x hx
theorem test_at {d : DV} (h : RowOk d) {f g : DEx} {env : En} {w : Hs} (hf : f env w = some (d, w)) (hg : g env w = some (.tup fourD, w)) : eB (eBin inG (eBin ixG f (eC (.int 0))) g) env w = some (isM d, w) := by
  obtain ⟨x, rest, rfl, hw, hr⟩ := h
  exact eB_at (eBin_atW (eBin_atW hf rfl (tup_ix (i := 0) rfl w)) hg (inT_at rfl (by decide) w))
theorem mom_at {R : List DV} (hR : ∀ d ∈ R, RowOk d) (hl : R.length < 100000) (w : Hs) : F_moments [.lst R] w = some (.ref w.length, w ++ [.lst (R.filter isM)]) := by
  refine runF_at (env := [.val (.lst R)]) (sRet_at ?_)
  have cx := compX_flt (hp := w) (t := fun d => eB (eBin inG (eBin ixG (eVar 0) (eC (.int 0))) (eC (.tup [.str "found", .str "put", .str "cut", .str "read"]))) (cE [] [.val (.lst R)] d)) (f := fun d => eVar 0 (cE [] [.val (.lst R)] d)) (p := isM) R (fun d hd => test_at (hR d hd) rfl rfl) (fun d _ => rfl) hl
  unfold C_moments_1 eCompX
  show ((xLs (eVar 0) [.val (.lst R)]) >>= _) w = _
  rw [bind_at (xLs_data (f := eVar 0) (env := [.val (.lst R)]) (ds := R) (hp := w) (hp1 := w) rfl)]
  exact (bind_at cx).trans rfl
theorem due_at (R : List DV) (hR : ∀ d ∈ R, RowOk d) (hl : R.length < 100000) (S : DV) (w : Hs) : ∃ z, L_law_1 [.val S, .val (.lst R), .acc [], .un, .un, .un] w = some ((.nx, [.val S, .val (.lst R), .acc (R.filter isM), z, .un, .un]), w) := by
  have L : WP (forX (nxD R) (fun d env => do let env' ← gN 3 d env; l_law_1 env') 100000 0 [.val S, .val (.lst R), .acc [], .un, .un, .un]) w fun r h => ∃ z, r = (.nx, [.val S, .val (.lst R), .acc (R.filter isM), z, .un, .un]) ∧ h = w := by
    refine WP_forXD R (fun i env h => ∃ z, env = [.val S, .val (.lst R), .acc ((R.take i).filter isM), z, .un, .un] ∧ h = w) hl ⟨.un, rfl, rfl⟩ ?_ ?_
    · rintro i d hd env h ⟨z, rfl, rfl⟩
      have hdR : d ∈ R := List.mem_of_getElem? hd
      have tk : R.take (i + 1) = R.take i ++ [d] := by rw [List.take_add_one, hd]; rfl
      have tl : ((R.take i).filter isM).length < lim := by
        have h1 := List.length_filter_le isM (R.take i)
        have h2 := List.length_take_le i R
        unfold lim; have := List.length_take_le' i R; omega
      have t := test_at (hR d hdR) (f := eVar 3) (g := eTup (aCons (eC (.str "found")) (aCons (eC (.str "put")) (aCons (eC (.str "cut")) (aCons (eC (.str "read")) aNil))))) (env := [.val S, .val (.lst R), .acc ((R.take i).filter isM), .val d, .un, .un]) (w := h) rfl rfl
      show WP (l_law_1 [.val S, .val (.lst R), .acc ((R.take i).filter isM), .val d, .un, .un]) h _
      by_cases q : isM d = true
      · refine WP.of (x := (.nx, [.val S, .val (.lst R), .acc ((R.take i).filter isM ++ [d]), .val d, .un, .un])) (hp' := h) ?_ ⟨.val d, ?_, rfl⟩
        · unfold l_law_1
          rw [ifT_at (t.trans (by rw [q]))]
          show (if ((R.take i).filter isM).length < lim then (pure (.nx, _) : M (Fl × En)) else failure) h = _
          rw [if_pos tl]; rfl
        · rw [tk, List.filter_append]; simp [q]
      · refine WP.of (x := (.nx, [.val S, .val (.lst R), .acc ((R.take i).filter isM), .val d, .un, .un])) (hp' := h) ?_ ⟨.val d, ?_, rfl⟩
        · unfold l_law_1
          rw [ifF_at (t.trans (by rw [Bool.eq_false_iff.mpr q]))]; rfl
        · rw [tk, List.filter_append]; simp [q]
    · rintro env h ⟨z, rfl, rfl⟩
      exact ⟨z, by rw [List.take_length], rfl⟩
  obtain ⟨r, h, e, z, rfl, rfl⟩ := L
  exact ⟨z, sForX_data (xLs_data (f := eVar 1) (ds := R) rfl) e⟩
theorem rows_at (ns : List Int) (h : ns.length ≤ 63) : ∃ R : List DV, (∀ d ∈ R, RowOk d) ∧ R.length ≤ 63 ∧ C_law_1 [.val (.lst (ns.map .int)), .un, .un, .un, .un, .un] [] = some (.lst R, []) := by
  have ex : ∀ c : Int, ∃ d : DV, F_law_row [.int c] = pure d ∧ RowOk d := fun c => by
    obtain ⟨w, rest, e, hw, hr⟩ := row_ev c
    exact ⟨_, e, w, rest, rfl, hw, hr⟩
  obtain ⟨g, hg⟩ := Classical.axiomOfChoice ex
  let g' : DV → DV := fun d => match d with | .int c => g c | _ => .non
  have cx := compX_map (hp := []) (t := fun d => tAll (cE [] [.val (.lst (ns.map .int)), .un, .un, .un, .un, .un] d)) (f := fun d => eCall 1 F_law_row (aCons (eVar 0) aNil) (cE [] [.val (.lst (ns.map .int)), .un, .un, .un, .un, .un] d)) (g := g') (ns.map .int) (fun _ _ => rfl) (fun d hd => by
    obtain ⟨c, _, rfl⟩ := List.mem_map.mp hd
    exact eCall1_at (x := .int c) rfl (at_of (hg c).1 _)) (by rw [List.length_map]; omega)
  refine ⟨(ns.map DV.int).map g', fun d hd => ?_, by simp; omega, ?_⟩
  · obtain ⟨x, hx, rfl⟩ := List.mem_map.mp hd
    obtain ⟨c, _, rfl⟩ := List.mem_map.mp hx
    exact (hg c).2
  · have sl : xLs (eSl (eVar 0) oNone (oSome (eC (.int 3000)))) [.val (.lst (ns.map .int)), .un, .un, .un, .un, .un] [] = some (nxD (ns.map .int), []) := by
      refine xLs_data ?_
      have : cutD (ns.map DV.int) none (some (3000 : Nat)) = ns.map .int := by rw [cut_take, List.take_of_length_le (by rw [List.length_map]; omega)]
      show some (DV.lst (cutD (ns.map DV.int) none (some 3000)), _) = _
      exact congrArg (fun x => some (DV.lst x, ([] : Hs))) this
    unfold C_law_1 eCompX
    show ((xLs (eSl (eVar 0) oNone (oSome (eC (.int 3000)))) [.val (.lst (ns.map .int)), .un, .un, .un, .un, .un]) >>= _) [] = _
    rw [bind_at sl]
    exact (bind_at cx).trans rfl
theorem law_true (ns : List Int) (h : ns.length ≤ 63) : ∃ hp, F_law [.lst (ns.map .int)] [] = some (.bl true, hp) := by
  obtain ⟨R, hR, hl, eR⟩ := rows_at ns h
  obtain ⟨z, eL⟩ := due_at R hR (by omega) (.lst (ns.map .int)) []
  have p3 : ∀ d ∈ R, Pl 3 d := fun d hd => (hR d hd).pl
  have pF : ∀ d ∈ R.filter isM, Pl 3 d := fun d hd => p3 d ((List.mem_filter.mp hd).1)
  have m1 := mom_at hR (by omega) []
  have m2 := mom_at hR (by omega) [.lst []]
  let S : DV := .lst (ns.map .int)
  let ea : En := [.val S, .val (.lst R), .acc (R.filter isM), z, .val (.lst R), .val (.ref 0)]
  let eb : En := [.val S, .val (.lst R), .val (.lst (R.filter isM)), z, .val (.lst R), .val (.ref 0)]
  refine ⟨[.lst [], .lst (R.filter isM)], runF_at (env := eb) ?_⟩
  refine (sSeq_at (sSet_at eR)).trans ((sSeq_at (rfl : sAcc 2 _ [] = some ((.nx, _), []))).trans ((sSeq_at eL).trans ?_))
  refine (sSeq_at (sSet_at (d := .lst R) (blt_at (a1_at (var_at rfl)) rfl))).trans ?_
  refine (sSeq_at (sSet_at (d := .ref 0) (eCall1_at (x := .lst R) rfl m1))).trans ?_
  refine (sSeq_at (env1 := eb) (hp1 := [.lst (R.filter isM)]) ?_).trans ?_
  · show sIf _ _ _ eb [.lst (R.filter isM)] = _
    rw [ifF_at (hp1 := [.lst (R.filter isM)])]
    · rfl
    · rw [eOr_F (eNot_at (eB_at (isiL_at (a := 0) rfl rfl)))]
      rw [eOr_F (eB_at (eBin_atW (x := .ref 0) (y := .lst (R.filter isM)) rfl rfl (neG_refL (a := 0) rfl pF (by decide))))]
      exact eB_at (eBin_atW (x := .lst R) (y := .lst R) rfl rfl (neG_same (pl_lst p3) (by decide) _))
  refine (sSeq_at (sDrop_at (clear_at (a := 0) rfl rfl))).trans ?_
  show sRet _ eb [.lst []] = _
  refine sRet_at ?_
  rw [eAndV_at (b := true) (hp1 := [.lst [], .lst (R.filter isM)])]
  · exact eBin_atW (x := .lst R) (y := .lst R) rfl rfl (eqG_same (pl_lst p3) (by decide) _)
  · exact eBin_atW (x := .ref 1) (y := .lst (R.filter isM)) (eCall1_at (x := .lst R) rfl m2) rfl (eqG_refL (a := 1) rfl pF (by decide))
theorem all_mk {P : Program} {w : World} {K : PySem.W.Frag} {h : Heap} {mg : Str → Option Value} {fa f0 f1 f2 f3 f4 f5 : Addr} (X : K.In h) (G : h.Ns mainGlobals mg) (hfa : mg "law" = some (.ref fa))
    {od0 an0 od1 an1 od2 an2 od3 an3 od4 an4 od5 an5 : Option Addr} {sl0 sl1 sl2 sl3 sl4 sl5 : Array (Option Value)} {oc0 kV0 dc0 pm0 cd0 ct0 oc1 kV1 dc1 pm1 cd1 ct1 oc2 kV2 dc2 pm2 cd2 ct2 oc3 kV3 dc3 pm3 cd3 ct3 oc4 kV4 dc4 pm4 cd4 ct4 oc5 kV5 dc5 pm5 cd5 ct5 : Value}
    {ta_MOMENT_WORDS_0 : Addr} {td_MOMENT_WORDS_0 : Option Addr} {tn_MOMENT_WORDS_0 : Nat} {ts_MOMENT_WORDS_0 : Array (Option Value)} {tt1 tt2 tt3 tt4 : Tok}
    (a0 : PySem.W.nsIn K mainGlobals "moments" = some (some (.ref f0))) (l0 : K.lookup f0 = some ⟨oc0, od0, .func (PySem.W.fnOf "moments" "moments" (defArgs s_moments) (defBody s_moments) (defScope s_moments) .none kV0 dc0 pm0 an0 cd0 ct0), sl0⟩) (c0 : PySem.W.codeIn K cd0 "moments" = true) (k0 : PySem.W.keepIn K (.ref f0) = true)
    (a1 : PySem.W.nsIn K mainGlobals "_law_dealt" = some (some (.ref f1))) (l1 : K.lookup f1 = some ⟨oc1, od1, .func (PySem.W.fnOf "_law_dealt" "_law_dealt" (defArgs s_law_dealt) (defBody s_law_dealt) (defScope s_law_dealt) .none kV1 dc1 pm1 an1 cd1 ct1), sl1⟩) (c1 : PySem.W.codeIn K cd1 "_law_dealt" = true) (k1 : PySem.W.keepIn K (.ref f1) = true)
    (a2 : PySem.W.nsIn K mainGlobals "_law_number" = some (some (.ref f2))) (l2 : K.lookup f2 = some ⟨oc2, od2, .func (PySem.W.fnOf "_law_number" "_law_number" (defArgs s_law_number) (defBody s_law_number) (defScope s_law_number) .none kV2 dc2 pm2 an2 cd2 ct2), sl2⟩) (c2 : PySem.W.codeIn K cd2 "_law_number" = true) (k2 : PySem.W.keepIn K (.ref f2) = true)
    (a3 : PySem.W.nsIn K mainGlobals "_law_or_none" = some (some (.ref f3))) (l3 : K.lookup f3 = some ⟨oc3, od3, .func (PySem.W.fnOf "_law_or_none" "_law_or_none" (defArgs s_law_or_none) (defBody s_law_or_none) (defScope s_law_or_none) .none kV3 dc3 pm3 an3 cd3 ct3), sl3⟩) (c3 : PySem.W.codeIn K cd3 "_law_or_none" = true) (k3 : PySem.W.keepIn K (.ref f3) = true)
    (a4 : PySem.W.nsIn K mainGlobals "_law_row" = some (some (.ref f4))) (l4 : K.lookup f4 = some ⟨oc4, od4, .func (PySem.W.fnOf "_law_row" "_law_row" (defArgs s_law_row) (defBody s_law_row) (defScope s_law_row) .none kV4 dc4 pm4 an4 cd4 ct4), sl4⟩) (c4 : PySem.W.codeIn K cd4 "_law_row" = true) (k4 : PySem.W.keepIn K (.ref f4) = true)
    (a5 : PySem.W.nsIn K mainGlobals "law" = some (some (.ref f5))) (l5 : K.lookup f5 = some ⟨oc5, od5, .func (PySem.W.fnOf "law" "law" (defArgs s_law) (defBody s_law) (defScope s_law) .none kV5 dc5 pm5 an5 cd5 ct5), sl5⟩) (c5 : PySem.W.codeIn K cd5 "law" = true) (k5 : PySem.W.keepIn K (.ref f5) = true)
    (z_tuple : PySem.W.nsIn K mainGlobals "tuple" = some none)
    (z_range : PySem.W.nsIn K mainGlobals "range" = some none)
    (z_isinstance : PySem.W.nsIn K mainGlobals "isinstance" = some none)
    (z_list : PySem.W.nsIn K mainGlobals "list" = some none)
    (g_MOMENT_WORDS : PySem.W.nsIn K mainGlobals "MOMENT_WORDS" = some (some (.ref ta_MOMENT_WORDS_0)))
    (tp_MOMENT_WORDS_0 : K.lookup ta_MOMENT_WORDS_0 = some ⟨.type "tuple", td_MOMENT_WORDS_0, .seq #[.str "found" tt1, .str "put" tt2, .str "cut" tt3, .str "read" tt4] tn_MOMENT_WORDS_0, ts_MOMENT_WORDS_0⟩)
    : ∃ fd : FuncData, (∀ (s : Shared) (v : Value), BindsTo s fd ⟨[v], []⟩ [("script", v)]) ∧ ∀ base : Heap, K.In base → base.Ns mainGlobals mg → FnOk P w K mg base CX0 5 fa fd ["script"] (spD K 1 F_law) := by
  have e := hfa.symm.trans (PySem.W.mg_of X G a5)
  cases e
  have U0 := fun_mk (st := s_moments) l0 c0 k0
  have U1 := fun_mk (st := s_law_dealt) l1 c1 k1
  have U2 := fun_mk (st := s_law_number) l2 c2 k2
  have U3 := fun_mk (st := s_law_or_none) l3 c3 k3
  have U4 := fun_mk (st := s_law_row) l4 c4 k4
  have U5 := fun_mk (st := s_law) l5 c5 k5
  have y_tuple := PySem.W.mg_none_of X G z_tuple
  have y_range := PySem.W.mg_none_of X G z_range
  have y_isinstance := PySem.W.mg_none_of X G z_isinstance
  have y_list := PySem.W.mg_none_of X G z_list
  have w_MOMENT_WORDS := PySem.W.mg_of X G g_MOMENT_WORDS
  have qq_MOMENT_WORDS : KRep K (.tup [.str "found", .str "put", .str "cut", .str "read"]) (.ref ta_MOMENT_WORDS_0) := (kr_tup (xs := [.str "found", .str "put", .str "cut", .str "read"]) tp_MOMENT_WORDS_0 (Nat.le_of_ble_eq_true rfl) (.cons ⟨_, rfl⟩ (.cons ⟨_, rfl⟩ (.cons ⟨_, rfl⟩ (.cons ⟨_, rfl⟩ .nil)))) (krl_cons kr_str (krl_cons kr_str (krl_cons kr_str (krl_cons kr_str krl_nil)))))
  refine ⟨PySem.W.fnOf "law" "law" (defArgs s_law) (defBody s_law) (defScope s_law) .none kV5 dc5 pm5 an5 cd5 ct5, fun s v => .of_eq rfl, fun base _ _ => ?_⟩
  have v0 := has_moments (P := P) (w := w) (mg := mg) (base := base) U0 (PySem.W.mg_of X G a0) w_MOMENT_WORDS qq_MOMENT_WORDS
  have v1 := has_law_dealt (P := P) (w := w) (mg := mg) (base := base) U1 (PySem.W.mg_of X G a1)
  have v2 := has_law_number (P := P) (w := w) (mg := mg) (base := base) U2 (PySem.W.mg_of X G a2) v1
  have v3 := has_law_or_none (P := P) (w := w) (mg := mg) (base := base) U3 (PySem.W.mg_of X G a3) v2 v1
  have v4 := has_law_row (P := P) (w := w) (mg := mg) (base := base) U4 (PySem.W.mg_of X G a4) v2 v3 v1 y_tuple y_range
  exact law_fn U5 v0 v4 y_isinstance y_list
theorem walk {l : PySem.W.OpenLaw} {q : Program} {loose : List Str} {XP : (Str → Option Value) → Heap → Prop} {YP : World → Heap → Prop} {d : DefRec} {K : Params → PySem.W.Frag} (hn : l.most = some 63) (hdf : d.params.defaults = [])
    (hY : ∀ (w : World) (h : Heap), YP w h → (K w.params).In h)
    (F : ∀ (w : World) (mg : Str → Option Value) (fa : Addr) (h : Heap), (K w.params).In h → h.Ns mainGlobals mg → mg d.name = some (.ref fa) →
      ∃ fd : FuncData, (∀ (s : Shared) (u : Value), BindsTo s fd ⟨[u], []⟩ [("script", u)]) ∧ ∀ base : Heap, (K w.params).In base → base.Ns mainGlobals mg → FnOk l.prog w (K w.params) mg base CX0 5 fa fd ["script"] (spD (K w.params) 1 F_law)) :
    PySem.W.WalkO q loose XP YP l.row.toRowW d [] (fun f vs => PySem.call f vs) :=
  L2.walk_of (n := 63) (k := 5) (x := "script") (CX := fun _ => CX0) (sp := fun w => spD (K w.params) 1 F_law) hn (by decide) hdf ⟨rfl, by decide, by decide⟩ hY F (fun w _ a ns hl _ hS => law_sp (law_true ns hl) hS) fun _ _ _ _ _ z => z
end K41
open PySem PySem.W PyProof.Rows
set_option maxRecDepth 100000 in
set_option maxHeartbeats 0 in
theorem PySem.Challenge.cw_sidelink_k41_moments_picked_holds : PySem.Challenge.rw_sidelink_k41_moments_picked.Holds := by
  w_on; o_law; k_head; (case hw => w_witness2)
  k_fill
  refine K41.walk (l := PySem.Challenge.rw_sidelink_k41_moments_picked) rfl rfl (fun w h Y => PySem.W.kIn_of Y) ?F
  case F =>
    intro w mg fa h KX G hmg
    refine' K41.all_mk KX G hmg ?a0 ?l0 ?c0 ?k0 ?a1 ?l1 ?c1 ?k1 ?a2 ?l2 ?c2 ?k2 ?a3 ?l3 ?c3 ?k3 ?a4 ?l4 ?c4 ?k4 ?a5 ?l5 ?c5 ?k5 ?z_tuple ?z_range ?z_isinstance ?z_list ?g_MOMENT_WORDS ?tp_MOMENT_WORDS_0
    (case a0 => k_is); (case l0 => k_is); (case c0 => k_is); (case k0 => k_is)
    (case a1 => k_is); (case l1 => k_is); (case c1 => k_is); (case k1 => k_is)
    (case a2 => k_is); (case l2 => k_is); (case c2 => k_is); (case k2 => k_is)
    (case a3 => k_is); (case l3 => k_is); (case c3 => k_is); (case k3 => k_is)
    (case a4 => k_is); (case l4 => k_is); (case c4 => k_is); (case k4 => k_is)
    (case a5 => k_is); (case l5 => k_is); (case c5 => k_is); (case k5 => k_is)
    (case z_tuple => k_is)
    (case z_range => k_is)
    (case z_isinstance => k_is)
    (case z_list => k_is)
    (case g_MOMENT_WORDS => k_is)
    (case tp_MOMENT_WORDS_0 => k_is)

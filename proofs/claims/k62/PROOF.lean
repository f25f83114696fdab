import PyProof.Rows.All
import Wide.All
import OpenK.AllK
import Wide.FinOn
import Lean
import PyProof.EqAt
import PyProof.EqKinds
import PyProof.TupleCall
import PySem.Challenge.RW_sidelink_k62_whole_each_key_led_to
-- CHANGE: your row's module here, as the last of these rows
set_option Elab.async false
set_option linter.all false
set_option maxRecDepth 100000
namespace L2
open PySem PySem.Spec PyProof.Rows
abbrev Key := Sum Int Str
def keyIs : Key → Value → Bool
  | .inl k, v => Value.isInt k v
  | .inr x, v => Value.isStrOf x v
def keyH (w : World) : Key → Int
  | .inl k => hashInt k
  | .inr x => hashStr w x
theorem keyIs_shape : ∀ {k : Key} {v : Value}, keyIs k v = true → (∃ i t, k = Sum.inl i ∧ v = Value.int i t) ∨ (∃ x t, k = Sum.inr x ∧ v = Value.str x t)
  | .inl i, v, h => by
    obtain ⟨t, e⟩ := Value.isInt_shape (k := i) (v := v) h
    exact .inl ⟨i, t, rfl, e⟩
  | .inr x, v, h => by
    obtain ⟨t, e⟩ := Value.isStrOf_shape (x := x) (v := v) h
    exact .inr ⟨x, t, rfl, e⟩
theorem keyIs_int (i : Int) (t : Tok) : keyIs (.inl i) (.int i t) = true := by simp [keyIs, Value.isInt]
theorem keyIs_str (x : Str) (t : Tok) : keyIs (.inr x) (.str x t) = true := by simp [keyIs, Value.isStrOf]
theorem key_ll (a b : Int) : decide ((Sum.inl a : Key) = Sum.inl b) = (a == b) := by
  by_cases e : a = b
  · subst e; simp
  · have h : ¬ (Sum.inl a : Key) = Sum.inl b := fun q => e (Sum.inl.inj q)
    rw [decide_eq_false h]
    exact (beq_eq_false_iff_ne.mpr e).symm
theorem key_rr (a b : Str) : decide ((Sum.inr a : Key) = Sum.inr b) = decide (a = b) := by
  by_cases e : a = b
  · subst e; simp
  · have h : ¬ (Sum.inr a : Key) = Sum.inr b := fun q => e (Sum.inr.inj q)
    rw [decide_eq_false h, decide_eq_false e]
theorem key_lr (a : Int) (b : Str) : decide ((Sum.inl a : Key) = Sum.inr b) = false := decide_eq_false (fun q => nomatch q)
theorem key_rl (a : Str) (b : Int) : decide ((Sum.inr a : Key) = Sum.inl b) = false := decide_eq_false (fun q => nomatch q)
def mixKind (prog : Program) (w : World) : PySem.KeyKind prog w Key where
  is := keyIs
  hash := keyH w
  inj := fun v a b ha hb => by
    rcases keyIs_shape ha with ⟨i, t, rfl, rfl⟩ | ⟨x, t, rfl, rfl⟩
    · rcases keyIs_shape hb with ⟨j, u, rfl, e⟩ | ⟨y, u, rfl, e⟩
      · injection e with e1 _; rw [e1]
      · exact nomatch e
    · rcases keyIs_shape hb with ⟨j, u, rfl, e⟩ | ⟨y, u, rfl, e⟩
      · exact nomatch e
      · injection e with e1 _; rw [e1]
  byValue := fun k v h => by
    rcases keyIs_shape h with ⟨i, t, rfl, rfl⟩ | ⟨x, t, rfl, rfl⟩ <;> rfl
  pyHash := fun hv h => by
    rcases keyIs_shape hv with ⟨i, t, rfl, rfl⟩ | ⟨x, t, rfl, rfl⟩
    · exact wpAny_pyHash_int h
    · exact wpAny_pyHash_str h
  eqBool := fun hu hv h => by
    rcases keyIs_shape hu with ⟨i, t, rfl, rfl⟩ | ⟨x, t, rfl, rfl⟩
    · rcases keyIs_shape hv with ⟨j, u, rfl, rfl⟩ | ⟨y, u, rfl, rfl⟩
      · rw [key_ll] at h; exact wpAny_eqBool_int h
      · rw [key_lr] at h; exact SeqAt.EqAt.int_str i t y u _ _ _ _ h
    · rcases keyIs_shape hv with ⟨j, u, rfl, rfl⟩ | ⟨y, u, rfl, rfl⟩
      · rw [key_rl] at h; exact SeqAt.EqAt.str_int x t j u _ _ _ _ h
      · rw [key_rr] at h; exact wpAny_eqBool_str h
  «strs» := fun k x t v h => by
    rcases keyIs_shape h with ⟨i, u, rfl, e⟩ | ⟨y, u, rfl, e⟩
    · exact nomatch e
    · injection e with e1 _
      subst e1
      cases v <;> rfl
theorem mixKind_int (prog : Program) (w : World) (i : Int) (t : Tok) : (mixKind prog w).is (.inl i) (.int i t) = true := keyIs_int i t
theorem mixKind_str (prog : Program) (w : World) (x : Str) (t : Tok) : (mixKind prog w).is (.inr x) (.str x t) = true := keyIs_str x t
end L2
namespace L2
open PySem PySem.Spec PyProof.Rows
inductive V where
  | non | bl (b : Bool) | int (i : Int) | str (x : Str) | byt (b : Array UInt8) | flt (b : UInt64) | ref (a : Addr) | ty (n : String)
  deriving DecidableEq
def RelV : V → Value → Prop
  | .non, u => u = Value.none
  | .bl b, u => u = Value.bool b
  | .int i, u => ∃ t, u = Value.int i t
  | .str x, u => ∃ t, u = Value.str x t
  | .byt b, u => ∃ t, u = Value.bytes b t
  | .flt b, u => ∃ t, u = Value.float b t
  | .ref a, u => u = Value.ref a
  | .ty n, u => u = Value.type n
abbrev Vals : List V → List Value → Prop := Paired RelV
theorem Vals.length {xs : List V} {us : List Value} (r : Vals xs us) : xs.length = us.length := Paired.length r
theorem Vals.get : ∀ {xs : List V} {us : List Value} {i : Nat} {x : V}, Vals xs us → xs[i]? = some x → ∃ u, us[i]? = some u ∧ RelV x u
  | _, _, _, _, .nil, e => by simp at e
  | _, _, 0, _, .cons r _, e => by simp at e; subst e; exact ⟨_, rfl, r⟩
  | _, _, i + 1, x, .cons _ t, e => by
    obtain ⟨u, h1, h2⟩ := Vals.get (i := i) (x := x) t (by simpa using e)
    exact ⟨u, by simpa using h1, h2⟩
theorem Vals.set {x : V} {u : Value} (r : RelV x u) : ∀ {xs : List V} {us : List Value} (i : Nat), Vals xs us → Vals (xs.set i x) (us.set i u)
  | _, _, _, .nil => .nil
  | _, _, 0, .cons _ t => .cons r t
  | _, _, i + 1, .cons q t => .cons q (Vals.set r i t)
theorem Vals.append : ∀ {xs ys : List V} {us ws : List Value}, Vals xs us → Vals ys ws → Vals (xs ++ ys) (us ++ ws)
  | _, _, _, _, .nil, s => s
  | _, _, _, _, .cons r t, s => .cons r (Vals.append t s)
theorem Vals.take : ∀ {xs : List V} {us : List Value} (n : Nat), Vals xs us → Vals (xs.take n) (us.take n)
  | _, _, 0, _ => .nil
  | _, _, _ + 1, .nil => .nil
  | _, _, n + 1, .cons r t => .cons r (Vals.take n t)
theorem Vals.drop : ∀ {xs : List V} {us : List Value} (n : Nat), Vals xs us → Vals (xs.drop n) (us.drop n)
  | _, _, 0, r => r
  | _, _, _ + 1, .nil => .nil
  | _, _, n + 1, .cons _ t => Vals.drop n t
theorem Vals.none_of : ∀ {xs : List V} {us : List Value} {i : Nat}, Vals xs us → xs[i]? = none → us[i]? = none := fun {xs us i} r e => by
  have h1 := r.length
  have h2 : xs.length ≤ i := List.getElem?_eq_none_iff.mp e
  exact List.getElem?_eq_none_iff.mpr (by omega)
def RelO : Option V → Option Value → Prop
  | some v, some u => RelV v u
  | none, none => True
  | _, _ => False
def KV {κ : Type} : List (κ × V) → List (κ × Value) → Prop := Paired fun (p : κ × V) (q : κ × Value) => p.1 = q.1 ∧ RelV p.2 q.2
def kV : Key → V
  | .inl i => .int i
  | .inr x => .str x
inductive HO where
    | lst (xs : List V)
    | tup (xs : List V)
    | dK (kvs : List (Key × V)) | dT (kvs : List (List Key × V))
    | set (S : Int → Bool) (n : Nat)
    | ins (C dx : Addr) (fs : List (Str × V))
    | own (x : Addr)
    | xd (fs : List (Str × V))
    | met (f x : Addr)
    | rng (lo hi : Int)
    | frz (o : Obj) (u : HO)
    | tbl (ps : Array Value)
    | ext (φ : Heap → Prop)
abbrev Hp := Addr → Option HO
def upd (H : Hp) (a : Addr) (o : HO) : Hp := fun b => if b = a then some o else H b
theorem upd_same {H : Hp} {a : Addr} {o : HO} : upd H a o a = some o := by unfold upd; rw [if_pos rfl]
theorem upd_ne {H : Hp} {a b : Addr} {o : HO} (h : b ≠ a) : upd H a o b = H b := by unfold upd; rw [if_neg h]
theorem ne_of {H : Hp} {a b : Addr} {o u : HO} (h : H a = some o) (h' : H b = some u) (d : o ≠ u) : a ≠ b := by
  intro e; subst e; rw [h] at h'; exact d (Option.some.inj h')
theorem ne_of_none {H : Hp} {a b : Addr} {o : HO} (h : H a = some o) (h' : H b = none) : a ≠ b := by
  intro e; subst e; rw [h] at h'; cases h'
section
variable (P : Program) (w : World)
def ObjOk (H : Hp) (h : Heap) (a : Addr) : HO → Prop
  | .lst xs => xs.length ≤ sizeLine ∧ ∃ (its : List Value) (n : Nat), Vals xs its ∧ h.get? a = some { cls := .type "list", data := .seq its.toArray n }
  | .tup xs => xs.length ≤ sizeLine ∧ ∃ its : List Value, Vals xs its ∧ IsTup h a its.toArray
  | .dK kvs => kvs.length ≤ sizeLine ∧ (a == sysModules) = false ∧ ∃ vs, KV kvs vs ∧ h.DictOf (mixKind P w) a vs
  | .dT kvs => kvs.length ≤ sizeLine ∧ (a == sysModules) = false ∧ ∃ xs : List (List Key × Addr × Value),
      Paired (fun (p : List Key × V) (q : List Key × Addr × Value) => p.1 = q.1 ∧ H q.2.1 = some (.tup (p.1.map kV)) ∧ RelV p.2 q.2.2) kvs xs ∧
      ∃ o es ep, h.get? a = some o ∧ o.ExactDict ∧ o.data = .dict es ep ∧ es.toList = xs.map (entryOfKey (tupleKind (mixKind P w))) ∧ (xs.map (·.1)).Nodup
  | .set S n => h.SetOf (intKind P w) a S n
  | .ins C dx fs => H dx = some (.own a) ∧ fs.length ≤ 1000 ∧ dx ≠ a ∧ h.get? a = some (PySem.W.instObj C dx) ∧
      ∃ mA, h.Ns1 dx mA ∧ (∀ f, RelO (fs.lookup f) (mA f)) ∧ PySem.Within mA (fs.map (·.1))
  | .own _ => ∃ o, h.get? a = some o
  | .xd fs => ∃ mA, h.Ns1 a mA ∧ ∀ f, RelO (fs.lookup f) (mA f)
  | .rng lo hi => ∃ t u v, h.get? a = some { cls := .type "range", data := .fields #[.int lo t, .int hi u, .int 1 v] }
  | .frz o u => h.get? a = some o ∧ ObjOk H h a u
  | .tbl ps => h.get? a = some { cls := .none, data := .fields ps }
  | .met f x => h.get? a = some (PySem.W.methodObj (.ref f) (.ref x))
  | .ext φ => φ h ∧ (∃ o, h.get? a = some o) ∧ ∀ h1 h2 : Heap, φ h1 → (∀ o, h1.get? a = some o → h2.get? a = some o) → φ h2
def HOk (H : Hp) (h : Heap) : Prop := ∀ a o, H a = some o → ObjOk P w H h a o
end
section
variable {P : Program} {w : World} {H H' : Hp} {h h' : Heap} {a : Addr} {o : HO}
theorem ObjOk.lt (x : ObjOk P w H h a o) : a < h.objs.size := by
  cases o with
  | lst xs => obtain ⟨_, _, _, _, e⟩ := x; exact Heap.lt_size e
  | tup xs => obtain ⟨_, _, _, p⟩ := x; exact p.lt
  | dK kvs => obtain ⟨_, _, _, _, o, _, _, e, _⟩ := x; exact Heap.lt_size e
  | dT kvs => obtain ⟨_, _, _, _, o, _, _, e, _⟩ := x; exact Heap.lt_size e
  | set S n => obtain ⟨o, _, _, _, e, _⟩ := x; exact Heap.lt_size e
  | ins C dx fs => obtain ⟨_, _, _, e, _⟩ := x; exact Heap.lt_size e
  | own y => obtain ⟨_, e⟩ := x; exact Heap.lt_size e
  | xd fs => obtain ⟨_, ⟨_, _, _, e, _⟩, _⟩ := x; exact Heap.lt_size e
  | rng lo hi => obtain ⟨_, _, _, e⟩ := x; exact Heap.lt_size e
  | frz ob u => obtain ⟨e, _⟩ := x; exact Heap.lt_size e
  | tbl ps => exact Heap.lt_size (show h.get? a = some _ from x)
  | met f y => exact Heap.lt_size (show h.get? a = some _ from x)
  | ext φ => obtain ⟨_, ⟨_, e⟩, _⟩ := x; exact Heap.lt_size e
theorem Paired.mapP {α β : Type} {F G : α → β → Prop} : ∀ {l₁ : List α} {l₂ : List β}, Paired F l₁ l₂ → (∀ a b, F a b → G a b) → Paired G l₁ l₂
  | _, _, .nil, _ => .nil
  | _, _, .cons r t, f => .cons (f _ _ r) (Paired.mapP t f)
theorem ObjOk.stay (x : ObjOk P w H h a o) (k : ∀ b u, (b = a ∨ H b = some (.own a)) → h.get? b = some u → h'.get? b = some u)
    (ho : ∀ b, H b = some (.own a) → H' b = some (.own a)) (ht : ∀ b xs, H b = some (.tup xs) → H' b = some (.tup xs)) : ObjOk P w H' h' a o := by
  induction o with
  | lst xs => obtain ⟨z, its, n, r, e⟩ := x; exact ⟨z, its, n, r, k _ _ (.inl rfl) e⟩
  | tup xs => obtain ⟨z, its, r, ob, e, c⟩ := x; exact ⟨z, its, r, ob, k _ _ (.inl rfl) e, c⟩
  | dK kvs => obtain ⟨z, y, vs, r, ob, es, ep, e, c⟩ := x; exact ⟨z, y, vs, r, ob, es, ep, k _ _ (.inl rfl) e, c⟩
  | dT kvs =>
    obtain ⟨z, y, xs, r, ob, es, ep, e, c⟩ := x
    exact ⟨z, y, xs, Paired.mapP r fun p q z => ⟨z.1, ht _ _ z.2.1, z.2.2⟩, ob, es, ep, k _ _ (.inl rfl) e, c⟩
  | set S n => obtain ⟨ob, es, ep, t, e, c⟩ := x; exact ⟨ob, es, ep, t, k _ _ (.inl rfl) e, c⟩
  | ins C dx fs =>
    obtain ⟨d, z, ne, e, mA, ⟨od, es, ep, e2, c⟩, r⟩ := x
    exact ⟨ho _ d, z, ne, k _ _ (.inl rfl) e, mA, ⟨od, es, ep, k _ _ (.inr d) e2, c⟩, r⟩
  | own y => obtain ⟨ob, e⟩ := x; exact ⟨ob, k _ _ (.inl rfl) e⟩
  | xd fs => obtain ⟨mA, ⟨od, es, ep, e, c⟩, r⟩ := x; exact ⟨mA, ⟨od, es, ep, k _ _ (.inl rfl) e, c⟩, r⟩
  | rng lo hi => obtain ⟨t, u, v, e⟩ := x; exact ⟨t, u, v, k _ _ (.inl rfl) e⟩
  | frz ob u ih => obtain ⟨e, q⟩ := x; exact ⟨k _ _ (.inl rfl) e, ih q⟩
  | tbl ps =>
    have e : h.get? a = some { cls := .none, data := .fields ps } := x
    show h'.get? a = some { cls := .none, data := .fields ps }
    exact k a _ (.inl rfl) e
  | met f y =>
    have e : h.get? a = some (PySem.W.methodObj (.ref f) (.ref y)) := x
    show h'.get? a = some (PySem.W.methodObj (.ref f) (.ref y))
    exact k a _ (.inl rfl) e
  | ext φ => obtain ⟨p, ⟨o, e⟩, st⟩ := x; exact ⟨st _ _ p fun o q => k _ _ (.inl rfl) q, ⟨o, k _ _ (.inl rfl) e⟩, st⟩
theorem HOk.lt (x : HOk P w H h) (e : H a = some o) : a < h.objs.size := (x a o e).lt
theorem HOk.fresh (x : HOk P w H h) (e : h.objs.size ≤ a) : H a = none := by
  cases q : H a with
  | none => rfl
  | some u => exact absurd (Nat.lt_of_lt_of_le (x.lt q) e) (Nat.lt_irrefl _)
theorem HOk.kept (x : HOk P w H h) (k : ∀ b u, h.get? b = some u → h'.get? b = some u) : HOk P w H h' := fun a o e =>
  (x a o e).stay (fun b u _ q => k b u q) (fun _ q => q) fun _ _ q => q
theorem HOk.laid (x : HOk P w H h) (k : ∀ b u, h.get? b = some u → h'.get? b = some u) (hp : h.objs.size ≤ a) (new : ObjOk P w (upd H a o) h' a o) : HOk P w (upd H a o) h' := fun b u e => by
  have hn := x.fresh hp
  by_cases hb : b = a
  · subst hb; rw [upd_same] at e; cases e; exact new
  · rw [upd_ne hb] at e
    exact (x b u e).stay (fun c v _ q => k c v q) (fun c q => by rw [upd_ne (ne_of_none q hn)]; exact q) fun c xs q => by rw [upd_ne (ne_of_none q hn)]; exact q
end
def Rd (H : Hp) (a : Addr) (u : HO) : Prop := H a = some u ∨ ∃ o, H a = some (.frz o u)
theorem Rd.of {H : Hp} {a : Addr} {u : HO} (h : H a = some u) : Rd H a u := .inl h
theorem Rd.ok {P : Program} {w : World} {H : Hp} {h : Heap} {a : Addr} {u : HO} (r : Rd H a u) (x : HOk P w H h) : ObjOk P w H h a u := by
  rcases r with r | ⟨o, r⟩
  · exact x a u r
  · obtain ⟨_, q⟩ := x a _ r
    exact q
def Mut : Option HO → Prop
  | some (.lst _) => True
  | some (.dK _) => True
  | some (.dT _) => True
  | some (.set _ _) => True
  | some (.ins _ _ _) => True
  | some (.ext _) => True
  | _ => False
section
variable {P : Program} {w : World} {H : Hp} {h h' : Heap} {x e : Addr} {o' : HO}
theorem HOk.write (ok : HOk P w H h) (mu : Mut (H x)) (he : e = x ∨ H e = some (.own x)) (k : ∀ b u, b ≠ e → h.get? b = some u → h'.get? b = some u) (heo : ∃ u, h'.get? e = some u)
    (new : ObjOk P w (upd H x o') h' x o') : HOk P w (upd H x o') h' := fun b u q => by
  have nown : ∀ c y, H c = some (.own y) → c ≠ x := fun c y r z => by subst z; rw [r] at mu; exact mu
  have ntup : ∀ c xs, H c = some (.tup xs) → c ≠ x := fun c xs r z => by subst z; rw [r] at mu; exact mu
  by_cases hb : b = x
  · subst hb; rw [upd_same] at q; cases q; exact new
  · rw [upd_ne hb] at q
    by_cases hbe : b = e
    · have q' : H b = some (.own x) := by
        rcases he with z | z
        · exact absurd (hbe.trans z) hb
        · rw [hbe]; exact z
      rw [q] at q'; cases q'
      obtain ⟨v, hv⟩ := heo
      exact ⟨v, by rw [hbe]; exact hv⟩
    · refine (ok b u q).stay (fun c v hc r => k c v ?_ r) (fun c r => by rw [upd_ne (nown c b r)]; exact r) fun c xs r => by rw [upd_ne (ntup c xs r)]; exact r
      rcases hc with rfl | hc
      · exact hbe
      · rintro rfl
        rcases he with z | z
        · exact nown c b hc z
        · rw [hc] at z; cases z; exact hb rfl
end
structure Un (fs ex : List Addr) (H H' : Hp) (h h' : Heap) : Prop where
  keep : ∀ b o, h.get? b = some o → H b = none → b ∉ fs → b ∉ ex → h'.get? b = some o
  slot : ∀ b o, h.get? b = some o → H b = none → b ∈ fs → b ∉ ex → ∃ sl, h'.get? b = some { o with slots := sl }
  free : ∀ b o, h.get? b = some o → H b = none → b ∉ ex → H' b = none
  there : ∀ b o, h.get? b = some o → b ∉ ex → ∃ o', h'.get? b = some o'
  tups : ∀ b xs, H b = some (.tup xs) → H' b = some (.tup xs)
  frzs : ∀ b o u, H b = some (.frz o u) → H' b = some (.frz o u)
  tbls : ∀ b ps, H b = some (.tbl ps) → ∃ more, H' b = some (.tbl (ps ++ more))
section
variable {fs fs' ex ex' : List Addr} {H H1 H2 : Hp} {h h1 h2 h' : Heap} {a x e : Addr} {o : HO}
theorem Un.any (u : Un fs ex H H1 h h1) {b : Addr} {ob : Obj} (q : h.get? b = some ob) (n : H b = none) (hx : b ∉ ex) : ∃ sl, h1.get? b = some { ob with slots := sl } := by
  by_cases hb : b ∈ fs
  · exact u.slot b ob q n hb hx
  · exact ⟨ob.slots, u.keep b ob q n hb hx⟩
theorem Un.trans (a : Un fs ex H H1 h h1) (b : Un fs ex H1 H2 h1 h2) : Un fs ex H H2 h h2 where
  keep := fun c ob q n hc hx => b.keep c ob (a.keep c ob q n hc hx) (a.free c ob q n hx) hc hx
  slot := fun c ob q n hc hx => by
    obtain ⟨sl, e1⟩ := a.slot c ob q n hc hx
    obtain ⟨sl', e2⟩ := b.slot c _ e1 (a.free c ob q n hx) hc hx
    exact ⟨sl', e2⟩
  free := fun c ob q n hx => by
    obtain ⟨o', e1⟩ := a.there c ob q hx
    exact b.free c o' e1 (a.free c ob q n hx) hx
  there := fun c ob q hx => by
    obtain ⟨o', e1⟩ := a.there c ob q hx
    exact b.there c o' e1 hx
  tups := fun c xs q => b.tups c xs (a.tups c xs q)
  frzs := fun c ob xs q => b.frzs c ob xs (a.frzs c ob xs q)
  tbls := fun c ps q => by
    obtain ⟨m1, e1⟩ := a.tbls c ps q
    obtain ⟨m2, e2⟩ := b.tbls c _ e1
    exact ⟨m1 ++ m2, by rw [e2, Array.append_assoc]⟩
theorem Un.kept (k : ∀ b u, h.get? b = some u → h'.get? b = some u) : Un fs ex H H h h' :=
  ⟨fun b ob q _ _ _ => k b ob q, fun b ob q _ _ _ => ⟨ob.slots, k b ob q⟩, fun _ _ _ n _ => n, fun b ob q _ => ⟨ob, k b ob q⟩, fun _ _ q => q, fun _ _ _ q => q, fun _ ps q => ⟨#[], by rw [q]; simp⟩⟩
theorem Un.refl : Un fs ex H H h h := Un.kept fun _ _ q => q
theorem Un.laid (k : ∀ b u, h.get? b = some u → h'.get? b = some u) (hp : h.objs.size ≤ a) (hn : H a = none) : Un fs ex H (upd H a o) h h' where
  keep := fun b u q _ _ _ => k b u q
  slot := fun b u q _ _ _ => ⟨u.slots, k b u q⟩
  free := fun b u q n _ => by rw [upd_ne (Nat.ne_of_lt (Nat.lt_of_lt_of_le (Heap.lt_size q) hp))]; exact n
  there := fun b u q _ => ⟨u, k b u q⟩
  tups := fun b xs q => by rw [upd_ne (ne_of_none q hn)]; exact q
  frzs := fun b u xs q => by rw [upd_ne (ne_of_none q hn)]; exact q
  tbls := fun b ps q => ⟨#[], by rw [upd_ne (ne_of_none q hn), q]; simp⟩
theorem Un.write (mu : Mut (H x)) (he : e = x ∨ H e = some (.own x)) (k : ∀ b u, b ≠ e → h.get? b = some u → h'.get? b = some u) (heo : ∃ u, h'.get? e = some u) : Un fs ex H (upd H x o) h h' := by
  have hx : ∀ b, H b = none → b ≠ x := fun b n z => by subst z; rw [n] at mu; exact mu
  have hb : ∀ b, H b = none → b ≠ e := fun b n z => by
    subst z
    rcases he with r | r
    · exact hx b n r
    · rw [n] at r; cases r
  have hm : ∀ b u, H b = some u → ¬ Mut (some u) → b ≠ x := fun b u q nm z => by subst z; rw [q] at mu; exact nm mu
  refine ⟨fun b u q n _ _ => k b u (hb b n) q, fun b u q n _ _ => ⟨u.slots, k b u (hb b n) q⟩, fun b u q n _ => by rw [upd_ne (hx b n)]; exact n, fun b u q _ => ?_,
    fun b xs q => by rw [upd_ne (hm b _ q fun z => z)]; exact q, fun b u xs q => by rw [upd_ne (hm b _ q fun z => z)]; exact q, fun b ps q => ⟨#[], by rw [upd_ne (hm b _ q fun z => z), q]; simp⟩⟩
  by_cases hbe : b = e
  · subst hbe; exact heo
  · exact ⟨u, k b u hbe q⟩
theorem Un.mono (u : Un fs ex H H1 h h1) (hs : ∀ b ∈ fs, b ∈ fs') (hx : ∀ b ∈ ex, b ∈ ex') : Un fs' ex' H H1 h h1 :=
  ⟨fun b ob q n hb he => u.keep b ob q n (fun z => hb (hs b z)) fun z => he (hx b z), fun _ _ q n _ he => u.any q n fun z => he (hx _ z), fun b ob q n he => u.free b ob q n fun z => he (hx b z), fun b ob q he => u.there b ob q fun z => he (hx b z), u.tups, u.frzs, u.tbls⟩
end
def trk (h : Heap) (H : Hp) : List Addr := (List.range h.objs.size).filter fun a => (H a).isSome
def hidT (h : Heap) (H : Hp) : Heap := PySem.W.hideAll h (trk h H)
theorem hidT_size (h : Heap) (H : Hp) : (hidT h H).objs.size = h.objs.size := PySem.W.hideAll_size _ _
theorem hidT_get {h : Heap} {H : Hp} {b : Addr} {o : Obj} (e : h.get? b = some o) (n : H b = none) : (hidT h H).get? b = some o :=
  PySem.W.hideAll_get _ e fun hm => by
    have q : (H b).isSome = true := (List.mem_filter.mp hm).2
    rw [n] at q; simp at q
theorem of_hidT {h : Heap} {H : Hp} {b : Addr} {o : Obj} (e : (hidT h H).get? b = some o) : h.get? b = some o ∧ H b = none := by
  have e' : h.get? b = some o := PySem.W.of_hideAll (trk h H) e
  refine ⟨e', ?_⟩
  cases q : H b with
  | none => rfl
  | some x =>
    have hm : b ∈ trk h H := List.mem_filter.mpr ⟨List.mem_range.mpr (Heap.lt_size e'), by simp [q]⟩
    have z : (hidT h H).get? b = none := PySem.W.hideAll_none (trk h H) hm
    rw [z] at e; cases e
def allNews (g h : Heap) (L : Addr) : List (Addr × Obj) := (List.range h.objs.size).filterMap fun a => if a = L ∨ (g.get? a).isSome = true then none else (h.get? a).map fun o => (a, o)
theorem of_mem_allNews {g h : Heap} {L : Addr} {p : Addr × Obj} (hp : p ∈ allNews g h L) : p.1 ≠ L ∧ g.get? p.1 = none ∧ h.get? p.1 = some p.2 := by
  obtain ⟨b, _, e⟩ := List.mem_filterMap.mp hp
  split at e
  · cases e
  · rename_i hn
    cases q : h.get? b with
    | none => rw [q] at e; simp at e
    | some u =>
      rw [q] at e
      simp only [Option.map_some, Option.some.injEq] at e
      subst e
      refine ⟨fun z => hn (.inl z), ?_, q⟩
      show g.get? b = none
      cases r : g.get? b with
      | none => rfl
      | some v => exact (hn (.inr (by simp [r]))).elim
def rest (g h : Heap) (L d : Addr) : List (Addr × Obj) := (allNews g h L).filter fun p => decide (p.1 ≠ d)
theorem news_all {g h : Heap} {L : Addr} : News g L h (allNews g h L) := fun p hp => let ⟨a, b, c⟩ := of_mem_allNews hp; ⟨c, a, b⟩
end L2
namespace L2
open PySem PySem.Spec PyProof.Rows
structure Mod (K : PySem.W.Frag) (mg : Str → Option Value) (base : Heap) : Prop where
  kin : K.In base
  glob : base.Ns mainGlobals mg
  blt : ∃ mb, base.Ns builtinsNs mb ∧ ∀ x : Str, x ≠ "__name__" → mb x = bootBuiltins x
  nolimit : base.NoLimit
structure Cx where
  prog : Program
  w : World
  K : PySem.W.Frag
  mg : Str → Option Value
  base : Heap
  A : Around
  N : List Str
  s₀ : Shared
  H₀ : Hp
  env : Env
  outer : List Env
  stack : List Env
  ex : List Addr
  fn : Str → Bool
  calm : Bool
  pn : List (Addr × Obj)
  xe : Value → Shared → Prop
def frs (l : List Env) : List Addr := l.filterMap (·.frame)
abbrev Cx.fs (X : Cx) : List Addr := frs X.outer
def Vis (sc : Scope) (x : Str) : Prop := sc.names.lookup x = some .local ∨ sc.names.lookup x = some .cell ∨ sc.names.lookup x = some .free
def Loc (sc : Scope) (x : Str) : Prop := sc.names.lookup x = some .local ∨ sc.names.lookup x = some .cell
def Look (env : Env) (h : Heap) (m : Str → Option Value) (x : Str) (u : Value) : Prop :=
  (env.kindOf x = some .local ∧ m x = some u) ∨ ((env.kindOf x = some .cell ∨ env.kindOf x = some .free) ∧ ∃ c, env.cells.lookup x = some c ∧ h.IsCell c (some u))
structure Cx.Ok (X : Cx) : Prop where
  mod : Mod X.K X.mg X.base
  kind : X.env.scope.kind = .function
  glob : X.env.globals = mainGlobals
  blt : X.env.builtins = builtinsNs
  above : X.s₀.heap.objs.size ≤ X.env.locals
  inj : ∀ x y c, X.env.cells.lookup x = some c → X.env.cells.lookup y = some c → x = y
  has : ∀ x, (X.env.kindOf x = some .cell ∨ X.env.kindOf x = some .free) → ∃ c, X.env.cells.lookup x = some c
  cab : ∀ x c, X.fn x = true → X.env.cells.lookup x = some c → X.s₀.heap.objs.size ≤ c
  hd : X.calm = true → X.A.handled = none
  frames : X.A.frames = some X.stack
  stk : X.stack = X.outer ∨ (X.stack = X.env :: X.outer ∧ X.env.frame = some X.env.locals)
  exf : ∀ b ∈ X.ex, b ≠ X.env.locals ∧ ∀ x c, X.env.cells.lookup x = some c → c ≠ b
  bs : ∀ b o, X.base.get? b = some o → X.s₀.heap.get? b = some o ∧ X.H₀ b = none
  bsz : X.base.objs.size ≤ X.s₀.heap.objs.size
  noex : ∀ b o, X.base.get? b = some o → b ∉ X.ex
  exfs : ∀ b ∈ X.ex, b ∉ X.fs
  funs : X.s₀.heap.FunFrames X.base X.outer
  frf : ∀ b ∈ X.fs, X.H₀ b = none
structure Inv (X : Cx) (pins : List (Addr × Obj)) (σ : List (Option V)) (H : Hp) (s : Shared) : Prop where
  ok : X.Ok
  os : s.os = X.s₀.os
  bare : AllBare s.gens
  base : Un X.fs X.ex X.H₀ H X.s₀.heap s.heap
  loc : ∃ m, s.heap.Ns X.env.locals m ∧ ∀ (i : Nat) (x : Str) (v : V), X.N[i]? = some x → σ[i]? = some (some v) → Vis X.env.scope x → ∃ u, RelV v u ∧ Look X.env s.heap m x u
  cell : ∀ x c, X.env.cells.lookup x = some c → ∃ v, s.heap.IsCell c v
  free : H X.env.locals = none
  freeC : ∀ x c, X.env.cells.lookup x = some c → H c = none
  pin : ∀ p ∈ X.pn ++ pins, s.heap.get? p.1 = some p.2 ∧ H p.1 = none ∧ p.1 ≠ X.env.locals ∧ p.1 ∉ X.fs ∧ ∀ v, p.2.data ≠ .cell v
  hok : HOk X.prog X.w H s.heap
  len : σ.length = X.N.length
section
variable {X : Cx} {pins : List (Addr × Obj)} {σ : List (Option V)} {H H' : Hp} {s : Shared} {h' : Heap}
theorem Cx.Ok.nofr (ok : X.Ok) {b : Addr} {o : Obj} (e : X.base.get? b = some o) : b ∉ X.fs := fun hb => by
  have := (ok.funs.mem hb).1
  rw [e] at this; cases this
theorem Inv.bs (I : Inv X pins σ H s) : ∀ b o, X.base.get? b = some o → s.heap.get? b = some o ∧ H b = none := fun b o e =>
  ⟨I.base.keep b o (I.ok.bs b o e).1 (I.ok.bs b o e).2 (I.ok.nofr e) (I.ok.noex b o e), I.base.free b o (I.ok.bs b o e).1 (I.ok.bs b o e).2 (I.ok.noex b o e)⟩
theorem Inv.bk (I : Inv X pins σ H s) : ∀ b o, X.base.get? b = some o → s.heap.get? b = some o := fun b o e => (I.bs b o e).1
theorem Inv.mod (I : Inv X pins σ H s) : Mod X.K X.mg X.base := I.ok.mod
theorem Inv.kIn (I : Inv X pins σ H s) : X.K.In s.heap := I.ok.mod.kin.keeps I.bk
theorem Inv.nolimit (I : Inv X pins σ H s) : s.heap.NoLimit := I.ok.mod.nolimit.keeps I.bk
theorem Inv.fr (I : Inv X pins σ H s) : ∃ m, Fr X.base X.env.locals s.heap m :=
  let ⟨m, hn, _⟩ := I.loc
  ⟨m, hn, I.bk, Nat.le_trans I.ok.bsz I.ok.above⟩
theorem Inv.lt (I : Inv X pins σ H s) : X.env.locals < s.heap.objs.size := let ⟨_, hn, _⟩ := I.loc; hn.lt
theorem Inv.sz (I : Inv X pins σ H s) : X.s₀.heap.objs.size ≤ s.heap.objs.size := Nat.le_trans I.ok.above (Nat.le_of_lt I.lt)
theorem Inv.nofs (I : Inv X pins σ H s) {a : Addr} (h : s.heap.objs.size ≤ a) : a ∉ X.fs := fun hb => by
  obtain ⟨_, o, ho, _⟩ := I.ok.funs.mem hb
  exact absurd (Nat.lt_of_lt_of_le (Heap.lt_size ho) (Nat.le_trans I.sz h)) (Nat.lt_irrefl _)
theorem Inv.cne (I : Inv X pins σ H s) : ∀ x c, X.env.cells.lookup x = some c → c ≠ X.env.locals := fun x c e z => by
  obtain ⟨v, o, ho, hd⟩ := I.cell x c e
  obtain ⟨m, ⟨o', es, ep, ho', hd', _⟩, _⟩ := I.loc
  rw [z, ho'] at ho; cases ho; rw [hd'] at hd; cases hd
theorem Inv.funs (I : Inv X pins σ H s) : s.heap.FunFrames X.base X.outer := by
  have all : ∀ (l : List Env), (∀ b ∈ frs l, b ∈ X.fs) → X.s₀.heap.FunFrames X.base l → s.heap.FunFrames X.base l := by
    intro l
    induction l with
    | nil => intro _ _; trivial
    | cons env r ih =>
      intro hs hl
      obtain ⟨hk, ⟨L, o, hf, hn, ho, hd⟩, hr⟩ := hl
      have hL : L ∈ X.fs := hs L (by unfold frs; rw [List.filterMap_cons, hf]; exact List.mem_cons_self)
      obtain ⟨sl, e⟩ := I.base.slot L o ho (I.ok.frf L hL) hL fun z => I.ok.exfs L z hL
      exact ⟨hk, ⟨L, _, hf, hn, e, hd⟩, ih (fun b hb => hs b (by unfold frs; rw [List.filterMap_cons, hf]; exact List.mem_cons_of_mem _ hb)) hr⟩
  exact all X.outer (fun _ hb => hb) I.ok.funs
theorem Inv.stack (I : Inv X pins σ H s) : s.heap.FunFrames X.base X.stack := by
  rcases I.ok.stk with e | ⟨e, hf⟩
  · rw [e]; exact I.funs
  · rw [e]
    obtain ⟨m, hn, _⟩ := I.loc
    refine .cons (by rw [I.ok.kind]; decide) hf hn ?_ I.funs
    exact Heap.get?_none_of_le (Nat.le_trans I.ok.bsz I.ok.above)
theorem Inv.stkSub (I : Inv X pins σ H s) : ∀ b ∈ frs X.stack, b ∈ X.env.locals :: X.fs := fun b hb => by
  rcases I.ok.stk with e | ⟨e, hf⟩
  · rw [e] at hb; exact List.mem_cons_of_mem _ hb
  · rw [e] at hb
    unfold frs at hb
    rw [List.filterMap_cons, hf] at hb
    exact hb
theorem Inv.stkFree (I : Inv X pins σ H s) : ∀ b ∈ frs X.stack, H b = none := fun b hb => by
  rcases List.mem_cons.mp (I.stkSub b hb) with e | hb
  · rw [e]; exact I.free
  · obtain ⟨_, o, ho, _⟩ := I.ok.funs.mem hb
    exact I.base.free b o ho (I.ok.frf b hb) fun z => I.ok.exfs b z hb
theorem Inv.step {g' : Array GenState} {t' : Nat} {d' : Drawn} {ch : List Addr} (I : Inv X pins σ H s)
    (hch : ∀ b ∈ ch, (b ∈ X.ex ∨ X.s₀.heap.objs.size ≤ b) ∧ b ≠ X.env.locals ∧ (∀ x c, X.env.cells.lookup x = some c → c ≠ b) ∧ ∀ p ∈ X.pn ++ pins, p.1 ≠ b)
    (keep : ∀ b o, b ≠ X.env.locals → b ∉ X.fs → b ∉ ch → s.heap.get? b = some o → H b = none → h'.get? b = some o)
    (slot : ∀ b o, b ≠ X.env.locals → b ∈ X.fs → b ∉ ch → s.heap.get? b = some o → H b = none → ∃ sl, h'.get? b = some { o with slots := sl }) (free : ∀ b o, b ∉ ch → s.heap.get? b = some o → H b = none → H' b = none)
    (there : ∀ b o, b ∉ ch → s.heap.get? b = some o → ∃ o', h'.get? b = some o')
    (tups : ∀ b xs, H b = some (.tup xs) → H' b = some (.tup xs)) (frzs : ∀ b o u, H b = some (.frz o u) → H' b = some (.frz o u)) (tbls : ∀ b ps, H b = some (.tbl ps) → ∃ more, H' b = some (.tbl (ps ++ more)))
    (ns : ∀ m, s.heap.Ns X.env.locals m → h'.Ns X.env.locals m) (hok : HOk X.prog X.w H' h') (hg : AllBare g') :
    Inv X pins σ H' { s with heap := h', gens := g', drawn := d', toks := t' } := by
  have neL : ∀ b o, X.s₀.heap.get? b = some o → b ≠ X.env.locals := fun b o e => Nat.ne_of_lt (Nat.lt_of_lt_of_le (Heap.lt_size e) I.ok.above)
  have neC : ∀ b o, X.s₀.heap.get? b = some o → b ∉ X.ex → b ∉ ch := fun b o e hx hb => by
    rcases (hch b hb).1 with z | z
    · exact hx z
    · exact absurd (Nat.lt_of_lt_of_le (Heap.lt_size e) z) (Nat.lt_irrefl _)
  have cellK : ∀ x c, X.env.cells.lookup x = some c → ∀ v, s.heap.IsCell c v → h'.IsCell c v := fun x c e v ⟨o, ho, hd⟩ => by
    have nch : c ∉ ch := fun z => (hch c z).2.2.1 x c e rfl
    by_cases hc : c ∈ X.fs
    · obtain ⟨sl, q⟩ := slot c o (I.cne x c e) hc nch ho (I.freeC x c e)
      exact ⟨_, q, hd⟩
    · exact ⟨o, keep c o (I.cne x c e) hc nch ho (I.freeC x c e), hd⟩
  refine ⟨I.ok, I.os, hg, ⟨fun b o e n hb hx => ?_, fun b o e n hb hx => ?_, fun b o e n hx => ?_, fun b o e hx => ?_, fun b xs e => tups b xs (I.base.tups b xs e), fun b o xs e => frzs b o xs (I.base.frzs b o xs e), fun b ps e => ?_⟩, ?_, fun x c e => ?_, ?_, fun x c e => ?_, fun p hp => ?_, hok, I.len⟩
  · exact keep b o (neL b o e) hb (neC b o e hx) (I.base.keep b o e n hb hx) (I.base.free b o e n hx)
  · obtain ⟨sl, e1⟩ := I.base.slot b o e n hb hx
    obtain ⟨sl', e2⟩ := slot b _ (neL b o e) hb (neC b o e hx) e1 (I.base.free b o e n hx)
    exact ⟨sl', e2⟩
  · obtain ⟨o', e1⟩ := I.base.there b o e hx
    exact free b o' (neC b o e hx) e1 (I.base.free b o e n hx)
  · obtain ⟨o', e1⟩ := I.base.there b o e hx
    exact there b o' (neC b o e hx) e1
  · obtain ⟨m1, e1⟩ := I.base.tbls b ps e
    obtain ⟨m2, e2⟩ := tbls b _ e1
    exact ⟨m1 ++ m2, by rw [e2, Array.append_assoc]⟩
  · obtain ⟨m, hn, hl⟩ := I.loc
    refine ⟨m, ns m hn, fun i x v e1 e2 e3 => ?_⟩
    obtain ⟨u, r, l⟩ := hl i x v e1 e2 e3
    refine ⟨u, r, ?_⟩
    rcases l with l | ⟨k, c, e, z⟩
    · exact .inl l
    · exact .inr ⟨k, c, e, cellK x c e _ z⟩
  · obtain ⟨v, z⟩ := I.cell x c e
    exact ⟨v, cellK x c e v z⟩
  · obtain ⟨m, ⟨o, _, _, ho, _⟩, _⟩ := I.loc
    exact free _ o (fun z => (hch _ z).2.1 rfl) ho I.free
  · obtain ⟨v, o, ho, hd⟩ := I.cell x c e
    exact free c o (fun z => (hch c z).2.2.1 x c e rfl) ho (I.freeC x c e)
  · obtain ⟨e, n, ne, nf, d⟩ := I.pin p hp
    have nch : p.1 ∉ ch := fun z => (hch p.1 z).2.2.2 p hp rfl
    exact ⟨keep p.1 p.2 ne nf nch e n, free p.1 p.2 nch e n, ne, nf, d⟩
theorem Inv.un {t' : Nat} (I : Inv X pins σ H s) (u : Un X.fs [] H H' s.heap h') (hok : HOk X.prog X.w H' h') : Inv X pins σ H' { s with heap := h', toks := t' } := by
  obtain ⟨m, ⟨o, es, ep, ho, r⟩, _⟩ := id I.loc
  obtain ⟨sl, hL⟩ := u.any ho I.free (by simp)
  exact I.step (g' := s.gens) (d' := s.drawn) (ch := []) (fun _ z => nomatch z) (fun b o _ hb _ e n => u.keep b o e n hb (by simp)) (fun b o _ hb _ e n => u.slot b o e n hb (by simp)) (fun b o _ e n => u.free b o e n (by simp)) (fun b o _ e => u.there b o e (by simp)) u.tups u.frzs u.tbls (fun m' hm => by
    obtain ⟨o', es', ep', ho', r'⟩ := hm
    rw [ho] at ho'; cases ho'
    exact ⟨_, es', ep', hL, r'⟩) hok I.bare
theorem Inv.call {g' : Array GenState} {t' : Nat} {d' : Drawn} {ch : List Addr} (I : Inv X pins σ H s) (u : Un (frs X.stack) ch H H' s.heap h') (hok : HOk X.prog X.w H' h') (hg : AllBare g')
    (hch : ∀ b ∈ ch, (b ∈ X.ex ∨ X.s₀.heap.objs.size ≤ b) ∧ b ≠ X.env.locals ∧ (∀ x c, X.env.cells.lookup x = some c → c ≠ b) ∧ ∀ p ∈ X.pn ++ pins, p.1 ≠ b) :
    Inv X pins σ H' { s with heap := h', gens := g', drawn := d', toks := t' } := by
  obtain ⟨m, ⟨o, es, ep, ho, r⟩, _⟩ := id I.loc
  obtain ⟨sl, hL⟩ := u.any ho I.free fun z => (hch _ z).2.1 rfl
  exact I.step (ch := ch) hch (fun b o hL hb hc e n => u.keep b o e n (fun z => (List.mem_cons.mp (I.stkSub b z)).elim hL hb) hc) (fun b o _ _ hc e n => u.any e n hc) (fun b o hc e n => u.free b o e n hc) (fun b o hc e => u.there b o e hc) u.tups u.frzs u.tbls (fun m' hm => by
    obtain ⟨o', es', ep', ho', r'⟩ := hm
    rw [ho] at ho'; cases ho'
    exact ⟨_, es', ep', hL, r'⟩) hok hg
theorem Inv.turned {t' : Nat} {it : Addr} (I : Inv X pins σ H s) (k : ∀ b o, b ≠ it → s.heap.get? b = some o → h'.get? b = some o) (hn : H it = none) (hL : it ≠ X.env.locals)
    (h1 : it ∈ X.ex ∨ X.s₀.heap.objs.size ≤ it) (h2 : ∀ x c, X.env.cells.lookup x = some c → c ≠ it) (h3 : ∀ p ∈ X.pn ++ pins, p.1 ≠ it) : Inv X pins σ H { s with heap := h', toks := t' } := by
  have nit : ∀ b u, H b = some u → b ≠ it := fun b u e z => by rw [z, hn] at e; cases e
  refine I.step (g' := s.gens) (d' := s.drawn) (ch := [it]) (fun b hb => ?_) (fun b o _ _ hc e _ => k b o (fun z => hc (by simp [z])) e) (fun b o _ _ hc e _ => ⟨o.slots, k b o (fun z => hc (by simp [z])) e⟩) (fun _ _ _ _ n => n)
    (fun b o hc e => ⟨o, k b o (fun z => hc (by simp [z])) e⟩) (fun _ _ e => e) (fun _ _ _ e => e) (fun b ps e => ⟨#[], by rw [e]; simp⟩) (fun m hm => ?_) (fun b u e => ?_) I.bare
  · have e : b = it := by simpa using hb
    subst e
    exact ⟨h1, hL, h2, h3⟩
  · obtain ⟨o, es, ep, ho, r⟩ := hm
    exact ⟨o, es, ep, k _ o (Ne.symm hL) ho, r⟩
  · refine (I.hok b u e).stay (fun c v hc q => k c v ?_ q) (fun _ q => q) fun _ _ q => q
    rcases hc with z | z
    · rw [z]; exact nit b u e
    · exact nit c _ z
theorem Inv.tok (I : Inv X pins σ H s) (t : Nat) : Inv X pins σ H { s with toks := t } := I.un (h' := s.heap) (t' := t) Un.refl I.hok
theorem Inv.kept {t' : Nat} (I : Inv X pins σ H s) (k : ∀ b u, s.heap.get? b = some u → h'.get? b = some u) : Inv X pins σ H { s with heap := h', toks := t' } := I.un (Un.kept k) (I.hok.kept k)
theorem Inv.laid {a : Addr} {o : HO} {t' : Nat} (I : Inv X pins σ H s) (k : ∀ b u, s.heap.get? b = some u → h'.get? b = some u) (hp : s.heap.objs.size ≤ a) (new : ObjOk X.prog X.w (upd H a o) h' a o) :
    Inv X pins σ (upd H a o) { s with heap := h', toks := t' } := I.un (Un.laid k hp (I.hok.fresh hp)) (I.hok.laid k hp new)
theorem Inv.write {x e : Addr} {o : HO} {t' : Nat} (I : Inv X pins σ H s) (mu : Mut (H x)) (he : e = x ∨ H e = some (.own x)) (k : ∀ b u, b ≠ e → s.heap.get? b = some u → h'.get? b = some u) (heo : ∃ u, h'.get? e = some u)
    (new : ObjOk X.prog X.w (upd H x o) h' x o) : Inv X pins σ (upd H x o) { s with heap := h', toks := t' } := I.un (Un.write mu he k heo) (I.hok.write mu he k heo new)
theorem Inv.pins_of {pins' : List (Addr × Obj)} (I : Inv X pins σ H s) (h : ∀ p ∈ pins', s.heap.get? p.1 = some p.2 ∧ H p.1 = none ∧ p.1 ≠ X.env.locals ∧ p.1 ∉ X.fs ∧ ∀ v, p.2.data ≠ .cell v) : Inv X pins' σ H s :=
  ⟨I.ok, I.os, I.bare, I.base, I.loc, I.cell, I.free, I.freeC, fun p hp => (List.mem_append.mp hp).elim (fun z => I.pin p (List.mem_append_left _ z)) (h p), I.hok, I.len⟩
theorem nodup_ix {N : List Str} (hN : N.Nodup) {i j : Nat} {x : Str} (a : N[i]? = some x) (b : N[j]? = some x) : i = j := by
  obtain ⟨h1, e1⟩ := List.getElem?_eq_some_iff.mp a
  obtain ⟨h2, e2⟩ := List.getElem?_eq_some_iff.mp b
  exact (List.getElem_inj hN).mp (e1.trans e2.symm)
theorem store_ok2 {M : Model} {A : Around} {E : Value → Shared → Prop} {i : Nat} {x : Str} {v : V} {u : Value} {Q : Unit → Shared → Prop} (I : Inv X pins σ H s) (hN : X.N.Nodup) (hi : X.N[i]? = some x) (hx : Loc X.env.scope x) (r : RelV v u)
    (h : ∀ s', Inv X pins (σ.set i (some v)) H s' → (∃ a, Heap.SameBut a s.heap s'.heap ∧ (a = X.env.locals ∨ X.env.cells.lookup x = some a)) → Q () s') (hf : X.fn x = true ∨ X.env.scope.names.lookup x = some .local := by first | exact .inl rfl | exact .inr rfl | assumption) : wpAny M A (storeName X.env x u) Q E s := by
  obtain ⟨m, hn, hl⟩ := id I.loc
  have hcls : (X.env.scope.kind == .class || (X.env.scope.kind == .module && X.env.locals != X.env.globals)) = false := by rw [I.ok.kind]; rfl
  have hiσ : i < σ.length := by rw [I.len]; exact (List.getElem?_eq_some_iff.mp hi).1
  have cne := I.cne
  have tracked : ∀ {a : Addr} {h' : Heap}, (∃ o, s.heap.get? a = some o ∧ H a = none) → Heap.SameBut a s.heap h' → HOk X.prog X.w H h' := fun {a h'} ha hs b ob e => by
    obtain ⟨_, _, hfree⟩ := ha
    refine (I.hok b ob e).stay (fun c w' hc q => (hs.2 c ?_).trans q) (fun _ q => q) fun _ _ q => q
    rintro rfl
    rcases hc with rfl | hc
    · rw [hfree] at e; cases e
    · rw [hfree] at hc; cases hc
  rcases hx with hk | hk
  · refine wpAny_storeName_local hk hn (fun h' hn' hs => ?_) hcls
    obtain ⟨oL, _, _, hoL, _⟩ := id hn
    refine h _ ⟨I.ok, I.os, I.bare, ⟨fun b o e n hb hx => ?_, fun b o e n hb hx => ?_, I.base.free, fun b o e hx => ?_, I.base.tups, I.base.frzs, I.base.tbls⟩, ⟨_, hn', fun j y v' e1 e2 e3 => ?_⟩, fun y c e => ?_, I.free, I.freeC, fun p hp => ?_, tracked ⟨oL, hoL, I.free⟩ hs, by simpa using I.len⟩ ⟨_, hs, .inl rfl⟩
    · exact (hs.2 b (Nat.ne_of_lt (Nat.lt_of_lt_of_le (Heap.lt_size e) I.ok.above))).trans (I.base.keep b o e n hb hx)
    · obtain ⟨sl, e1⟩ := I.base.slot b o e n hb hx
      exact ⟨sl, (hs.2 b (Nat.ne_of_lt (Nat.lt_of_lt_of_le (Heap.lt_size e) I.ok.above))).trans e1⟩
    · obtain ⟨o', e1⟩ := I.base.there b o e hx
      exact ⟨o', (hs.2 b (Nat.ne_of_lt (Nat.lt_of_lt_of_le (Heap.lt_size e) I.ok.above))).trans e1⟩
    · by_cases hj : j = i
      · subst hj
        rw [hi] at e1; cases e1
        rw [List.getElem?_set_self hiσ] at e2
        cases e2
        exact ⟨u, r, .inl ⟨hk, by simp⟩⟩
      · rw [List.getElem?_set_ne (Ne.symm hj)] at e2
        obtain ⟨u', r', q⟩ := hl j y v' e1 e2 e3
        refine ⟨u', r', ?_⟩
        rcases q with ⟨k, e⟩ | ⟨k, c, e, z⟩
        · refine .inl ⟨k, ?_⟩
          have : y ≠ x := fun e => hj (nodup_ix hN e1 (e ▸ hi))
          simp [this, e]
        · exact .inr ⟨k, c, e, z.sameBut hs (cne y c e)⟩
    · obtain ⟨w', z⟩ := I.cell y c e
      exact ⟨w', z.sameBut hs (cne y c e)⟩
    · obtain ⟨e, n, ne, nf, d⟩ := I.pin p hp
      exact ⟨(hs.2 p.1 ne).trans e, n, ne, nf, d⟩
  · have hfn : X.fn x = true := by
      rcases hf with z | z
      · exact z
      · rw [z] at hk; cases hk
    obtain ⟨c, hc⟩ := I.ok.has x (.inl hk)
    obtain ⟨w', z⟩ := I.cell x c hc
    refine wpAny_storeName_cell I.ok.kind hk hc z (fun h' hc' hs => ?_)
    obtain ⟨oc, hoc, hocd⟩ := id z
    refine h { s with heap := h' } ⟨I.ok, I.os, I.bare, ⟨fun b o e n hb hx => ?_, fun b o e n hb hx => ?_, I.base.free, fun b o e hx => ?_, I.base.tups, I.base.frzs, I.base.tbls⟩, ⟨m, hn.sameBut hs (Ne.symm (cne x c hc)), fun j y v' e1 e2 e3 => ?_⟩, fun y c' e => ?_, I.free, I.freeC, fun p hp => ?_, tracked ⟨oc, hoc, I.freeC x c hc⟩ hs, by simpa using I.len⟩ ⟨c, hs, .inr hc⟩
    · exact (hs.2 b (Nat.ne_of_lt (Nat.lt_of_lt_of_le (Heap.lt_size e) (I.ok.cab x c hfn hc)))).trans (I.base.keep b o e n hb hx)
    · obtain ⟨sl, e1⟩ := I.base.slot b o e n hb hx
      exact ⟨sl, (hs.2 b (Nat.ne_of_lt (Nat.lt_of_lt_of_le (Heap.lt_size e) (I.ok.cab x c hfn hc)))).trans e1⟩
    · obtain ⟨o', e1⟩ := I.base.there b o e hx
      exact ⟨o', (hs.2 b (Nat.ne_of_lt (Nat.lt_of_lt_of_le (Heap.lt_size e) (I.ok.cab x c hfn hc)))).trans e1⟩
    · by_cases hj : j = i
      · subst hj
        rw [hi] at e1; cases e1
        rw [List.getElem?_set_self hiσ] at e2
        cases e2
        exact ⟨u, r, .inr ⟨.inl hk, c, hc, hc'⟩⟩
      · rw [List.getElem?_set_ne (Ne.symm hj)] at e2
        obtain ⟨u', r', q⟩ := hl j y v' e1 e2 e3
        refine ⟨u', r', ?_⟩
        rcases q with q | ⟨k, c', e, z'⟩
        · exact .inl q
        · refine .inr ⟨k, c', e, z'.sameBut hs ?_⟩
          rintro rfl
          exact hj (nodup_ix hN e1 (I.ok.inj _ _ _ e hc ▸ hi))
    · by_cases hcc : c' = c
      · subst hcc; exact ⟨_, hc'⟩
      · obtain ⟨w2, z2⟩ := I.cell y c' e
        exact ⟨w2, z2.sameBut hs hcc⟩
    · obtain ⟨e, n, ne, nf, d⟩ := I.pin p hp
      refine ⟨(hs.2 p.1 ?_).trans e, n, ne, nf, d⟩
      intro q
      rw [q, hoc] at e
      have q' : oc = p.2 := Option.some.inj e
      exact d w' (by rw [← q']; exact hocd)
theorem store_ok {M : Model} {A : Around} {E : Value → Shared → Prop} {i : Nat} {x : Str} {v : V} {u : Value} {Q : Unit → Shared → Prop} (I : Inv X pins σ H s) (hN : X.N.Nodup) (hi : X.N[i]? = some x) (hx : Loc X.env.scope x) (r : RelV v u)
    (h : ∀ s', Inv X pins (σ.set i (some v)) H s' → Q () s') (hf : X.fn x = true ∨ X.env.scope.names.lookup x = some .local := by first | exact .inl rfl | exact .inr rfl | assumption) : wpAny M A (storeName X.env x u) Q E s :=
  store_ok2 I hN hi hx r (fun s' I' _ => h s' I') hf
theorem Inv.call' {s' : Shared} {ch : List Addr} (I : Inv X pins σ H s) (ho : s'.os = s.os) (u : Un (frs X.stack) ch H H' s.heap s'.heap) (hok : HOk X.prog X.w H' s'.heap) (hg : AllBare s'.gens)
    (hch : ∀ b ∈ ch, (b ∈ X.ex ∨ X.s₀.heap.objs.size ≤ b) ∧ b ≠ X.env.locals ∧ (∀ x c, X.env.cells.lookup x = some c → c ≠ b) ∧ ∀ p ∈ X.pn ++ pins, p.1 ≠ b) : Inv X pins σ H' s' := by
  obtain ⟨h', g', d', t', o'⟩ := s'
  have e : o' = s.os := ho
  subst e
  exact I.call (g' := g') (t' := t') (d' := d') u hok hg hch
end
abbrev XK := Value → Option Addr → Hp → Prop
abbrev St := List (Option V)
abbrev VK := V → Hp → Prop
abbrev TE := St → Hp → VK → Prop
abbrev TT := St → Hp → (Bool → Hp → Prop) → Prop
abbrev TA := St → Hp → (List V → Hp → Prop) → Prop
structure Ends where
  nx : St → Hp → Prop
  rt : VK
  bk : St → Hp → Prop := fun _ _ => False
  ct : St → Hp → Prop := fun _ _ => False
abbrev TS := Ends → St → Hp → Prop
def EP (X : Cx) (pins : List (Addr × Obj)) (σ : St) (Q : VK) (u : Value) (s' : Shared) : Prop := ∃ v H', Inv X pins σ H' s' ∧ RelV v u ∧ Q v H'
def TP (X : Cx) (pins : List (Addr × Obj)) (σ : St) (Q : Bool → Hp → Prop) (b : Bool) (s' : Shared) : Prop := ∃ H', Inv X pins σ H' s' ∧ Q b H'
def AP (X : Cx) (pins : List (Addr × Obj)) (σ : St) (Q : List V → Hp → Prop) (us : List Value) (s' : Shared) : Prop := ∃ vs H', Inv X pins σ H' s' ∧ Vals vs us ∧ Q vs H'
def SP (X : Cx) (pins : List (Addr × Obj)) (D : Ends) (f : Flow) (s' : Shared) : Prop :=
  match f with
  | .next => ∃ σ' H', Inv X pins σ' H' s' ∧ D.nx σ' H'
  | .brk => ∃ σ' H', Inv X pins σ' H' s' ∧ D.bk σ' H'
  | .cont => ∃ σ' H', Inv X pins σ' H' s' ∧ D.ct σ' H'
  | .ret u => ∃ v σ' H', Inv X pins σ' H' s' ∧ RelV v u ∧ D.rt v H'
def PE (X : Cx) (e : Expr) (t : TE) : Prop :=
  ∀ (pins : List (Addr × Obj)) (s : Shared) (σ : St) (H : Hp) (Q : VK), Inv X pins σ H s → t σ H Q → wpAny (model X.prog X.w) X.A (eval e X.env) (EP X pins σ Q) X.xe s
def PT (X : Cx) (e : Expr) (t : TT) : Prop :=
  ∀ (pins : List (Addr × Obj)) (s : Shared) (σ : St) (H : Hp) (Q : Bool → Hp → Prop), Inv X pins σ H s → t σ H Q → wpAny (model X.prog X.w) X.A (isTrue e X.env (eval e X.env)) (TP X pins σ Q) X.xe s
def PW (X : Cx) (e : Expr) (t : TT) : Prop :=
  ∀ (whole : Sem Value) (pins : List (Addr × Obj)) (s : Shared) (σ : St) (H : Hp) (Q : Bool → Hp → Prop), Inv X pins σ H s → t σ H Q → wpAny (model X.prog X.w) X.A (isTrue e X.env whole) (TP X pins σ Q) X.xe s
theorem PW.pt {X : Cx} {e : Expr} {t : TT} (h : PW X e t) : PT X e t := h _
def PA (X : Cx) (es : List Expr) (t : TA) : Prop :=
  ∀ (pos : Pos) (pins : List (Addr × Obj)) (s : Shared) (σ : St) (H : Hp) (Q : List V → Hp → Prop), Inv X pins σ H s → t σ H Q → wpAny (model X.prog X.w) X.A (spliced (backTo pos (starEach es X.env))) (AP X pins σ Q) X.xe s
def PS (X : Cx) (st : Stmt) (t : TS) : Prop :=
  ∀ (pins : List (Addr × Obj)) (s : Shared) (σ : St) (H : Hp) (D : Ends), Inv X pins σ H s → t D σ H → wpAny (model X.prog X.w) X.A (exec st X.env) (SP X pins D) X.xe s
def PSs (X : Cx) (st : List Stmt) (t : TS) : Prop :=
  ∀ (pins : List (Addr × Obj)) (s : Shared) (σ : St) (H : Hp) (D : Ends), Inv X pins σ H s → t D σ H → wpAny (model X.prog X.w) X.A (execs st X.env) (SP X pins D) X.xe s
theorem thn {α : Type} {t : Sem α} {Q Q' : α → Shared → Prop} {M : Model} {A : Around} {E : Value → Shared → Prop} {s : Shared} (h : wpAny M A t Q E s) (hQ : ∀ a s, Q a s → Q' a s) : wpAny M A t Q' E s := wpAny_mono h hQ fun _ _ x => x
end L2
namespace L2
open PySem PySem.Spec PyProof.Rows
section
variable {X : Cx}
theorem bin {a b : Expr} {ta tb : TE} (ha : PE X a ta) (hb : PE X b tb) {pins : List (Addr × Obj)} {s : Shared} {σ : St} {H : Hp} {R : V → V → Hp → Prop} (I : Inv X pins σ H s) (h : ta σ H fun x H1 => tb σ H1 fun y H2 => R x y H2)
    {α : Type} {Q : α → Shared → Prop} {f : Value → Value → Sem α}
    (hf : ∀ v u s2 x y H2, Inv X pins σ H2 s2 → RelV x v → RelV y u → R x y H2 → wpAny (model X.prog X.w) X.A (f v u) Q X.xe s2) :
    wpAny (model X.prog X.w) X.A (eval a X.env) (fun v s₁ => wpAny (model X.prog X.w) X.A (eval b X.env) (fun u s₂ => wpAny (model X.prog X.w) X.A (f v u) Q X.xe s₂) X.xe s₁) X.xe s := by
  refine thn (ha pins s σ H _ I h) fun v s1 ⟨x, H1, I1, r1, q1⟩ => ?_
  refine thn (hb pins s1 σ H1 _ I1 q1) fun u s2 ⟨y, H2, I2, r2, q2⟩ => ?_
  exact hf v u s2 x y H2 I2 r1 r2 q2
def tVar (i : Nat) : TE := fun σ H Q => ∃ v, σ[i]? = some (some v) ∧ Q v H
def tC (v : V) : TE := fun _ H Q => Q v H
theorem pe_var {i : Nat} {x : Str} {pos : Pos} (hN : X.N[i]? = some x) (hv : Vis X.env.scope x) (hd : (x == ("__debug__" : Str)) = false := by decide) (hcd : (x == ("__classdict__" : Str)) = false := by decide) : PE X (.Name x pos) (tVar i) := by
  intro pins s σ H Q I h
  obtain ⟨v, e, h⟩ := h
  obtain ⟨m, hn, hl⟩ := I.loc
  obtain ⟨u, r, l⟩ := hl i x v hN e hv
  have fin : EP X pins σ Q u s := ⟨v, H, I, r, h⟩
  rcases l with ⟨hk, hm⟩ | ⟨hk, c, hc, hcell⟩
  · exact wpAny_Name (wpAny_loadName_local I.ok.kind hk hn hm fin) hd
  · rcases hk with hk | hk
    · exact wpAny_Name (wpAny_loadName_cell I.ok.kind hk hc hcell fin) hd
    · exact wpAny_Name (wpAny_loadName_free I.ok.kind hk hc hcell fin hcd) hd
theorem pe_int {i j pos} : PE X (.Constant (.int i) j pos) (tC (.int i)) := fun _ _ _ H _ I h => wpAny_Constant_int ⟨.int i, H, I.tok _, ⟨_, rfl⟩, h⟩
theorem pe_bl {b j pos} : PE X (.Constant (.bool b) j pos) (tC (.bl b)) := fun _ _ _ H _ I h => Constant_bool ⟨.bl b, H, I, rfl, h⟩
theorem pe_non {j pos} : PE X (.Constant .none j pos) (tC .non) := fun _ _ _ H _ I h => Constant_none ⟨.non, H, I, rfl, h⟩
def Gl (X : Cx) (x : Str) : Prop := X.env.kindOf x = some .globalImplicit
theorem ld_glob {E : Value → Shared → Prop} {pins : List (Addr × Obj)} {s : Shared} {σ : St} {H : Hp} {x : Str} {u : Value} {pos : Pos} {Q : Value → Shared → Prop} (I : Inv X pins σ H s) (hg : Gl X x) (hm : X.mg x = some u) (h : Q u s)
    (hd : (x == ("__debug__" : Str)) = false := by decide) : wpAny (model X.prog X.w) X.A (eval (.Name x pos) X.env) Q E s :=
  Calls.Name_function_global I.ok.kind hg (Calls.loadGlobal_global (by rw [I.ok.glob]; exact I.mod.glob.keeps I.bk) hm h) hd
theorem ld_blt {E : Value → Shared → Prop} {pins : List (Addr × Obj)} {s : Shared} {σ : St} {H : Hp} {x : Str} {u : Value} {pos : Pos} {Q : Value → Shared → Prop} (I : Inv X pins σ H s) (hg : Gl X x) (hm : X.mg x = none) (hv : bootBuiltins x = some u) (h : Q u s)
    (hn : x ≠ "__name__" := by decide) (hd : (x == ("__debug__" : Str)) = false := by decide) : wpAny (model X.prog X.w) X.A (eval (.Name x pos) X.env) Q E s := by
  obtain ⟨mb, h1, h2⟩ := I.mod.blt
  exact Calls.Name_function_global I.ok.kind hg (Calls.loadGlobal_builtin (by rw [I.ok.glob]; exact I.mod.glob.keeps I.bk) hm (by rw [I.ok.blt]; exact h1.keeps I.bk) ((h2 x hn).trans hv) h) hd
theorem pe_glob {x : Str} {v : V} {u : Value} {pos : Pos} (hg : Gl X x) (hm : X.mg x = some u) (r : RelV v u) (hd : (x == ("__debug__" : Str)) = false := by decide) : PE X (.Name x pos) (tC v) :=
  fun _ _ _ H _ I h => ld_glob I hg hm ⟨v, H, I, r, h⟩ hd
variable {a b : Expr} {ta tb : TE} {pos : Pos}
def PC (X : Cx) (op : CmpOp) (a b : Expr) (t : TE) : Prop :=
  ∀ (pins : List (Addr × Obj)) (s : Shared) (σ : St) (H : Hp) (Q : VK), Inv X pins σ H s → t σ H Q →
    wpAny (model X.prog X.w) X.A (eval a X.env) (fun v s₁ => wpAny (model X.prog X.w) X.A (eval b X.env) (fun u s₂ => wpAny (model X.prog X.w) X.A (compareOp op v u) (EP X pins σ Q) X.xe s₂) X.xe s₁) X.xe s
theorem nobehind (b : Expr) {op : CmpOp} (h : op ≠ .In) (h2 : op ≠ .NotIn) : behindInMarks op b = false := by
  have e1 : (op == CmpOp.In) = false := by cases op <;> first | rfl | exact absurd rfl h
  have e2 : (op == CmpOp.NotIn) = false := by cases op <;> first | rfl | exact absurd rfl h2
  cases b <;> simp [behindInMarks, e1, e2]
def tB (t : TE) : TT := fun σ H Q => t σ H fun x H1 => ∃ c, x = .bl c ∧ Q c H1
theorem pt_cmp {op : CmpOp} {t : TE} (h : PC X op a b t) (h1 : behindInMarks op b = false := by first | exact nobehind _ (by decide) (by decide) | rfl) : PT X (.Compare a [op] [b] pos) (tB t) := by
  intro pins s σ H Q I hw
  refine wpAny_isTrue_Compare1 (thn (h pins s σ H _ I hw) fun v s1 h1 => thn h1 fun u s2 h2 => thn h2 fun c s3 ⟨x, H1, I1, r1, q1⟩ => ?_) h1
  obtain ⟨d, rfl, q⟩ := q1
  cases r1
  exact wpAny_truthy_bool ⟨H1, I1, q⟩
theorem pt_val {e : Expr} {t : TE} (h : PE X e t) (he : ∀ whole, isTrue e X.env whole = (do let v ← whole; standAt e.pos; holding [v] (truthy v)) := by intro _; rfl) : PT X e (tB t) := by
  intro pins s σ H Q I hw
  refine isTrue_plain (thn (h pins s σ H _ I hw) fun v s1 ⟨x, H1, I1, r1, q1⟩ => ?_) (he _)
  obtain ⟨d, rfl, q⟩ := q1
  cases r1
  exact wpAny_truthy_bool ⟨H1, I1, q⟩
variable {tA tB' : TT} {rest : List Expr}
def tAnd (t u : TT) : TT := fun σ H Q => t σ H fun c H1 => if c = true then u σ H1 Q else Q false H1
def tOr (t u : TT) : TT := fun σ H Q => t σ H fun c H1 => if c = true then Q true H1 else u σ H1 Q
def tNot (t : TT) : TT := fun σ H Q => t σ H fun c H1 => Q (!c) H1
theorem pw_and1 (ha : PT X a tA) : PW X (.BoolOp .And [a] pos) tA := by
  intro wh pins s σ H Q I h
  refine isTrue_and (thn (ha pins s σ H Q I h) fun c s1 e => ?_)
  cases c with
  | true => exact isTrue_and_nil e
  | false => exact e
theorem pw_or1 (ha : PT X a tA) : PW X (.BoolOp .Or [a] pos) tA := by
  intro wh pins s σ H Q I h
  refine isTrue_or (thn (ha pins s σ H Q I h) fun c s1 e => ?_)
  cases c with
  | false => exact isTrue_or_nil e
  | true => exact e
theorem pw_and (ha : PT X a tA) (hb : PW X (.BoolOp .And (b :: rest) pos) tB') : PW X (.BoolOp .And (a :: b :: rest) pos) (tAnd tA tB') := by
  intro wh pins s σ H Q I h
  refine isTrue_and (thn (ha pins s σ H _ I h) fun c s1 ⟨H1, I1, q1⟩ => ?_)
  cases c with
  | true => exact hb wh pins s1 σ H1 Q I1 q1
  | false => exact ⟨H1, I1, q1⟩
theorem pw_or (ha : PT X a tA) (hb : PW X (.BoolOp .Or (b :: rest) pos) tB') : PW X (.BoolOp .Or (a :: b :: rest) pos) (tOr tA tB') := by
  intro wh pins s σ H Q I h
  refine isTrue_or (thn (ha pins s σ H _ I h) fun c s1 ⟨H1, I1, q1⟩ => ?_)
  cases c with
  | true => exact ⟨H1, I1, q1⟩
  | false => exact hb wh pins s1 σ H1 Q I1 q1
theorem pt_not (ha : PT X a tA) : PT X (.UnaryOp .Not a pos) (tNot tA) := by
  intro pins s σ H Q I h
  exact isTrue_not (ha pins s σ H (fun c H1 => Q (!c) H1) I h)
def tAndV (ta tb : TE) : TE := fun σ H Q => ta σ H fun x H1 => ∃ c, x = .bl c ∧ if c = true then tb σ H1 Q else Q (.bl false) H1
theorem pe_one {op} {t : TE} (h : PE X a t) : PE X (.BoolOp op [a] pos) t := fun pins s σ H Q I hw => BoolOp_one (h pins s σ H Q I hw)
theorem pe_and (ha : PE X a ta) (hb : PE X (.BoolOp .And (b :: rest) pos) tb) : PE X (.BoolOp .And (a :: b :: rest) pos) (tAndV ta tb) := by
  intro pins s σ H Q I h
  refine BoolOp_and (thn (ha pins s σ H _ I h) fun v s1 ⟨x, H1, I1, r1, q1⟩ => ?_)
  obtain ⟨c, rfl, q1⟩ := q1
  cases r1
  refine wpAny_truthy_bool ?_
  cases c with
  | true => exact hb pins s1 σ H1 Q I1 q1
  | false => exact ⟨.bl false, H1, I1, rfl, q1⟩
def tIf (t : TT) (ta tb : TE) : TE := fun σ H Q => t σ H fun c H1 => if c = true then ta σ H1 Q else tb σ H1 Q
theorem pe_ifExp {c : Expr} (hc : PT X c tA) (ha : PE X a ta) (hb : PE X b tb) : PE X (.IfExp c a b pos) (tIf tA ta tb) := by
  intro pins s σ H Q I h
  refine wpAny_IfExp (thn (hc pins s σ H _ I h) fun d s1 ⟨H1, I1, q1⟩ => ?_)
  cases d with
  | true => exact ha pins s1 σ H1 Q I1 q1
  | false => exact hb pins s1 σ H1 Q I1 q1
end
end L2
namespace L2
open PySem PySem.Spec PyProof.Rows
def SqL (K : PySem.W.Frag) (H : Hp) (a : Addr) (xs : List V) : Prop :=
  Rd H a (.lst xs) ∨
    ∃ (o : Obj) (its : Array Value) (n : Nat), K.lookup a = some o ∧ o.cls = .type "list" ∧ o.dict = none ∧ o.data = .seq its n ∧ its.size ≤ sizeLine ∧ Vals xs its.toList
def SqT (K : PySem.W.Frag) (H : Hp) (a : Addr) (xs : List V) : Prop :=
  Rd H a (.tup xs) ∨
    ∃ (o : Obj) (its : Array Value) (n : Nat), K.lookup a = some o ∧ o.cls = .type "tuple" ∧ o.data = .seq its n ∧ its.size ≤ sizeLine ∧ Vals xs its.toList
def absV : Value → Option V
  | .none => some .non
  | .bool b => some (.bl b)
  | .int i _ => some (.int i)
  | .str x _ => some (.str x)
  | .bytes b _ => some (.byt b)
  | .float b _ => some (.flt b)
  | .ref a => some (.ref a)
  | .type n => some (.ty n)
  | _ => none
theorem RelV.abs {x : V} {u : Value} (r : RelV x u) : absV u = some x := by
  cases x with
  | non => cases r; rfl
  | bl _ => cases r; rfl
  | int _ => obtain ⟨t, rfl⟩ := r; rfl
  | str _ => obtain ⟨t, rfl⟩ := r; rfl
  | byt _ => obtain ⟨t, rfl⟩ := r; rfl
  | flt _ => obtain ⟨t, rfl⟩ := r; rfl
  | ref _ => cases r; rfl
  | ty _ => cases r; rfl
theorem RelV.inj {x y : V} {u : Value} (r : RelV x u) (q : RelV y u) : x = y := Option.some.inj (r.abs.symm.trans q.abs)
theorem Vals.inj : ∀ {xs ys : List V} {us : List Value}, Vals xs us → Vals ys us → xs = ys
  | _, _, _, .nil, .nil => rfl
  | _, _, _, .cons r t, .cons r' t' => by rw [r.inj r', Vals.inj t t']
section
variable {X : Cx} {pins : List (Addr × Obj)} {σ : St} {H : Hp} {s : Shared} {a : Addr} {xs ys : List V}
theorem SqL.of {K : PySem.W.Frag} (h : H a = some (.lst xs)) : SqL K H a xs := .inl (.inl h)
theorem SqT.of {K : PySem.W.Frag} (h : H a = some (.tup xs)) : SqT K H a xs := .inl (.inl h)
theorem Inv.list (I : Inv X pins σ H s) (h : SqL X.K H a xs) : ∃ its : List Value, Vals xs its ∧ PlainL s.heap a its.toArray ∧ xs.length ≤ sizeLine := by
  rcases h with h | ⟨o, its, n, hk, hc, hd, hs, hz, r⟩
  · obtain ⟨z, its, n, r, e⟩ := h.ok I.hok
    exact ⟨its, r, ⟨_, n, e, rfl, rfl, rfl⟩, z⟩
  · refine ⟨its.toList, r, ⟨o, n, I.kIn a o hk, hc, hd, by simpa using hs⟩, ?_⟩
    have e := r.length
    simp only [Array.length_toList] at e
    omega
theorem Inv.tuple (I : Inv X pins σ H s) (h : SqT X.K H a xs) : ∃ its : List Value, Vals xs its ∧ IsTup s.heap a its.toArray ∧ xs.length ≤ sizeLine := by
  rcases h with h | ⟨o, its, n, hk, hc, hs, hz, r⟩
  · obtain ⟨z, its, r, p⟩ := h.ok I.hok
    exact ⟨its, r, p, z⟩
  · refine ⟨its.toList, r, ⟨o, I.kIn a o hk, hc, n, by simpa using hs⟩, ?_⟩
    have e := r.length
    simp only [Array.length_toList] at e
    omega
theorem Inv.list_inj (I : Inv X pins σ H s) (h : SqL X.K H a xs) (h' : SqL X.K H a ys) : xs = ys := by
  obtain ⟨its, r, ⟨o, n, e, _, _, d⟩, _⟩ := I.list h
  obtain ⟨its', r', ⟨o', n', e', _, _, d'⟩, _⟩ := I.list h'
  rw [e] at e'; cases e'
  rw [d] at d'
  injection d' with d1 _
  have : its = its' := by simpa using congrArg Array.toList d1
  subst this
  exact r.inj r'
theorem Inv.tuple_inj (I : Inv X pins σ H s) (h : SqT X.K H a xs) (h' : SqT X.K H a ys) : xs = ys := by
  obtain ⟨its, r, ⟨o, e, _, n, d⟩, _⟩ := I.tuple h
  obtain ⟨its', r', ⟨o', e', _, n', d'⟩, _⟩ := I.tuple h'
  rw [e] at e'; cases e'
  rw [d] at d'
  injection d' with d1 _
  have : its = its' := by simpa using congrArg Array.toList d1
  subst this
  exact r.inj r'
end
abbrev Cx.wish (X : Cx) (E : Value → Shared → Prop) : Cx := { X with xe := E }
abbrev Cx.nox (X : Cx) : Cx := X.wish fun _ _ => False
theorem Cx.Ok.wish {X : Cx} (ok : X.Ok) (E : Value → Shared → Prop) : (X.wish E).Ok :=
  ⟨ok.mod, ok.kind, ok.glob, ok.blt, ok.above, ok.inj, ok.has, ok.cab, ok.hd, ok.frames, ok.stk, ok.exf, ok.bs, ok.bsz, ok.noex, ok.exfs, ok.funs, ok.frf⟩
theorem Cx.Ok.unwish {X : Cx} {E : Value → Shared → Prop} (ok : (X.wish E).Ok) : X.Ok :=
  ⟨ok.mod, ok.kind, ok.glob, ok.blt, ok.above, ok.inj, ok.has, ok.cab, ok.hd, ok.frames, ok.stk, ok.exf, ok.bs, ok.bsz, ok.noex, ok.exfs, ok.funs, ok.frf⟩
section
variable {X : Cx} {pins : List (Addr × Obj)} {σ : St} {H : Hp} {s : Shared} {E : Value → Shared → Prop}
theorem Inv.wish (I : Inv X pins σ H s) (E : Value → Shared → Prop) : Inv (X.wish E) pins σ H s := ⟨I.ok.wish E, I.os, I.bare, I.base, I.loc, I.cell, I.free, I.freeC, I.pin, I.hok, I.len⟩
theorem Inv.unwish (I : Inv (X.wish E) pins σ H s) : Inv X pins σ H s := ⟨I.ok.unwish, I.os, I.bare, I.base, I.loc, I.cell, I.free, I.freeC, I.pin, I.hok, I.len⟩
theorem SP.unwish {D : Ends} {f : Flow} {s' : Shared} (h : SP (X.wish E) pins D f s') : SP X pins D f s' := by
  cases f with
  | next => obtain ⟨σ', H', I, q⟩ := h; exact ⟨σ', H', I.unwish, q⟩
  | brk => obtain ⟨σ', H', I, q⟩ := h; exact ⟨σ', H', I.unwish, q⟩
  | cont => obtain ⟨σ', H', I, q⟩ := h; exact ⟨σ', H', I.unwish, q⟩
  | ret u => obtain ⟨v, σ', H', I, r, q⟩ := h; exact ⟨v, σ', H', I.unwish, r, q⟩
theorem PE.nox {e : Expr} {t : TE} (h : PE X.nox e t) : PE X e t := fun pins s σ H Q I hw =>
  wpAny_mono (h pins s σ H Q (I.wish _) hw) (fun _ _ ⟨v, H', I', r, q⟩ => ⟨v, H', I'.unwish, r, q⟩) fun _ _ z => False.elim z
theorem PT.nox {e : Expr} {t : TT} (h : PT X.nox e t) : PT X e t := fun pins s σ H Q I hw =>
  wpAny_mono (h pins s σ H Q (I.wish _) hw) (fun _ _ ⟨H', I', q⟩ => ⟨H', I'.unwish, q⟩) fun _ _ z => False.elim z
theorem PSs.nox {st : List Stmt} {t : TS} (h : PSs X.nox st t) : PSs X st t := fun pins s σ H D I hw =>
  wpAny_mono (h pins s σ H D (I.wish _) hw) (fun _ _ q => q.unwish) fun _ _ z => False.elim z
end
section
variable {X : Cx} {st : Stmt} {rest : List Stmt} {t u : TS} {e : Expr} {te : TE} {pos : Pos}
def tNext : TS := fun D σ H => D.nx σ H
def tSeq (t u : TS) : TS := fun D σ H => t { D with nx := u D } σ H
theorem pss_nil : PSs X [] tNext := fun _ _ σ H _ I h => wpAny_execs_nil ⟨σ, H, I, h⟩
theorem pss_cons (h1 : PS X st t) (h2 : PSs X rest u) : PSs X (st :: rest) (tSeq t u) := by
  intro pins s σ H D I h
  refine wpAny_execs_cons (thn (h1 pins s σ H { D with nx := u D } I h) fun f s1 q => ?_)
  cases f with
  | next =>
    obtain ⟨σ', H', I', q⟩ := q
    exact h2 pins s1 σ' H' D I' q
  | ret v => exact q
  | brk => exact q
  | cont => exact q
theorem pss_one (h1 : PS X st t) : PSs X [st] t := by
  intro pins s σ H D I h
  refine wpAny_execs_cons (thn (h1 pins s σ H D I h) fun f s1 q => ?_)
  cases f with
  | next => exact wpAny_execs_nil q
  | ret v => exact q
  | brk => exact q
  | cont => exact q
theorem Inv.quiet {pins : List (Addr × Obj)} {σ : St} {H : Hp} {s : Shared} (I : Inv X pins σ H s) : interactive X.env = false := by simp [interactive, I.ok.kind]
def tDrop (te : TE) : TS := fun D σ H => te σ H fun _ H1 => D.nx σ H1
theorem ps_expr (he : PE X e te) (hs : swapsWith e none pos.line X.env = pure false := by rfl) : PS X (.Expr e pos) (tDrop te) := by
  intro pins s σ H D I h
  exact wpAny_Expr_any (thn (he pins s σ H _ I h) fun v s1 ⟨x, H1, I1, r1, q1⟩ => ⟨σ, H1, I1, q1⟩) I.quiet hs
def tRet (te : TE) : TS := fun D σ H => te σ H D.rt
theorem ps_ret (he : PE X e te) : PS X (.Return (some e) pos) (tRet te) := by
  intro pins s σ H D I h
  exact wpAny_Return_some (thn (he pins s σ H _ I h) fun v s1 ⟨x, H1, I1, r1, q1⟩ => ⟨x, σ, H1, I1, r1, q1⟩)
def tIfS (c : TT) (t u : TS) : TS := fun D σ H => c σ H fun b H1 => if b = true then t D σ H1 else u D σ H1
theorem ps_if {c : Expr} {a b : List Stmt} {tc : TT} (hc : PT X c tc) (ha : PSs X a t) (hb : PSs X b u) : PS X (.If c a b pos) (tIfS tc t u) := by
  intro pins s σ H D I h
  refine wpAny_If (thn (hc pins s σ H _ I h) fun d s1 ⟨H1, I1, q1⟩ => ?_)
  cases d with
  | true => exact ha pins s1 σ H1 D I1 q1
  | false => exact hb pins s1 σ H1 D I1 q1
def tNever : TS := fun _ _ _ => False
theorem ps_never : PS X st tNever := fun _ _ _ _ _ _ h => h.elim
end
abbrev TG := V → St → Hp → (St → Hp → Prop) → Prop
abbrev TGs := List V → St → Hp → (St → Hp → Prop) → Prop
def PG (X : Cx) (target : Expr) (t : TG) : Prop :=
  ∀ (pins : List (Addr × Obj)) (s : Shared) (σ : St) (H : Hp) (v : V) (u : Value) (Q : St → Hp → Prop), Inv X pins σ H s → RelV v u → t v σ H Q →
    wpAny (model X.prog X.w) X.A (assign target X.env u) (fun _ s' => ∃ σ' H', Inv X pins σ' H' s' ∧ Q σ' H') X.xe s
def PGs (X : Cx) (ts : List Expr) (t : TGs) : Prop :=
  ∀ (pins : List (Addr × Obj)) (s : Shared) (σ : St) (H : Hp) (vs : List V) (us : List Value) (Q : St → Hp → Prop), Inv X pins σ H s → Vals vs us → t vs σ H Q →
    wpAny (model X.prog X.w) X.A (assignInOrder ((assignEach ts X.env).map (·.2)) us) (fun _ s' => ∃ σ' H', Inv X pins σ' H' s' ∧ Q σ' H') X.xe s
abbrev TSet := V → V → V → Hp → (Hp → Prop) → Prop
def PSet (X : Cx) (t : TSet) : Prop :=
  ∀ (pins : List (Addr × Obj)) (s : Shared) (σ : St) (H : Hp) (o i v : V) (ov iv u : Value) (Q : Hp → Prop), Inv X pins σ H s → RelV o ov → RelV i iv → RelV v u → t o i v H Q →
    wpAny (model X.prog X.w) X.A (setItem ov iv u) (fun _ s' => ∃ H', Inv X pins σ H' s' ∧ Q H') X.xe s
abbrev TIp := V → V → Hp → VK → Prop
def PIp (X : Cx) (op : Operator) (t : TIp) : Prop :=
  ∀ (pins : List (Addr × Obj)) (s : Shared) (σ : St) (H : Hp) (x y : V) (v u : Value) (Q : VK), Inv X pins σ H s → RelV x v → RelV y u → t x y H Q →
    wpAny (model X.prog X.w) X.A (inplaceOp op v u) (EP X pins σ Q) X.xe s
section
variable {X : Cx} {pos : Pos}
def gName (i : Nat) : TG := fun v σ H Q => Q (σ.set i (some v)) H
theorem pg_name {i : Nat} {x : Str} (hN : X.N.Nodup) (hi : X.N[i]? = some x) (hx : Loc X.env.scope x) (hf : X.fn x = true ∨ X.env.scope.names.lookup x = some .local := by first | exact .inl rfl | exact .inr rfl | assumption) : PG X (.Name x pos) (gName i) := by
  intro pins s σ H v u Q I r h
  exact wpAny_assign_Name (store_ok I hN hi hx r (fun s' I' => ⟨_, H, I', h⟩) hf)
def gNil : TGs := fun vs σ H Q => vs = [] ∧ Q σ H
def gCons (t : TG) (u : TGs) : TGs := fun vs σ H Q => ∃ v r, vs = v :: r ∧ t v σ H fun σ' H' => u r σ' H' Q
theorem pgs_nil : PGs X [] gNil := by
  intro pins s σ H vs us Q I r h
  obtain ⟨e, h⟩ := h
  subst e
  cases r
  exact assignInOrder_nil ⟨σ, H, I, h⟩
theorem pgs_cons {e : Expr} {es : List Expr} {t : TG} {u : TGs} (h1 : PG X e t) (h2 : PGs X es u)
    (hs : (assignEach (e :: es) X.env).map (·.2) = assign e X.env :: (assignEach es X.env).map (·.2) := by rfl) : PGs X (e :: es) (gCons t u) := by
  intro pins s σ H vs us Q I r h
  obtain ⟨v, vr, e1, h⟩ := h
  subst e1
  cases r with
  | cons r rr =>
    rw [hs]
    refine assignInOrder_cons (thn (h1 pins s σ H _ _ _ I r h) fun _ s1 ⟨σ1, H1, I1, q1⟩ => ?_)
    exact h2 pins s1 σ1 H1 _ _ Q I1 rr q1
def gTup (K : PySem.W.Frag) (n : Nat) (t : TGs) : TG := fun v σ H Q => ∃ a xs, v = .ref a ∧ SqT K H a xs ∧ xs.length = n ∧ t xs σ H Q
theorem pg_tup {es : List Expr} {k : Nat} {t : TGs} {n : Nat} (hc : X.calm = true) (h : PGs X es t)
    (hn : (assignEach es X.env).length = n := by rfl) (hst : (assignEach es X.env).findIdx? (·.1) = none := by rfl) : PG X (.Tuple es k pos) (gTup X.K n t) := by
  intro pins s σ H v u Q I r hw
  obtain ⟨a, xs, e1, hq, hl, hw⟩ := hw
  subst e1
  cases r
  obtain ⟨its, rv, ht, hz⟩ := I.tuple hq
  refine assign_Tuple_tuple (I.ok.hd hc) ht (by simp [hn, ← hl, rv.length]) hst fun h' hx => ?_
  have I1 : Inv X pins σ H { s with heap := h' } := I.kept (t' := s.toks) fun b o e => hx b o (Nat.ne_of_lt (Heap.lt_size e)) e
  exact h pins _ σ H xs _ Q I1 (by simpa using rv) hw
def gSub (to ti : TE) (t : TSet) : TG := fun v σ H Q => to σ H fun o H1 => ti σ H1 fun i H2 => t o i v H2 fun H3 => Q σ H3
theorem pg_sub {o i : Expr} {to ti : TE} {t : TSet} (ho : PE X o to) (hi : PE X i ti) (hs : PSet X t)
    (ha : ∀ v, assign (.Subscript o i pos) X.env v = (do
      let ov ← holding [v] (eval o X.env)
      let iv ← holding [v, ov] (eval i X.env)
      standAt pos
      holding [v, ov, iv] (setItem ov iv v)
      release [v, ov, iv] []) := by intro _; rfl) : PG X (.Subscript o i pos) (gSub to ti t) := by
  intro pins s σ H v u Q I r h
  rw [ha]
  refine wpAny_bind (wpAny_holding (thn (ho pins s σ H _ I h) fun ov s1 ⟨x, H1, I1, r1, q1⟩ => ?_))
  refine wpAny_bind (wpAny_holding (thn (hi pins s1 σ H1 _ I1 q1) fun iv s2 ⟨y, H2, I2, r2, q2⟩ => ?_))
  refine wpAny_bind (wpAny_standAt (wpAny_bind (wpAny_holding (thn (hs pins s2 σ H2 x y v ov iv u _ I2 r1 r2 r q2) fun _ s3 ⟨H3, I3, q3⟩ => ?_))))
  exact wpAny_release ⟨σ, H3, I3, q3⟩
def tAsg (te : TE) (g : TG) : TS := fun D σ H => te σ H fun x H1 => g x σ H1 D.nx
theorem ps_asg {tg e : Expr} {te : TE} {g : TG} (he : PE X e te) (hg : PG X tg g) (hs : swapsWithSole [tg] e pos.line X.env = pure false := by rfl) (hw : swappedStores [tg] e X.env = pure none := by rfl)
    (h1 : (assignEach [tg] X.env).map (·.2) = [assign tg X.env] := by rfl) : PS X (.Assign [tg] e pos) (tAsg te g) := by
  intro pins s σ H D I h
  refine wpAny_Assign_stores (thn (he pins s σ H _ I h) fun v s1 ⟨x, H1, I1, r1, q1⟩ => ?_) hs hw
  rw [h1]
  exact thn (hg pins s1 σ H1 x v _ I1 r1 q1) fun _ s2 q => q
theorem ps_set {i : Nat} {x : Str} {e : Expr} {te : TE} {pos' : Pos} (hN : X.N.Nodup) (hi : X.N[i]? = some x) (hx : Loc X.env.scope x) (he : PE X e te) (hs : swapsWith e (some (.Name x pos')) pos.line X.env = pure false := by rfl) (hf : X.fn x = true ∨ X.env.scope.names.lookup x = some .local := by first | exact .inl rfl | exact .inr rfl | assumption) :
    PS X (.Assign [.Name x pos'] e pos) (tAsg te (gName i)) := by
  intro pins s σ H D I h
  refine wpAny_Assign_Name (thn (he pins s σ H _ I h) fun v s1 ⟨y, H1, I1, r1, q1⟩ => ?_) hs
  exact store_ok I1 hN hi hx r1 (fun s2 I2 => ⟨_, H1, I2, q1⟩) hf
def tAug (i : Nat) (te : TE) (ti : TIp) : TS := fun D σ H => ∃ x, σ[i]? = some (some x) ∧ te σ H fun y H1 => ti x y H1 fun z H2 => D.nx (σ.set i (some z)) H2
theorem ps_aug {i : Nat} {x : Str} {e : Expr} {te : TE} {op : Operator} {ti : TIp} {pos' : Pos} (hN : X.N.Nodup) (hi : X.N[i]? = some x) (hx : Loc X.env.scope x) (he : PE X e te) (ho : PIp X op ti) (hf : X.fn x = true ∨ X.env.scope.names.lookup x = some .local := by first | exact .inl rfl | exact .inr rfl | assumption) :
    PS X (.AugAssign (.Name x pos') op e pos) (tAug i te ti) := by
  intro pins s σ H D I h
  obtain ⟨v, e1, h⟩ := h
  obtain ⟨m, hn, hl⟩ := I.loc
  have vis : Vis X.env.scope x := by rcases hx with k | k; exact .inl k; exact .inr (.inl k)
  obtain ⟨u, r, l⟩ := hl i x v hi e1 vis
  refine wpAny_AugAssign_Name ?_
  have go : wpAny (model X.prog X.w) X.A (eval e X.env) (fun w s₂ => wpAny (model X.prog X.w) X.A (inplaceOp op u w) (fun r s₃ => wpAny (model X.prog X.w) X.A (storeName X.env x r) (fun _ => SP X pins D .next) X.xe s₃) X.xe s₂) X.xe s := by
    refine thn (he pins s σ H _ I h) fun w s1 ⟨y, H1, I1, r1, q1⟩ => ?_
    refine thn (ho pins s1 σ H1 v y u w _ I1 r r1 q1) fun z s2 ⟨zv, H2, I2, r2, q2⟩ => ?_
    exact store_ok I2 hN hi hx r2 (fun s3 I3 => ⟨_, H2, I3, q2⟩) hf
  rcases l with ⟨hk, hm⟩ | ⟨hk, c, hc, hcell⟩
  · exact wpAny_loadName_local I.ok.kind hk hn hm go
  · rcases hk with hk | hk
    · exact wpAny_loadName_cell I.ok.kind hk hc hcell go
    · rcases hx with k | k
      · have : X.env.scope.names.lookup x = some .free := hk
        rw [k] at this; cases this
      · have : X.env.scope.names.lookup x = some .free := hk
        rw [k] at this; cases this
def ipI (f : Int → Int → Int) : TIp := fun x y H Q => ∃ i j, x = .int i ∧ y = .int j ∧ Q (.int (f i j)) H
theorem ip_add : PIp X .Add (ipI fun i j => i + j) := by
  intro pins s σ H x y v u Q I r1 r2 h
  obtain ⟨i, j, e1, e2, q⟩ := h
  subst e1; subst e2
  obtain ⟨t, rfl⟩ := r1
  obtain ⟨t', rfl⟩ := r2
  exact iadd_int ⟨.int _, H, I.tok _, ⟨_, rfl⟩, q⟩
end
section
variable {X : Cx} {pos : Pos}
def tWhile (c : TT) (tb : TS) : TS := fun D σ H => ∃ W : Nat → St → Hp → Prop, (∃ m, W m σ H) ∧ ∀ m σ H, W m σ H →
  c σ H fun b H1 => if b = true then ∃ N : St → Hp → Prop, (∀ σ' H', N σ' H' → ∃ m', m' < m ∧ W m' σ' H') ∧ tb { D with nx := N, ct := N, bk := D.nx } σ H1 else D.nx σ H1
theorem ps_while {c : Expr} {body : List Stmt} {tc : TT} {tb : TS} (hp : PassesOwn (model X.prog X.w) X.A X.env X.xe) (hc : PT X c tc) (hb : PSs X body tb) : PS X (.While c body [] pos) (tWhile tc tb) := by
  intro pins s σ H D I h
  obtain ⟨W, ⟨m0, w0⟩, turn⟩ := h
  refine wpAny_While (codeAny_whileLoop (fun n s' => ∃ σ' H', Inv X pins σ' H' s' ∧ W n σ' H') ?_ m0 ⟨σ, H, I, w0⟩)
  rintro n s1 ⟨σ1, H1, I1, w1⟩
  refine wpAny_passesOwn hp (thn (hc pins s1 σ1 H1 _ I1 (turn n σ1 H1 w1)) fun b s2 ⟨H2, I2, q2⟩ => ?_)
  cases b with
  | true =>
    obtain ⟨N, hN, q2⟩ := q2
    rw [if_pos rfl]
    refine wpAny_passesOwn hp (thn (hb pins s2 σ1 H2 _ I2 q2) fun f s3 q3 => ?_)
    cases f with
    | next =>
      obtain ⟨σ3, H3, I3, n3⟩ := q3
      obtain ⟨m', hm, w3⟩ := hN σ3 H3 n3
      exact ⟨m', hm, σ3, H3, I3, w3⟩
    | cont =>
      obtain ⟨σ3, H3, I3, n3⟩ := q3
      obtain ⟨m', hm, w3⟩ := hN σ3 H3 n3
      exact ⟨m', hm, σ3, H3, I3, w3⟩
    | brk => exact q3
    | ret v => exact q3
  | false =>
    rw [if_neg Bool.false_ne_true]
    exact wpAny_execs_nil ⟨σ1, H2, I2, q2⟩
end
structure It where
  go : Nat → Hp → Prop
  yld : Nat → Hp → V → Hp → Prop
  stop : Nat → Hp → Prop
def FpOk (X : Cx) (pins : List (Addr × Obj)) (H : Hp) (b : Addr) : Prop :=
  H b = none ∧ b ≠ X.env.locals ∧ b ∉ X.fs ∧ (b ∈ X.ex ∨ X.s₀.heap.objs.size ≤ b) ∧ (∀ x c, X.env.cells.lookup x = some c → c ≠ b) ∧ ∀ p ∈ X.pn ++ pins, p.1 ≠ b
theorem Inv.fpOk {X : Cx} {pins : List (Addr × Obj)} {σ : St} {H H' : Hp} {s : Shared} {b : Addr} (I : Inv X pins σ H s) (hb : s.heap.objs.size ≤ b) (hn : H' b = none) : FpOk X pins H' b := by
  refine ⟨hn, Nat.ne_of_gt (Nat.lt_of_lt_of_le I.lt hb), I.nofs hb, .inr (Nat.le_trans I.sz hb), fun x c e z => ?_, fun p hp z => ?_⟩
  · obtain ⟨v, q⟩ := I.cell x c e
    exact absurd (Nat.lt_of_lt_of_le q.lt (by rw [z]; exact hb)) (Nat.lt_irrefl _)
  · exact absurd (Nat.lt_of_lt_of_le (Heap.lt_size (I.pin p hp).1) (by rw [z]; exact hb)) (Nat.lt_irrefl _)
structure Turn (P : Program) (w : World) (K : PySem.W.Frag) (tg : Expr) (J : It) (fp : List Addr) (it : Addr) (tn : Nat → Heap → Prop) : Prop where
  mem : it ∈ fp
  obj : ∀ i h, tn i h → ∀ b ∈ fp, ∃ o, h.get? b = some o ∧ ∀ v, o.data ≠ .cell v
  keep : ∀ i h h', tn i h → (∀ b ∈ fp, ∀ o, h.get? b = some o → h'.get? b = some o) → tn i h'
  item : ∀ (X : Cx), X.prog = P → X.w = w → X.K = K → X.calm = true → ∀ (i : Nat) (pins : List (Addr × Obj)) (s : Shared) (σ : St) (H : Hp) (E : Value → Shared → Prop), Inv X pins σ H s → (∀ b ∈ fp, FpOk X pins H b) → tn i s.heap → J.go i H →
    wpAny (model P w) X.A (pyNext (.ref it)) (fun r s1 => ∃ u, r = some u ∧
      wpAny (model P w) X.A (letOwnedTupleGo tg (.ref it) u) (fun _ s2 => ∃ x H', Inv X pins σ H' s2 ∧ RelV x u ∧ J.yld i H x H' ∧ tn (i + 1) s2.heap ∧ ∀ b ∈ fp, H' b = none) E s1) E s
  done : ∀ (X : Cx), X.prog = P → X.w = w → X.K = K → X.calm = true → ∀ (i : Nat) (pins : List (Addr × Obj)) (s : Shared) (σ : St) (H : Hp) (E : Value → Shared → Prop), Inv X pins σ H s → (∀ b ∈ fp, FpOk X pins H b) → tn i s.heap → J.stop i H →
    wpAny (model P w) X.A (pyNext (.ref it)) (fun r s1 => r = none ∧ Inv X pins σ H s1) E s
  self : ∀ (A : Around) (i : Nat) (s : Shared) (Q : Value → Shared → Prop) (E : Value → Shared → Prop), tn i s.heap → Q (.ref it) s → wpAny (model P w) A (pyIter (.ref it)) Q E s
abbrev TI := St → Hp → (It → Hp → Prop) → Prop
def PIE (X : Cx) (pins : List (Addr × Obj)) (σ : St) (tg : Expr) (R : It → Hp → Prop) (itv : Value) (s2 : Shared) : Prop :=
  ∃ (it : Addr) (fp : List Addr) (tn : Nat → Heap → Prop) (J : It) (H' : Hp), itv = .ref it ∧ Inv X pins σ H' s2 ∧ Turn X.prog X.w X.K tg J fp it tn ∧ tn 0 s2.heap ∧ (∀ b ∈ fp, FpOk X pins H' b) ∧ R J H'
def PI (X : Cx) (tg iter : Expr) (wi : TI) : Prop :=
  ∀ (pins : List (Addr × Obj)) (s : Shared) (σ : St) (H : Hp) (R : It → Hp → Prop), Inv X pins σ H s → wi σ H R →
    wpAny (model X.prog X.w) X.A (eval iter X.env) (fun v s1 => wpAny (model X.prog X.w) X.A (pyIter v) (PIE X pins σ tg R) X.xe s1) X.xe s
theorem go_of {M : Model} {A : Around} {E : Value → Shared → Prop} {s : Shared} {tg : Expr} {it : Addr} {u : Value} {o : Obj} {n : String} {vs : Array Value} {Q : Unit → Shared → Prop} (ho : s.heap.get? it = some o) (hc : o.cls = .type n) (hd : o.data = .fields vs)
    (hn : ["enumerate", "zip", "dict_itemiterator", "dict_reverseitemiterator", "odict_iterator", "itertools.zip_longest", "itertools.pairwise"].contains n = false) (hQ : Q () s) : wpAny M A (letOwnedTupleGo tg (.ref it) u) Q E s := by
  unfold letOwnedTupleGo
  cases tg <;> first
    | exact wpAny_pure hQ
    | (cases u <;> first
        | exact wpAny_pure hQ
        | (refine wpAny_bind (wpAny_load ho ?_)
           rw [hc, hd]
           show wpAny M A (if (["enumerate", "zip", "dict_itemiterator", "dict_reverseitemiterator", "odict_iterator", "itertools.zip_longest", "itertools.pairwise"].contains n && vs[0]? == some (rawInt _)) = true then _ else _) Q E s
           rw [if_neg (by intro h; rw [hn, Bool.false_and] at h; cases h)]
           exact wpAny_pure hQ))
def Itl (K : PySem.W.Frag) (a : Addr) : It :=
  ⟨fun i H => ∃ xs x, SqL K H a xs ∧ xs[i]? = some x, fun i H x H' => H' = H ∧ ∀ xs, SqL K H a xs → xs[i]? = some x, fun i H => ∃ xs, SqL K H a xs ∧ xs.length ≤ i⟩
def Itt (K : PySem.W.Frag) (a : Addr) : It :=
  ⟨fun i H => ∃ xs x, SqT K H a xs ∧ xs[i]? = some x, fun i H x H' => H' = H ∧ ∀ xs, SqT K H a xs → xs[i]? = some x, fun i H => ∃ xs, SqT K H a xs ∧ xs.length ≤ i⟩
def Itr (lo : Int) (n : Nat) : It := ⟨fun i _ => i < n, fun i H x H' => H' = H ∧ x = .int (lo + i), fun i _ => n ≤ i⟩
theorem turn_list {P : Program} {w : World} {K : PySem.W.Frag} {tg : Expr} (a it : Addr) : Turn P w K tg (Itl K a) [it] it (fun i h => h.IsListIter it a i) where
  mem := by simp
  obj := fun i h st b hb => by
    have e : b = it := by simpa using hb
    subst e
    obtain ⟨o, e, c, d⟩ := st
    exact ⟨o, e, fun v z => by rw [d] at z; cases z⟩
  keep := fun i h h' st k => st.at fun o e => k it (by simp) o e
  item := by
    intro X hP hw hK hc i pins s σ H E I hf st hg
    subst hP hw hK
    obtain ⟨xs, x, hq, hx⟩ := hg
    obtain ⟨its, rv, p, hz⟩ := I.list hq
    obtain ⟨u, hu, ru⟩ := rv.get hx
    obtain ⟨f0, f1, f2, f3, f4, f5⟩ := hf it (by simp)
    refine wpAny_pyNext_list_item st p.isList (x := u) (by simpa using hu) fun h' st' sb => ?_
    have I1 : Inv X pins σ H { s with heap := h' } := I.turned (t' := s.toks) (fun b o hb e => (sb.2 b hb).trans e) f0 f1 f3 f4 f5
    obtain ⟨o, e, c, d⟩ := id st'
    exact ⟨u, rfl, go_of (s := { s with heap := h' }) e c d (by decide) ⟨x, H, I1, ru, ⟨rfl, fun ys hy => by rw [I.list_inj hy hq]; exact hx⟩, st', fun b hb => (hf b hb).1⟩⟩
  done := by
    intro X hP hw hK hc i pins s σ H E I hf st hg
    subst hP hw hK
    obtain ⟨xs, hq, hx⟩ := hg
    obtain ⟨its, rv, p, hz⟩ := I.list hq
    obtain ⟨f0, f1, f2, f3, f4, f5⟩ := hf it (by simp)
    have hl := rv.length
    exact wpAny_pyNext_list_end (I.ok.hd hc) st p.isList (by simp; omega) fun h' eb => ⟨rfl, I.turned (t' := s.toks) (fun b o hb e => eb b o hb e) f0 f1 f3 f4 f5⟩
  self := fun _ _ _ _ _ st h => wpAny_pyIter_listiter st h
theorem turn_tuple {P : Program} {w : World} {K : PySem.W.Frag} {tg : Expr} (a it : Addr) : Turn P w K tg (Itt K a) [it] it (fun i h => h.IsTupleIter it a i) where
  mem := by simp
  obj := fun i h st b hb => by
    have e : b = it := by simpa using hb
    subst e
    obtain ⟨o, e, c, d⟩ := st
    exact ⟨o, e, fun v z => by rw [d] at z; cases z⟩
  keep := fun i h h' st k => st.at fun o e => k it (by simp) o e
  item := by
    intro X hP hw hK hc i pins s σ H E I hf st hg
    subst hP hw hK
    obtain ⟨xs, x, hq, hx⟩ := hg
    obtain ⟨its, rv, p, hz⟩ := I.tuple hq
    obtain ⟨u, hu, ru⟩ := rv.get hx
    obtain ⟨f0, f1, f2, f3, f4, f5⟩ := hf it (by simp)
    refine wpAny_pyNext_tuple_item st (show s.heap.IsTuple a its.toArray from p) (x := u) (by simpa using hu) fun h' st' sb => ?_
    have I1 : Inv X pins σ H { s with heap := h' } := I.turned (t' := s.toks) (fun b o hb e => (sb.2 b hb).trans e) f0 f1 f3 f4 f5
    obtain ⟨o, e, c, d⟩ := id st'
    exact ⟨u, rfl, go_of (s := { s with heap := h' }) e c d (by decide) ⟨x, H, I1, ru, ⟨rfl, fun ys hy => by rw [I.tuple_inj hy hq]; exact hx⟩, st', fun b hb => (hf b hb).1⟩⟩
  done := by
    intro X hP hw hK hc i pins s σ H E I hf st hg
    subst hP hw hK
    obtain ⟨xs, hq, hx⟩ := hg
    obtain ⟨its, rv, p, hz⟩ := I.tuple hq
    obtain ⟨f0, f1, f2, f3, f4, f5⟩ := hf it (by simp)
    have hl := rv.length
    exact wpAny_pyNext_tuple_end (I.ok.hd hc) st (show s.heap.IsTuple a its.toArray from p) (by simp; omega) fun h' eb => ⟨rfl, I.turned (t' := s.toks) (fun b o hb e => eb b o hb e) f0 f1 f3 f4 f5⟩
  self := fun _ _ _ _ _ st h => wpAny_pyIter_tupleiter st h
theorem turn_range {P : Program} {w : World} {K : PySem.W.Frag} {tg : Expr} (it : Addr) (lo : Int) (n : Nat) : Turn P w K tg (Itr lo n) [it] it (fun i h => IsRangeIter h it (lo + (i : Nat) * 1) ((n : Int) - (i : Nat)) 1) where
  mem := by simp
  obj := fun i h st b hb => by
    have e : b = it := by simpa using hb
    subst e
    exact ⟨_, st, fun v z => by
      have z' : Data.fields _ = Data.cell v := z
      cases z'⟩
  keep := fun i h h' st k => k it (by simp) _ st
  item := by
    intro X hP hw hK hc i pins s σ H E I hf st hg
    subst hP hw hK
    obtain ⟨f0, f1, f2, f3, f4, f5⟩ := hf it (by simp)
    have W := Walks.range (prog := X.prog) (w := X.w) (I.ok.hd hc) it lo 1 n
    refine W.item i s _ _ hg st fun v h' tk hv st' kk => ?_
    obtain ⟨t, rfl⟩ := hv
    have I1 : Inv X pins σ H { s with heap := h', toks := tk } := I.turned (fun b o hb e => kk b o (by simpa using hb) e) f0 f1 f3 f4 f5
    refine ⟨_, rfl, go_of (s := { s with heap := h', toks := tk }) (n := "range_iterator") st' rfl rfl (by decide) ⟨.int (lo + i), H, I1, ⟨t, ?_⟩, ⟨rfl, rfl⟩, st', fun b hb => (hf b hb).1⟩⟩
    rw [Int.mul_one]
  done := by
    intro X hP hw hK hc i pins s σ H E I hf st hg
    subst hP hw hK
    obtain ⟨f0, f1, f2, f3, f4, f5⟩ := hf it (by simp)
    exact wpAny_pyNext_range_end (I.ok.hd hc) st (by have : n ≤ i := hg; omega) fun h' eb => ⟨rfl, I.turned (t' := s.toks) (fun b o hb e => eb b o hb e) f0 f1 f3 f4 f5⟩
  self := fun _ _ _ _ _ st h => wpAny_pyIter_rangeiter st h
end L2
namespace L2
open PySem PySem.Spec PyProof.Rows
section
variable {X : Cx} {tg : Expr}
def iList (K : PySem.W.Frag) (tl : TE) : TI := fun σ H R => tl σ H fun x H1 => ∃ a, x = .ref a ∧ (∃ xs, SqL K H1 a xs) ∧ R (Itl K a) H1
def iTup (K : PySem.W.Frag) (tl : TE) : TI := fun σ H R => tl σ H fun x H1 => ∃ a, x = .ref a ∧ (∃ xs, SqT K H1 a xs) ∧ R (Itt K a) H1
theorem pi_list {l : Expr} {tl : TE} (hl : PE X l tl) : PI X tg l (iList X.K tl) := by
  intro pins s σ H R I h
  refine thn (hl pins s σ H _ I h) fun v s1 ⟨x, H1, I1, r1, q1⟩ => ?_
  obtain ⟨a, e, ⟨xs, hq⟩, q⟩ := q1
  subst e
  cases r1
  obtain ⟨its, rv, p, hz⟩ := I1.list hq
  refine wpAny_pyIter_list p.isList ?_
  refine ⟨s1.heap.objs.size, [s1.heap.objs.size], _, _, H1, rfl, I1.kept (t' := s1.toks) fun b o e => Heap.get?_push_of_some _ e, turn_list a _, ⟨_, Heap.get?_push_size _ rfl, rfl, rfl⟩, fun b hb => ?_, q⟩
  have e : b = s1.heap.objs.size := by simpa using hb
  subst e
  exact I1.fpOk (Nat.le_refl _) (I1.hok.fresh (Nat.le_refl _))
theorem pi_tup {l : Expr} {tl : TE} (hl : PE X l tl) : PI X tg l (iTup X.K tl) := by
  intro pins s σ H R I h
  refine thn (hl pins s σ H _ I h) fun v s1 ⟨x, H1, I1, r1, q1⟩ => ?_
  obtain ⟨a, e, ⟨xs, hq⟩, q⟩ := q1
  subst e
  cases r1
  obtain ⟨its, rv, p, hz⟩ := I1.tuple hq
  refine wpAny_pyIter_tuple (show s1.heap.IsTuple a its.toArray from p) ?_
  refine ⟨s1.heap.objs.size, [s1.heap.objs.size], _, _, H1, rfl, I1.kept (t' := s1.toks) fun b o e => Heap.get?_push_of_some _ e, turn_tuple a _, ⟨_, Heap.get?_push_size _ rfl, rfl, rfl⟩, fun b hb => ?_, q⟩
  have e : b = s1.heap.objs.size := by simpa using hb
  subst e
  exact I1.fpOk (Nat.le_refl _) (I1.hok.fresh (Nat.le_refl _))
theorem range_it {pins : List (Addr × Obj)} {σ : St} {H : Hp} {s : Shared} {R : It → Hp → Prop} {E : Value → Shared → Prop} {lo hi : Int} {t u v : Tok} {tk : Nat} (I : Inv X pins σ H s) (h1 : -(2 ^ 62) ≤ lo) (h2 : lo < 2 ^ 62) (h3 : -(2 ^ 62) ≤ hi) (h4 : hi < 2 ^ 62)
    (q : R (Itr lo (hi - lo).toNat) H) : wpAny (model X.prog X.w) X.A (pyIter (.ref s.heap.objs.size)) (PIE X pins σ tg R) E { s with heap := s.heap.push { cls := .type "range", data := .fields #[.int lo t, .int hi u, .int 1 v] }, toks := tk } := by
  refine wpAny_pyIter_range (IsRange.new ..) (small_one h1 h2 h3 h4) ?_
  have I1 : Inv X pins σ H { s with heap := s.heap.push { cls := .type "range", data := .fields #[.int lo t, .int hi u, .int 1 v] }, toks := tk } := I.kept fun b o e => Heap.get?_push_of_some _ e
  refine ⟨(s.heap.push { cls := .type "range", data := .fields #[.int lo t, .int hi u, .int 1 v] }).objs.size, [(s.heap.push { cls := .type "range", data := .fields #[.int lo t, .int hi u, .int 1 v] }).objs.size], _, _, H, rfl,
    I1.kept (t' := tk) fun b o e => Heap.get?_push_of_some _ e, turn_range _ lo (hi - lo).toNat, ?_, fun b hb => ?_, q⟩
  · have e1 : lo + ((0 : Nat) : Int) * 1 = lo := by simp
    have e2 : (((hi - lo).toNat : Nat) : Int) - ((0 : Nat) : Int) = Builtin.Range.rangeSize lo hi 1 := by rw [rangeSize_one]; split <;> omega
    show IsRangeIter _ _ (lo + ((0 : Nat) : Int) * 1) ((((hi - lo).toNat : Nat) : Int) - ((0 : Nat) : Int)) 1
    rw [e1, e2]
    exact Heap.get?_push_size _ rfl
  · have e : b = (s.heap.push { cls := .type "range", data := .fields #[.int lo t, .int hi u, .int 1 v] }).objs.size := by simpa using hb
    subst e
    exact I1.fpOk (Nat.le_refl _) (I1.hok.fresh (Nat.le_refl _))
def iRng1 (ta : TA) : TI := fun σ H R => ta σ H fun vs H1 => ∃ j : Int, vs = [.int j] ∧ -(2 ^ 62) ≤ j ∧ j < 2 ^ 62 ∧ R (Itr 0 j.toNat) H1
theorem pi_range1 {a : Expr} {ta : TA} {p pos : Pos} (hg : Gl X "range") (hm : X.mg "range" = none) (ha : PA X [a] ta) (hs : starEach [a] X.env = [(false, eval a X.env)] := by rfl) : PI X tg (.Call (.Name "range" p) [a] [] pos) (iRng1 ta) := by
  intro pins s σ H R I h
  refine Call_ (ld_blt I hg hm boot_range (PyProof.Rows.callWith_type1 (thn (ha pos pins s σ H _ I h) fun us s1 ⟨vs, H1, I1, r1, q1⟩ => ?_) hs rfl))
  obtain ⟨j, e, q1, q2, q⟩ := q1
  subst e
  cases r1 with
  | cons r rr =>
    cases rr
    obtain ⟨t, rfl⟩ := r
    exact call_range_1 (range_it I1 (by omega) (by omega) q1 q2 (by simpa using q))
def tFor (wi : TI) (g : TG) (tb : TS) : TS := fun D σ H => wi σ H fun J H1 => ∃ W : Nat → Nat → St → Hp → Prop, (∃ m, W 0 m σ H1) ∧ ∀ i m σ H, W i m σ H →
  (J.stop i H ∧ D.nx σ H) ∨ (J.go i H ∧ ∃ N : St → Hp → Prop, (∀ σ' H', N σ' H' → ∃ m', m' < m ∧ W (i + 1) m' σ' H') ∧ ∀ x H', J.yld i H x H' → g x σ H' fun σ2 H2 => tb { D with nx := N, ct := N, bk := D.nx } σ2 H2)
def pinsAt (fp : List Addr) (h : Heap) : List (Addr × Obj) := fp.filterMap fun b => (h.get? b).map fun o => (b, o)
theorem mem_pinsAt {fp : List Addr} {h : Heap} {b : Addr} {o : Obj} (hb : b ∈ fp) (e : h.get? b = some o) : (b, o) ∈ pinsAt fp h := List.mem_filterMap.mpr ⟨b, hb, by rw [e]; rfl⟩
theorem of_pinsAt {fp : List Addr} {h : Heap} {p : Addr × Obj} (hp : p ∈ pinsAt fp h) : p.1 ∈ fp ∧ h.get? p.1 = some p.2 := by
  obtain ⟨b, hb, e⟩ := List.mem_filterMap.mp hp
  cases q : h.get? b with
  | none => rw [q] at e; cases e
  | some o =>
    rw [q] at e
    have e' : (b, o) = p := Option.some.inj e
    subst e'
    exact ⟨hb, q⟩
theorem Inv.pinned {pins : List (Addr × Obj)} {σ : St} {H : Hp} {s : Shared} {fp : List Addr} (I : Inv X pins σ H s) (hf : ∀ b ∈ fp, FpOk X pins H b) (ho : ∀ b ∈ fp, ∃ o, s.heap.get? b = some o ∧ ∀ v, o.data ≠ .cell v) : Inv X (pins ++ pinsAt fp s.heap) σ H s :=
  I.pins_of fun p hp => (List.mem_append.mp hp).elim (fun z => I.pin p (List.mem_append_right _ z)) fun z => by
    obtain ⟨hb, e⟩ := of_pinsAt z
    obtain ⟨f0, f1, f2, _⟩ := hf p.1 hb
    obtain ⟨o, e', d⟩ := ho p.1 hb
    rw [e] at e'; cases e'
    exact ⟨e, f0, f1, f2, d⟩
theorem Inv.unpinned {pins pl : List (Addr × Obj)} {σ : St} {H : Hp} {s : Shared} (I : Inv X (pins ++ pl) σ H s) : Inv X pins σ H s := I.pins_of fun p hp => I.pin p (List.mem_append_right _ (List.mem_append_left _ hp))
theorem ps_for {iter : Expr} {body : List Stmt} {wi : TI} {g : TG} {tb : TS} {pos : Pos} (hp : PassesOwn (model X.prog X.w) X.A X.env X.xe) (hc : X.calm = true) (hi : PI X tg iter wi) (hg : PG X tg g) (hb : PSs X body tb)
    (hs : ∀ x, foldedSetIterable iter X.env x = pure x := by intro _; rfl) : PS X (.For tg iter body [] pos) (tFor wi g tb) := by
  intro pins s σ H D I h
  refine wpAny_For (thn (hi pins s σ H _ I h) fun v s1 h1 => thn h1 fun itv s2 h2 => ?_) hs
  obtain ⟨it, fp, tn, J, H2, e, I2, T, st2, f2, W, ⟨m0, w0⟩, turn⟩ := h2
  subst e
  have stat : ∀ {H' : Hp}, (∀ b ∈ fp, H' b = none) → ∀ b ∈ fp, FpOk X pins H' b := fun hn b hb => ⟨hn b hb, (f2 b hb).2⟩
  refine codeAny_forLoop_any (fun n s' => ∃ i σ' H', Inv X pins σ' H' s' ∧ tn i s'.heap ∧ (∀ b ∈ fp, H' b = none) ∧ W i n σ' H') ?_ m0 ⟨0, σ, H2, I2, st2, fun b hb => (f2 b hb).1, w0⟩
  rintro n s3 ⟨i, σ3, H3, I3, st3, fr3, w3⟩
  rcases turn i n σ3 H3 w3 with ⟨stop, qn⟩ | ⟨go, N, hN, step⟩
  · refine wpAny_passesOwn hp (thn (T.done X rfl rfl rfl hc i pins s3 σ3 H3 X.xe I3 (stat fr3) st3 stop) fun r s4 ⟨hr, I4⟩ => ?_)
    subst hr
    exact wpAny_execs_nil ⟨σ3, H3, I4, qn⟩
  · refine wpAny_passesOwn hp (thn (T.item X rfl rfl rfl hc i pins s3 σ3 H3 X.xe I3 (stat fr3) st3 go) fun r s4 ⟨u, hr, h4⟩ => ?_)
    subst hr
    refine wpAny_passesOwn hp (thn h4 fun _ s5 ⟨x, H5, I5, r5, y5, st5, fr5⟩ => ?_)
    have I5' := I5.pinned (stat fr5) (T.obj _ _ st5)
    refine wpAny_passesOwn hp (thn (hg _ s5 σ3 H5 x u _ I5' r5 (step x H5 y5)) fun _ s6 ⟨σ6, H6, I6, q6⟩ => ?_)
    refine wpAny_passesOwn hp (thn (hb _ s6 σ6 H6 _ I6 q6) fun f s7 q7 => ?_)
    have again : ∀ {σ7 : St} {H7 : Hp}, Inv X (pins ++ pinsAt fp s5.heap) σ7 H7 s7 → N σ7 H7 → ∃ m, m < n ∧ ∃ i σ' H', Inv X pins σ' H' s7 ∧ tn i s7.heap ∧ (∀ b ∈ fp, H' b = none) ∧ W i m σ' H' := fun {σ7 H7} I7 n7 => by
      obtain ⟨m', hm, w7⟩ := hN σ7 H7 n7
      refine ⟨m', hm, i + 1, σ7, H7, I7.unpinned, T.keep _ _ _ st5 fun b hb o e => (I7.pin (b, o) (List.mem_append_right _ (List.mem_append_right _ (mem_pinsAt hb e)))).1, fun b hb => ?_, w7⟩
      obtain ⟨o, e, d⟩ := T.obj _ _ st5 b hb
      exact (I7.pin (b, o) (List.mem_append_right _ (List.mem_append_right _ (mem_pinsAt hb e)))).2.1
    cases f with
    | next => obtain ⟨σ7, H7, I7, n7⟩ := q7; exact again I7 n7
    | cont => obtain ⟨σ7, H7, I7, n7⟩ := q7; exact again I7 n7
    | brk => obtain ⟨σ7, H7, I7, q7⟩ := q7; exact ⟨σ7, H7, I7.unpinned, q7⟩
    | ret v => obtain ⟨x7, σ7, H7, I7, r7, q7⟩ := q7; exact ⟨x7, σ7, H7, I7.unpinned, r7, q7⟩
end
end L2
namespace L2
open PySem PySem.Spec PyProof.Rows
abbrev R2 := V → V → Hp → VK → Prop
def OpR (X : Cx) (f : Value → Value → Sem Value) (r : R2) : Prop :=
  ∀ (pins : List (Addr × Obj)) (s : Shared) (σ : St) (H : Hp) (x y : V) (v u : Value) (Q : VK), Inv X pins σ H s → RelV x v → RelV y u → r x y H Q →
    wpAny (model X.prog X.w) X.A (f v u) (EP X pins σ Q) X.xe s
def UnR (X : Cx) (f : Value → Sem Value) (r : V → Hp → VK → Prop) : Prop :=
  ∀ (pins : List (Addr × Obj)) (s : Shared) (σ : St) (H : Hp) (x : V) (v : Value) (Q : VK), Inv X pins σ H s → RelV x v → r x H Q →
    wpAny (model X.prog X.w) X.A (f v) (EP X pins σ Q) X.xe s
def CallR (X : Cx) (f : Value) (r : List V → Hp → VK → Prop) : Prop :=
  ∀ (pins : List (Addr × Obj)) (s : Shared) (σ : St) (H : Hp) (xs : List V) (us : List Value) (Q : VK), Inv X pins σ H s → Vals xs us → r xs H Q →
    wpAny (model X.prog X.w) X.A (call f us) (EP X pins σ Q) X.xe s
def TruR (X : Cx) (r : V → Hp → (Bool → Hp → Prop) → Prop) : Prop :=
  ∀ (pins : List (Addr × Obj)) (s : Shared) (σ : St) (H : Hp) (x : V) (v : Value) (Q : Bool → Hp → Prop), Inv X pins σ H s → RelV x v → r x H Q →
    wpAny (model X.prog X.w) X.A (truthy v) (TP X pins σ Q) X.xe s
def tOp (r : R2) (ta tb : TE) : TE := fun σ H Q => ta σ H fun x H1 => tb σ H1 fun y H2 => r x y H2 Q
def tUn (r : V → Hp → VK → Prop) (ta : TE) : TE := fun σ H Q => ta σ H fun x H1 => r x H1 Q
def rI (C : Int → Int → Prop) (g : Int → Int → V) : R2 := fun x y H Q => ∃ i j, x = .int i ∧ y = .int j ∧ C i j ∧ Q (g i j) H
def rI0 (g : Int → Int → V) : R2 := fun x y H Q => ∃ i j, x = .int i ∧ y = .int j ∧ Q (g i j) H
def rU (g : Int → V) : V → Hp → VK → Prop := fun x H Q => ∃ i, x = .int i ∧ Q (g i) H
section
variable {X : Cx} {a b c : Expr} {ta tb tc : TE} {pos : Pos}
theorem binT (ha : PE X a ta) (hb : PE X b tb) {pins : List (Addr × Obj)} {s : Shared} {σ : St} {H : Hp} {R : V → V → Hp → Prop} (I : Inv X pins σ H s)
    (h : ta σ H fun x H1 => tb σ H1 fun y H2 => R x y H2) {Q : Value → Shared → Prop} {f : Value → Value → Sem Value}
    (hf : ∀ v u s2 x y H2, Inv X pins σ H2 s2 → RelV x v → RelV y u → R x y H2 → wpAny (model X.prog X.w) X.A (f v u) Q X.xe s2) :
    wpAny (model X.prog X.w) X.A (eval a X.env) (fun v s₁ => wpAny (model X.prog X.w) X.A (eval b X.env) (fun u s₂ => wpAny (model X.prog X.w) X.A (f v u) Q X.xe s₂) X.xe s₁) X.xe s := by
  refine thn (ha pins s σ H _ I h) fun v s1 ⟨x, H1, I1, r1, q1⟩ => ?_
  refine thn (hb pins s1 σ H1 _ I1 q1) fun u s2 ⟨y, H2, I2, r2, q2⟩ => ?_
  exact hf v u s2 x y H2 I2 r1 r2 q2
theorem pe_op {op : Operator} {r : R2} (ho : OpR X (binaryOp op) r) (ha : PE X a ta) (hb : PE X b tb) : PE X (.BinOp a op b pos) (tOp r ta tb) := by
  intro pins s σ H Q I h
  exact wpAny_BinOp (binT ha hb I h fun v u s2 x y H2 I2 rx ry q => ho pins s2 σ H2 x y v u Q I2 rx ry q)
theorem pe_un {op : UnaryOp} {r : V → Hp → VK → Prop} (ho : UnR X (unaryOp op) r) (ha : PE X a ta) : PE X (.UnaryOp op a pos) (tUn r ta) := by
  intro pins s σ H Q I h
  exact UnaryOp_ (thn (ha pins s σ H _ I h) fun v s1 ⟨x, H1, I1, r1, q1⟩ => ho pins s1 σ H1 x v Q I1 r1 q1)
theorem opI {f : Value → Value → Sem Value} {C : Int → Int → Prop} {g : Int → Int → Int}
    (rule : ∀ (i j : Int) (t u : Tok) (s : Shared) (Q : Value → Shared → Prop) (E : Value → Shared → Prop), C i j → Q (.int (g i j) s.toks) { s with toks := s.toks + 1 } → wpAny (model X.prog X.w) X.A (f (.int i t) (.int j u)) Q E s) :
    OpR X f (rI C fun i j => .int (g i j)) := by
  intro pins s σ H x y v u Q I rx ry h
  obtain ⟨i, j, rfl, rfl, hc, q⟩ := h
  obtain ⟨t, rfl⟩ := rx
  obtain ⟨t', rfl⟩ := ry
  exact rule i j t t' s _ _ hc ⟨.int (g i j), H, I.tok _, ⟨_, rfl⟩, q⟩
theorem opI0 {f : Value → Value → Sem Value} {g : Int → Int → Int}
    (rule : ∀ (i j : Int) (t u : Tok) (s : Shared) (Q : Value → Shared → Prop) (E : Value → Shared → Prop), Q (.int (g i j) s.toks) { s with toks := s.toks + 1 } → wpAny (model X.prog X.w) X.A (f (.int i t) (.int j u)) Q E s) :
    OpR X f (rI0 fun i j => .int (g i j)) := by
  intro pins s σ H x y v u Q I rx ry h
  obtain ⟨i, j, rfl, rfl, q⟩ := h
  obtain ⟨t, rfl⟩ := rx
  obtain ⟨t', rfl⟩ := ry
  exact rule i j t t' s _ _ ⟨.int (g i j), H, I.tok _, ⟨_, rfl⟩, q⟩
theorem opB0 {f : Value → Value → Sem Value} {g : Int → Int → Bool}
    (rule : ∀ (i j : Int) (t u : Tok) (s : Shared) (Q : Value → Shared → Prop) (E : Value → Shared → Prop), Q (.bool (g i j)) s → wpAny (model X.prog X.w) X.A (f (.int i t) (.int j u)) Q E s) :
    OpR X f (rI0 fun i j => .bl (g i j)) := by
  intro pins s σ H x y v u Q I rx ry h
  obtain ⟨i, j, rfl, rfl, q⟩ := h
  obtain ⟨t, rfl⟩ := rx
  obtain ⟨t', rfl⟩ := ry
  exact rule i j t t' s _ _ ⟨.bl (g i j), H, I, rfl, q⟩
def CDiv (i j : Int) : Prop := 0 < j ∧ j < 1073741824
def CPow (i j : Int) : Prop := 0 ≤ j ∧ j ≤ 1000000 ∧ i.natAbs < 2 ^ 64
def CMul (i j : Int) : Prop := (-(2 ^ 64) < i ∧ i < 2 ^ 64) ∨ (-(2 ^ 64) < j ∧ j < 2 ^ 64)
theorem CMul.ok {i j : Int} (h : CMul i j) : IntMulOk i j := by
  rcases h with ⟨h1, h2⟩ | ⟨h1, h2⟩
  · exact .of_left (intBits_le_64 h1 h2)
  · exact .of_right (intBits_le_64 h1 h2)
theorem op_add : OpR X (binaryOp .Add) (rI0 fun i j => .int (i + j)) := opI0 fun _ _ _ _ _ _ _ q => add_int q
theorem op_sub : OpR X (binaryOp .Sub) (rI0 fun i j => .int (i - j)) := opI0 fun _ _ _ _ _ _ _ q => sub_int q
theorem op_mul : OpR X (binaryOp .Mult) (rI CMul fun i j => .int (i * j)) := opI fun _ _ _ _ _ _ _ hc q => mul_int q hc.ok
theorem op_fdiv : OpR X (binaryOp .FloorDiv) (rI CDiv fun i j => .int (i / j)) := opI fun i j _ _ _ _ _ hc q => by
  have h1 : (0 : Int) < j := hc.1
  have h2 : j < 1073741824 := hc.2
  exact floordiv_int (by omega) (by rw [Int.fdiv_eq_ediv_of_nonneg i (by omega)]; exact q) (.inl (PyProof.noPylong_small (by omega)))
theorem op_mod : OpR X (binaryOp .Mod) (rI (fun _ j => 0 < j) fun i j => .int (i % j)) := opI fun i j _ _ _ _ _ hc q => by
  have h1 : (0 : Int) < j := hc
  exact mod_int' (by omega) (by rw [Int.fmod_eq_emod_of_nonneg i (by omega)]; exact q)
theorem op_pow : OpR X (binaryOp .Pow) (rI CPow fun i j => .int (i ^ j.toNat)) := opI fun _ _ _ _ _ _ _ hc q => pow_int_small hc.1 hc.2.1 hc.2.2 q
theorem unI {f : Value → Sem Value} {g : Int → Int}
    (rule : ∀ (i : Int) (t : Tok) (s : Shared) (Q : Value → Shared → Prop) (E : Value → Shared → Prop), Q (.int (g i) s.toks) { s with toks := s.toks + 1 } → wpAny (model X.prog X.w) X.A (f (.int i t)) Q E s) :
    UnR X f (rU fun i => .int (g i)) := by
  intro pins s σ H x v Q I rx h
  obtain ⟨i, rfl, q⟩ := h
  obtain ⟨t, rfl⟩ := rx
  exact rule i t s _ _ ⟨.int (g i), H, I.tok _, ⟨_, rfl⟩, q⟩
theorem un_neg : UnR X (unaryOp .USub) (rU fun i => .int (-i)) := unI fun _ _ _ _ _ q => neg_int q
end
section
variable {X : Cx} {a b c : Expr} {ta tb tc : TE} {pos : Pos}
theorem fin_bl {pins : List (Addr × Obj)} {σ : St} {H : Hp} {s : Shared} {Q : VK} {k k' : Bool} (I : Inv X pins σ H s) (q : Q (.bl k) H) (e : k = k') : EP X pins σ Q (.bool k') s := by
  subst e
  exact ⟨.bl k, H, I, rfl, q⟩
theorem op_lt : OpR X (compareOp .Lt) (rI0 fun i j => .bl (decide (i < j))) := opB0 fun _ _ _ _ _ _ _ q => lt_int q
theorem op_le : OpR X (compareOp .LtE) (rI0 fun i j => .bl (decide (i ≤ j))) := opB0 fun _ _ _ _ _ _ _ q => le_int q
theorem op_gt : OpR X (compareOp .Gt) (rI0 fun i j => .bl (decide (j < i))) := opB0 fun _ _ _ _ _ _ _ q => gt_int q
theorem op_ge : OpR X (compareOp .GtE) (rI0 fun i j => .bl (decide (j ≤ i))) := opB0 fun _ _ _ _ _ _ _ q => ge_int q
theorem op_isN : OpR X (compareOp .Is) (fun x y H Q => y = .non ∧ Q (.bl (decide (x = .non))) H) := by
  intro pins s σ H x y v u Q I rx ry h
  obtain ⟨rfl, q⟩ := h
  cases ry
  refine is_none_gen (fin_bl I q ?_)
  cases x <;> first
    | (cases rx; rfl)
    | (obtain ⟨t, rfl⟩ := rx; rfl)
theorem op_notN : OpR X (compareOp .IsNot) (fun x y H Q => y = .non ∧ Q (.bl (!decide (x = .non))) H) := by
  intro pins s σ H x y v u Q I rx ry h
  obtain ⟨rfl, q⟩ := h
  cases ry
  refine isnot_none_gen (fin_bl I q ?_)
  cases x <;> first
    | (cases rx; rfl)
    | (obtain ⟨t, rfl⟩ := rx; rfl)
theorem nomark (b : Expr) {op : CmpOp} (h : op ≠ .In := by decide) (h2 : op ≠ .NotIn := by decide) : behindInMarks op b = false := by
  have e1 : (op == CmpOp.In) = false := by cases op <;> first | rfl | exact absurd rfl h
  have e2 : (op == CmpOp.NotIn) = false := by cases op <;> first | rfl | exact absurd rfl h2
  cases b <;> simp [behindInMarks, e1, e2]
theorem pe_cmpR {op : CmpOp} {r : R2} (ho : OpR X (compareOp op) r) (ha : PE X a ta) (hb : PE X b tb) (hm : behindInMarks op b = false) : PE X (.Compare a [op] [b] pos) (tOp r ta tb) := by
  intro pins s σ H Q I h
  exact wpAny_Compare1 (binT ha hb I h fun v u s2 x y H2 I2 rx ry q => ho pins s2 σ H2 x y v u Q I2 rx ry q) hm
def tTest (t : TE) : TT := fun σ H Q => t σ H fun x H' => ∃ k, x = .bl k ∧ Q k H'
theorem pt_cmpR {op : CmpOp} {r : R2} (ho : OpR X (compareOp op) r) (ha : PE X a ta) (hb : PE X b tb) (hm : behindInMarks op b = false) : PT X (.Compare a [op] [b] pos) (tTest (tOp r ta tb)) := by
  intro pins s σ H Q I h
  refine wpAny_isTrue_Compare1 (thn (ha pins s σ H _ I h) fun v s1 ⟨x, H1, I1, r1, q1⟩ => thn (hb pins s1 σ H1 _ I1 q1) fun u s2 ⟨y, H2, I2, r2, q2⟩ =>
    thn (ho pins s2 σ H2 x y v u _ I2 r1 r2 q2) fun c s3 ⟨z, H3, I3, r3, k, e, q3⟩ => ?_) hm
  subst e
  cases r3
  exact wpAny_truthy_bool ⟨H3, I3, q3⟩
def tChain (r r' : R2) (ta tb tc : TE) : TE := fun σ H Q => ta σ H fun x H1 => tb σ H1 fun y H2 => r x y H2 fun z H3 => ∃ k, z = .bl k ∧
  (if k = true then tc σ H3 fun w' H4 => r' y w' H4 Q else Q (.bl false) H3)
theorem pt_chain {op op' : CmpOp} {r r' : R2} (ho : OpR X (compareOp op) r) (ho' : OpR X (compareOp op') r') (ha : PE X a ta) (hb : PE X b tb) (hc : PE X c tc)
    (hm : lastMarks [op, op'] [b, c] = false := by with_unfolding_all rfl) : PT X (.Compare a [op, op'] [b, c] pos) (tTest (tChain r r' ta tb tc)) := by
  intro pins s σ H Q I h
  refine isTrue_chain (thn (ha pins s σ H _ I h) fun v s1 ⟨x, H1, I1, r1, q1⟩ => test_link (thn (hb pins s1 σ H1 _ I1 q1) fun u s2 ⟨y, H2, I2, r2, q2⟩ =>
    thn (ho pins s2 σ H2 x y v u _ I2 r1 r2 q2) fun d s3 ⟨z, H3, I3, r3, k, e, q3⟩ => ?_)) hm
  subst e
  cases r3
  refine wpAny_truthy_bool ?_
  cases k with
  | false =>
    obtain ⟨k', e', q'⟩ := q3
    cases e'
    exact ite_ff ⟨H3, I3, q'⟩
  | true =>
    refine ite_tt (test_last (thn (hc pins s3 σ H3 _ I3 q3) fun w' s4 ⟨z', H4, I4, r4, q4⟩ => thn (ho' pins s4 σ H4 y z' u w' _ I4 r2 r4 q4) fun d' s5 ⟨z2, H5, I5, r5, k2, e2, q5⟩ => ?_))
    subst e2
    cases r5
    exact wpAny_truthy_bool ⟨H5, I5, q5⟩
def TruV (K : PySem.W.Frag) (x : V) (H : Hp) (k : Bool) : Prop :=
  match x with
  | .non => k = false
  | .bl b => k = b
  | .int i => k = (i != 0)
  | .str y => y.length ≤ sizeLine ∧ k = ((y.length : Int) != 0)
  | .byt y => y.size ≤ sizeLine ∧ k = ((y.size : Int) != 0)
  | .ref p => (∃ xs, SqL K H p xs ∧ k = !xs.isEmpty) ∨ (∃ xs, SqT K H p xs ∧ k = !xs.isEmpty) ∨ ∃ kvs, H p = some (.dK kvs) ∧ k = !kvs.isEmpty
  | _ => False
theorem isEmpty_kv {κ : Type} {kvs : List (κ × V)} {vs : List (κ × Value)} (r : KV kvs vs) : (!vs.isEmpty) = !kvs.isEmpty := by
  cases r <;> rfl
theorem isEmpty_of {xs : List V} {its : List Value} (r : Vals xs its) : (!its.toArray.isEmpty) = !xs.isEmpty := by
  cases r <;> simp
theorem line63 : (sizeLine : Nat) < 2 ^ 63 := by rw [sizeLine_eq]; decide
theorem tru_ok : TruR X (fun x H Q => ∃ k, TruV X.K x H k ∧ Q k H) := by
  intro pins s σ H x v Q I rx h
  obtain ⟨k, e, q⟩ := h
  have hl := line63
  have hs : sizeLine = 16777216 := sizeLine_eq
  cases x with
  | non =>
    cases rx
    have e' : k = false := e
    subst e'
    exact truthy_none ⟨H, I, q⟩
  | bl b =>
    cases rx
    have e' : k = b := e
    subst e'
    exact wpAny_truthy_bool ⟨H, I, q⟩
  | int i =>
    obtain ⟨t, rfl⟩ := rx
    have e' : k = (i != 0) := e
    subst e'
    exact PySem.P.truthy_int ⟨H, I, q⟩
  | str y =>
    obtain ⟨t, rfl⟩ := rx
    obtain ⟨hy, e'⟩ : y.length ≤ sizeLine ∧ k = ((y.length : Int) != 0) := e
    subst e'
    exact PySem.P.truthy_str (by omega) ⟨H, I.tok _, q⟩
  | byt y =>
    obtain ⟨t, rfl⟩ := rx
    obtain ⟨hy, e'⟩ : y.size ≤ sizeLine ∧ k = ((y.size : Int) != 0) := e
    subst e'
    exact PySem.W.truthy_bytes (by omega) ⟨H, I.tok _, q⟩
  | ref p =>
    cases rx
    have e' : (∃ xs, SqL X.K H p xs ∧ k = !xs.isEmpty) ∨ (∃ xs, SqT X.K H p xs ∧ k = !xs.isEmpty) ∨ ∃ kvs, H p = some (.dK kvs) ∧ k = !kvs.isEmpty := e
    rcases e' with ⟨xs, hx, e'⟩ | ⟨xs, hx, e'⟩ | ⟨kvs, hx, e'⟩
    · subst e'
      obtain ⟨its, r, pl, hz⟩ := I.list hx
      have hlen := r.length
      exact wpAny_truthy_list pl.isList (by simp only [List.size_toArray]; omega) ⟨H, I.tok _, by rw [isEmpty_of r]; exact q⟩
    · subst e'
      obtain ⟨its, r, pl, hz⟩ := I.tuple hx
      have hlen := r.length
      exact truthy_tuple pl (by simp only [List.size_toArray]; omega) ⟨H, I.tok _, by rw [isEmpty_of r]; exact q⟩
    · subst e'
      obtain ⟨hz, hS, vs, r, m⟩ : kvs.length ≤ sizeLine ∧ (p == sysModules) = false ∧ ∃ vs, KV kvs vs ∧ s.heap.DictOf (mixKind X.prog X.w) p vs := I.hok p _ hx
      have hlen : kvs.length = vs.length := Paired.length r
      exact wpAny_truthy_dict hS m (by omega) ⟨H, I.tok _, by rw [isEmpty_kv r]; exact q⟩
  | _ => exact (show False from e).elim
theorem pt_truth (ha : PE X a ta) (he : ∀ whole, isTrue a X.env whole = (do let v ← whole; standAt a.pos; holding [v] (truthy v))) :
    PT X a (fun σ H Q => ta σ H fun x H' => ∃ k, TruV X.K x H' k ∧ Q k H') := by
  intro pins s σ H Q I h
  exact isTrue_plain (thn (ha pins s σ H _ I h) fun v s1 ⟨x, H1, I1, r1, q1⟩ => tru_ok pins s1 σ H1 x v Q I1 r1 q1) (he _)
theorem vals1 {x : V} {us : List Value} (r : Vals [x] us) : ∃ u, us = [u] ∧ RelV x u := by
  cases r with
  | cons r1 r2 => cases r2; exact ⟨_, rfl, r1⟩
theorem vals2 {x y : V} {us : List Value} (r : Vals [x, y] us) : ∃ u w', us = [u, w'] ∧ RelV x u ∧ RelV y w' := by
  cases r with
  | cons r1 r2 =>
    cases r2 with
    | cons r3 r4 => cases r4; exact ⟨_, _, rfl, r1, r3⟩
theorem call_max2 (hc : X.calm = true) : CallR X (.builtin "max") (fun xs H Q => ∃ i j, xs = [.int i, .int j] ∧ Q (.int (if j > i then j else i)) H) := by
  intro pins s σ H xs us Q I r h
  obtain ⟨i, j, rfl, q⟩ := h
  obtain ⟨u, w', rfl, ⟨t, rfl⟩, ⟨t', rfl⟩⟩ := vals2 r
  refine max_two_ints (I.ok.hd hc) fun h' tk k => ⟨_, H, I.kept k, ?_, q⟩
  by_cases hj : j > i
  · rw [if_pos hj, if_pos hj]; exact ⟨_, rfl⟩
  · rw [if_neg hj, if_neg hj]; exact ⟨_, rfl⟩
theorem call_min2 (hc : X.calm = true) : CallR X (.builtin "min") (fun xs H Q => ∃ i j, xs = [.int i, .int j] ∧ Q (.int (if j < i then j else i)) H) := by
  intro pins s σ H xs us Q I r h
  obtain ⟨i, j, rfl, q⟩ := h
  obtain ⟨u, w', rfl, ⟨t, rfl⟩, ⟨t', rfl⟩⟩ := vals2 r
  refine min_two_ints (I.ok.hd hc) fun h' tk k => ⟨_, H, I.kept k, ?_, q⟩
  by_cases hj : j < i
  · rw [if_pos hj, if_pos hj]; exact ⟨_, rfl⟩
  · rw [if_neg hj, if_neg hj]; exact ⟨_, rfl⟩
end
end L2
namespace L2
open PySem PySem.Spec PyProof.Rows
structure ObjM (h : Heap) (x dx C : Addr) (mA : Str → Option Value) : Prop where
  obj : h.get? x = some (PySem.W.instObj C dx)
  ns : h.Ns1 dx mA
  ne : dx ≠ x
theorem lookIn_ns {h : Heap} {dx : Addr} {mA : Str → Option Value} (n : h.Ns1 dx mA) : ∃ od, h.get? dx = some od ∧ ∀ name, PySem.W.lookIn name od = some (mA name) := by
  obtain ⟨o, es, ep, ho, hd, hk, _, hm⟩ := n
  refine ⟨o, ho, fun name => ?_⟩
  have e := hm name
  unfold nsFind findBy at e
  rw [← Array.find?_toList] at e
  unfold PySem.W.lookIn
  rw [hd]
  dsimp only
  split
  · rename_i y q
    rw [q] at e
    exact congrArg some e
  · rename_i q
    rw [q] at e
    have a : es.toList.any (·.refKey) = false := by
      rw [List.any_eq_false]
      intro y hy
      obtain ⟨z, t, hkey⟩ := hk y (Array.mem_toList_iff.mp hy)
      simp [DictEntry.refKey, hkey]
    have a' : ¬ es.toList.any (·.refKey) = true := by rw [a]; exact Bool.false_ne_true
    rw [if_neg a']
    exact congrArg some e
theorem ObjM.look {h : Heap} {x dx C : Addr} {mA : Str → Option Value} (I : ObjM h x dx C mA) : ∃ od, PySem.W.InstAt h x (PySem.W.instObj C dx) C (some od) ∧ ∀ name, PySem.W.lookIn name od = some (mA name) :=
  let ⟨od, ho, hl⟩ := lookIn_ns I.ns
  ⟨od, ⟨I.obj, rfl, rfl, ho⟩, hl⟩
section
variable {prog : Program} {w : World} {A : Around} {E : Value → Shared → Prop} {s : Shared} {K : PySem.W.Frag} {x dx C f : Addr} {mA : Str → Option Value} {name : Str} {v : Value}
theorem get_map {expr : Bool} {Q : Value → Shared → Prop} (X : K.In s.heap) (I : ObjM s.heap x dx C mA) (hg : PySem.W.plainGet K C name = true) (hh : PySem.W.hasDictIn K C = true)
    (ha : PySem.W.findIn K (.ref C) name = some none) (hv : mA name = some v) (hv' : PySem.W.handedIn v = true) (h : Q v { s with toks := s.toks + 1 }) :
    wpAny (model prog w) A (getAttr (.ref x) name expr) Q E s := by
  obtain ⟨od, J, hl⟩ := I.look
  exact PySem.W.get_value X J (PySem.W.plainGet_of hg).1 (PySem.W.findObj_own hh ha rfl (by rw [hl, hv])) hv' h
theorem get_meth {pl : Sem Bool} {Q : Value × List Value → Shared → Prop} (X : K.In s.heap) (I : ObjM s.heap x dx C mA) (hg : PySem.W.plainGet K C name = true)
    (hf : PySem.W.findIn K (.ref C) name = some (some (.ref f))) (ht : PySem.W.isFn K (.ref f) = true) (hv : mA name = none) (h : Q (.ref f, [.ref x]) s) :
    wpAny (model prog w) A (getMethod (.ref x) name pl) Q E s := by
  obtain ⟨od, J, hl⟩ := I.look
  exact PySem.W.method_fn X J (PySem.W.plainGet_of hg).1 (PySem.W.plainGet_of hg).2 hf (beq_iff_eq.mp ht) (by show (PySem.W.lookIn name od).map (·.isSome) = some false; rw [hl, hv]; rfl) h
theorem set_map {ns : List Str} {Q : Unit → Shared → Prop} (X : K.In s.heap) (I : ObjM s.heap x dx C mA)
    (hs : PySem.W.findIn K (.ref C) "__setattr__" = some (some (.builtin "object.__setattr__"))) (hp : PySem.W.plainOver K C = true) (ht : PySem.W.takerIn K C name = some none) (hh : PySem.W.hasDictIn K C = true)
    (hw : PySem.Within mA ns) (hsz : ns.length ≤ sizeLine)
    (h : ∀ h', ObjM h' x dx C (fun y => if y = name then some v else mA y) → Heap.SameBut dx s.heap h' → Q () { s with heap := h', toks := s.toks + 2 }) :
    wpAny (model prog w) A (setAttr (.ref x) name v) Q E s := by
  obtain ⟨od, J, hl⟩ := I.look
  refine PySem.W.set_plain X J hs (PySem.W.osa_open (s := { s with toks := s.toks + 1 }) (r := none) X J hp ht fun b => ?_)
  obtain ⟨cd, hc, hd'⟩ := PySem.W.any_some hh
  have hx : s.heap.get? x = some ⟨.ref C, some dx, .plain, #[]⟩ := I.obj
  refine wpAny_bind (wpAny_pure (wpAny_bind (wpAny_bind (wpAny_loadPart hx (wpAny_bind (PySem.W.Looks.here (s := { s with toks := s.toks + 1 }) (PySem.W.looks_clsIn X hc) ?_))))))
  rw [hd']
  refine wpAny_pure (a := some dx) (wpAny_bind (wpAny_pure (wpAny_bind ?_)))
  refine wpAny_nsSet1 (s := { s with toks := s.toks + 1 }) I.ns fun h' hn2 hs2 => ?_
  obtain ⟨oD, esD, epD, hoD, hdD, hcD⟩ := hn2.count (PySem.Within.cons name v hw)
  refine wpAny_bind (wpAny_lookBehind hoD (by rw [hdD]; exact pastItsLine_dict (Nat.le_trans hcD (by rw [List.length_cons]; omega))) ?_)
  exact wpAny_pure (h _ ⟨(hs2.2 _ (Ne.symm I.ne)).trans I.obj, hn2, I.ne⟩ hs2)
theorem make_map {R : Result → Shared → Prop} {vs : List Value} {kw : List (Str × Value)} (X : K.In s.heap) (hm : PySem.W.makesIn K C = true)
    (hi : PySem.W.findIn K (.ref C) "__init__" = some (some (.ref f))) (hf : PySem.W.typeIn K (.ref f) = some (.type "function"))
    (h : codeAny (model prog w) (A.under (.builtin "type.__call__" ⟨.ref C :: vs, kw⟩)) (.call (.ref f) ⟨.ref (s.heap.objs.size + 1) :: vs, kw⟩) (PySem.W.InitBack (s.heap.objs.size + 1) R)
      { s with heap := (s.heap.push PySem.W.emptyDict).push (PySem.W.instObj C s.heap.objs.size) }) :
    codeAny (model prog w) A (.call (.ref C) ⟨vs, kw⟩) R s := by
  obtain ⟨hh, g, d, t, os⟩ := s
  exact PySem.W.make_core (PySem.W.makes_of X hm) (PySem.W.looks_findIn X hi) (fun self => PySem.W.bind_fn X self hf) (.inl rfl) h
end
def putF (f : Str) (v : V) : List (Str × V) → List (Str × V)
  | [] => [(f, v)]
  | (g, x) :: r => if g = f then (g, v) :: r else (g, x) :: putF f v r
theorem lookup_putF (f g : Str) (v : V) : ∀ fs : List (Str × V), (putF f v fs).lookup g = if g = f then some v else fs.lookup g
  | [] => by
    show List.lookup g [(f, v)] = _
    by_cases h : g = f
    · have hb : (g == f) = true := beq_iff_eq.mpr h
      simp only [List.lookup, hb, if_pos h]
    · have hb : (g == f) = false := beq_eq_false_iff_ne.mpr h
      simp only [List.lookup, hb, if_neg h]
  | (k, x) :: r => by
    have ih := lookup_putF f g v r
    rw [show putF f v ((k, x) :: r) = (if k = f then (k, v) :: r else (k, x) :: putF f v r) from rfl]
    by_cases hk : k = f
    · rw [if_pos hk]
      by_cases h : g = k
      · have hb : (g == k) = true := beq_iff_eq.mpr h
        simp only [List.lookup, hb, if_pos (h.trans hk)]
      · have hb : (g == k) = false := beq_eq_false_iff_ne.mpr h
        simp only [List.lookup, hb, if_neg (fun e : g = f => h (e.trans hk.symm))]
    · rw [if_neg hk]
      by_cases h : g = k
      · have hb : (g == k) = true := beq_iff_eq.mpr h
        simp only [List.lookup, hb, if_neg (fun e : g = f => hk (h.symm.trans e))]
      · have hb : (g == k) = false := beq_eq_false_iff_ne.mpr h
        simp only [List.lookup, hb]
        exact ih
theorem keys_putF (f : Str) (v : V) : ∀ fs : List (Str × V), f ∈ (putF f v fs).map (·.1) ∧ ∀ g, g ∈ fs.map (·.1) → g ∈ (putF f v fs).map (·.1)
  | [] => ⟨by simp [putF], fun g h => by simp at h⟩
  | (k, x) :: r => by
    obtain ⟨i1, i2⟩ := keys_putF f v r
    rw [show putF f v ((k, x) :: r) = (if k = f then (k, v) :: r else (k, x) :: putF f v r) from rfl]
    by_cases hk : k = f
    · rw [if_pos hk]
      subst hk
      exact ⟨by simp, fun g h => by simpa using h⟩
    · rw [if_neg hk]
      refine ⟨?_, fun g h => ?_⟩
      · rw [List.map_cons]
        exact List.mem_cons_of_mem _ i1
      · rw [List.map_cons] at h ⊢
        rcases List.mem_cons.mp h with e | e
        · exact List.mem_cons.mpr (.inl e)
        · exact List.mem_cons_of_mem _ (i2 g e)
theorem length_putF (f : Str) (v : V) : ∀ fs : List (Str × V), (putF f v fs).length ≤ fs.length + 1
  | [] => by simp [putF]
  | (k, x) :: r => by
    have ih := length_putF f v r
    rw [show putF f v ((k, x) :: r) = (if k = f then (k, v) :: r else (k, x) :: putF f v r) from rfl]
    by_cases hk : k = f
    · rw [if_pos hk, List.length_cons, List.length_cons]; omega
    · rw [if_neg hk, List.length_cons, List.length_cons]; omega
theorem RelO.some_of {v : V} {o : Option Value} (r : RelO (some v) o) : ∃ u, o = some u ∧ RelV v u := by
  cases o with
  | none => exact (show False from r).elim
  | some u => exact ⟨u, rfl, r⟩
theorem RelO.none_of {o : Option Value} (r : RelO none o) : o = none := by
  cases o with
  | none => rfl
  | some u => exact (show False from r).elim
theorem handed_of {v : V} {u : Value} (r : RelV v u) : PySem.W.handedIn u = true := by
  cases v with
  | non => cases (show u = Value.none from r); rfl
  | bl b => cases (show u = Value.bool b from r); rfl
  | int i => obtain ⟨t, e⟩ := (show ∃ t, u = Value.int i t from r); cases e; rfl
  | str x => obtain ⟨t, e⟩ := (show ∃ t, u = Value.str x t from r); cases e; rfl
  | byt b => obtain ⟨t, e⟩ := (show ∃ t, u = Value.bytes b t from r); cases e; rfl
  | flt b => obtain ⟨t, e⟩ := (show ∃ t, u = Value.float b t from r); cases e; rfl
  | ref a => cases (show u = Value.ref a from r); rfl
  | ty n => cases (show u = Value.type n from r); rfl
section
variable {P : Program} {w : World} {H H' : Hp} {h h' : Heap} {a C dx : Addr} {fs fs' : List (Str × V)}
theorem ins_get (hok : HOk P w H h) (e : H a = some (.ins C dx fs)) : ∃ mA, ObjM h a dx C mA ∧ (∀ f, RelO (fs.lookup f) (mA f)) ∧ PySem.Within mA (fs.map (·.1)) ∧ fs.length ≤ 1000 ∧ H dx = some (.own a) := by
  obtain ⟨d, z, ne, ob, mA, n, r, q⟩ := (show ObjOk P w H h a (.ins C dx fs) from hok a _ e)
  exact ⟨mA, ⟨ob, n, ne⟩, r, q, z, d⟩
end
structure Cls (K : PySem.W.Frag) (C : Addr) : Prop where
  pg : PySem.W.plainGet K C Str.empty = true
  hd : PySem.W.hasDictIn K C = true
  po : PySem.W.plainOver K C = true
  sa : PySem.W.findIn K (.ref C) "__setattr__" = some (some (.builtin "object.__setattr__"))
theorem Cls.get {K : PySem.W.Frag} {C : Addr} (c : Cls K C) (f : Str) : PySem.W.plainGet K C f = true := c.pg
def NoAttr (K : PySem.W.Frag) (C : Addr) (f : Str) : Prop := PySem.W.findIn K (.ref C) f = some none
theorem NoAttr.taker {K : PySem.W.Frag} {C : Addr} {f : Str} (n : NoAttr K C f) : PySem.W.takerIn K C f = some none := by
  unfold PySem.W.takerIn
  rw [show PySem.W.findIn K (.ref C) f = some none from n]
  rfl
structure Meth (K : PySem.W.Frag) (C : Addr) (m : Str) (f : Addr) : Prop where
  at_ : PySem.W.findIn K (.ref C) m = some (some (.ref f))
  fn : PySem.W.isFn K (.ref f) = true
  kp : PySem.W.keepIn K (.ref f) = true
section
variable {X : Cx} {pins : List (Addr × Obj)} {σ : St} {H : Hp} {s : Shared} {a C dx : Addr} {fs : List (Str × V)} {f : Str} {v : V} {A : Around} {E : Value → Shared → Prop}
theorem getattr_ok {b : Bool} {Q : Value → Shared → Prop} (I : Inv X pins σ H s) (e : H a = some (.ins C dx fs)) (c : Cls X.K C) (n : NoAttr X.K C f) (l : fs.lookup f = some v)
    (h : ∀ u s', Inv X pins σ H s' → RelV v u → Q u s') : wpAny (model X.prog X.w) A (getAttr (.ref a) f b) Q E s := by
  obtain ⟨mA, O, r, _, _, _⟩ := ins_get I.hok e
  obtain ⟨u, hu, ru⟩ := RelO.some_of (v := v) (o := mA f) (by rw [← l]; exact r f)
  exact get_map I.kIn O (c.get f) c.hd n hu (handed_of ru) (h u _ (I.tok _) ru)
theorem getmeth_ok {m : Str} {g : Addr} {pl : Sem Bool} {Q : Value × List Value → Shared → Prop} (I : Inv X pins σ H s) (e : H a = some (.ins C dx fs)) (c : Cls X.K C) (k : Meth X.K C m g) (l : fs.lookup m = none)
    (h : Q (.ref g, [.ref a]) s) : wpAny (model X.prog X.w) A (getMethod (.ref a) m pl) Q E s := by
  obtain ⟨mA, O, r, _, _, _⟩ := ins_get I.hok e
  have hn : mA m = none := RelO.none_of (by rw [← l]; exact r m)
  exact get_meth I.kIn O (c.get m) k.at_ k.fn hn h
theorem setattr_ok {y : V} {u : Value} {Q : Unit → Shared → Prop} (I : Inv X pins σ H s) (e : H a = some (.ins C dx fs)) (c : Cls X.K C) (n : NoAttr X.K C f) (hl : fs.length < 1000) (ry : RelV y u)
    (h : ∀ s', Inv X pins σ (upd H a (.ins C dx (putF f y fs))) s' → Q () s') : wpAny (model X.prog X.w) A (setAttr (.ref a) f u) Q E s := by
  obtain ⟨mA, O, r, wi, _, ho⟩ := ins_get I.hok e
  have hz : (fs.map (·.1)).length ≤ sizeLine := by rw [List.length_map, sizeLine_eq]; omega
  refine set_map I.kIn O c.sa c.po n.taker c.hd wi hz fun h' O' sb => h _ ?_
  have hd : ∃ o, h'.get? dx = some o := let ⟨o, _, _, e', _⟩ := O'.ns; ⟨o, e'⟩
  refine I.write (x := a) (e := dx) (by rw [e]; exact True.intro) (.inr ho) (fun b q hb z => (sb.2 b hb).trans z) hd ?_
  refine ⟨by rw [upd_ne O.ne]; exact ho, ?_, O.ne, O'.obj, _, O'.ns, fun g => ?_, fun g hg => ?_⟩
  · have := length_putF f y fs; omega
  · show RelO ((putF f y fs).lookup g) (if g = f then some u else mA g)
    rw [lookup_putF]
    by_cases q : g = f
    · rw [if_pos q, if_pos q]; exact ry
    · rw [if_neg q, if_neg q]; exact r g
  · by_cases q : g = f
    · rw [q]; exact (keys_putF f y fs).1
    · refine (keys_putF f y fs).2 g (wi g fun z => hg ?_)
      show (if g = f then some u else mA g) = none
      rw [if_neg q]; exact z
theorem Inv.made (I : Inv X pins σ H s) : Inv X pins σ (upd (upd H s.heap.objs.size (.own (s.heap.objs.size + 1))) (s.heap.objs.size + 1) (.ins C s.heap.objs.size []))
    { s with heap := (s.heap.push PySem.W.emptyDict).push (PySem.W.instObj C s.heap.objs.size) } := by
  have e1 : (s.heap.push PySem.W.emptyDict).get? s.heap.objs.size = some PySem.W.emptyDict := Heap.get?_push_size s.heap rfl
  have e2 : ((s.heap.push PySem.W.emptyDict).push (PySem.W.instObj C s.heap.objs.size)).get? (s.heap.objs.size + 1) = some (PySem.W.instObj C s.heap.objs.size) := by
    have := Heap.get?_push_size (s.heap.push PySem.W.emptyDict) (o := PySem.W.instObj C s.heap.objs.size) rfl
    rwa [Heap.size_push] at this
  have e3 : (s.heap.push PySem.W.emptyDict).Ns s.heap.objs.size (fun _ => none) := ⟨PySem.W.emptyDict, #[], _, e1, rfl, (fun e he => absurd he (by simp)), fun _ => rfl⟩
  have I1 := I.laid (a := s.heap.objs.size) (o := .own (s.heap.objs.size + 1)) (h' := s.heap.push PySem.W.emptyDict) (t' := s.toks) (fun b u q => Heap.get?_push_of_some _ q) (Nat.le_refl _) ⟨_, e1⟩
  refine I1.laid (a := s.heap.objs.size + 1) (o := .ins C s.heap.objs.size []) (t' := s.toks) (fun b u q => Heap.get?_push_of_some _ q) (Nat.le_of_eq (Heap.size_push _ _)) ?_
  have ne : s.heap.objs.size ≠ s.heap.objs.size + 1 := Nat.ne_of_lt (Nat.lt_succ_self _)
  refine ⟨by rw [upd_ne ne, upd_same], Nat.zero_le _, ne, e2, fun _ => none, (Heap.Ns1.of_empty e3).at fun o q => Heap.get?_push_of_some _ q, fun _ => True.intro, fun y hy => absurd rfl hy⟩
theorem attr_of {prog : Program} {w : World} {env : Env} {e : Expr} {f : Str} {pos : Pos} {s : Shared} {Q : Value → Shared → Prop} (hb : attributeBase e f env (eval e env) = eval e env)
    (h : wpAny (model prog w) A (eval e env) (fun o s₁ => wpAny (model prog w) A (getAttr o f true) Q E s₁) E s) : wpAny (model prog w) A (eval (.Attribute e f pos) env) Q E s :=
  Attribute_any_ h (by rw [arm_eval_Attribute, hb])
end
def tFld (K : PySem.W.Frag) (ta : TE) (f : Str) : TE := fun σ H Q => ta σ H fun x H1 => ∃ a C dx fs v, x = .ref a ∧ H1 a = some (.ins C dx fs) ∧ Cls K C ∧ NoAttr K C f ∧ fs.lookup f = some v ∧ Q v H1
def sFld (K : PySem.W.Frag) (ta tv : TE) (f : Str) : TS := fun D σ H => tv σ H fun y H1 => ta σ H1 fun x H2 => ∃ a C dx fs, x = .ref a ∧ H2 a = some (.ins C dx fs) ∧ Cls K C ∧ NoAttr K C f ∧ fs.length < 1000 ∧
  D.nx σ (upd H2 a (.ins C dx (putF f y fs)))
def InOp (X : Cx) (op : Operator) (rd : V → V → Hp → VK → Prop) : Prop :=
  ∀ (pins : List (Addr × Obj)) (s : Shared) (σ : St) (H : Hp) (x y : V) (u v : Value) (Q : VK), Inv X pins σ H s → RelV x u → RelV y v → rd x y H Q → wpAny (model X.prog X.w) X.A (inplaceOp op u v) (EP X pins σ Q) X.xe s
def sFldAug (K : PySem.W.Frag) (ta tv : TE) (rd : V → V → Hp → VK → Prop) (f : Str) : TS := fun D σ H => ta σ H fun x H1 => ∃ a C dx fs v, x = .ref a ∧ H1 a = some (.ins C dx fs) ∧ Cls K C ∧ NoAttr K C f ∧ fs.lookup f = some v ∧
  tv σ H1 fun y H2 => rd v y H2 fun z H3 => ∃ dx' fs', H3 a = some (.ins C dx' fs') ∧ fs'.length < 1000 ∧ D.nx σ (upd H3 a (.ins C dx' (putF f z fs')))
section
variable {X : Cx} {o e value : Expr} {f : Str} {pos pos' tpos : Pos} {ta tv : TE}
theorem pe_fld (he : PE X e ta) (hb : attributeBase e f X.env (eval e X.env) = eval e X.env) : PE X (.Attribute e f pos) (tFld X.K ta f) := by
  intro pins s σ H Q I h
  refine attr_of hb (thn (he pins s σ H _ I h) fun u s1 ⟨x, H1, I1, rx, a, C, dx, fs, v, ex, ea, c, n, l, q⟩ => ?_)
  subst ex
  obtain rfl : u = Value.ref a := rx
  exact getattr_ok I1 ea c n l fun u' s2 I2 ru => ⟨v, H1, I2, ru, q⟩
theorem ps_fld (ha : PE X o ta) (hv : PE X value tv) (hs : swapsWith value (some (.Attribute o f pos')) pos.line X.env = pure false) : PS X (.Assign [.Attribute o f pos'] value pos) (sFld X.K ta tv f) := by
  intro pins s σ H D I h
  refine plainObj_wpAny_Assign_Attribute (thn (hv pins s σ H _ I h) fun u s1 ⟨y, H1, I1, ry, q⟩ => thn (ha pins s1 σ H1 _ I1 q) fun ov s2 ⟨x, H2, I2, rx, a, C, dx, fs, ex, ea, c, n, l, q2⟩ => ?_) hs
  subst ex
  obtain rfl : ov = Value.ref a := rx
  exact setattr_ok I2 ea c n l ry fun s3 I3 => ⟨σ, _, I3, q2⟩
theorem ps_fldaug {op : Operator} {rd : V → V → Hp → VK → Prop} (ha : PE X o ta) (hv : PE X value tv) (hop : InOp X op rd) : PS X (.AugAssign (.Attribute o f tpos) op value pos) (sFldAug X.K ta tv rd f) := by
  intro pins s σ H D I h
  refine wpAny_AugAssign_AttributeAny (thn (ha pins s σ H _ I h) fun ov s1 ⟨x, H1, I1, rx, a, C, dx, fs, v, ex, ea, c, n, l, q⟩ => ?_)
  subst ex
  obtain rfl : ov = Value.ref a := rx
  refine getattr_ok I1 ea c n l fun u s2 I2 ru => thn (hv pins s2 σ H1 _ I2 q) fun w3 s3 ⟨y, H2, I3, ry, q3⟩ => thn (hop pins s3 σ H2 v y u w3 _ I3 ru ry q3) fun w4 s4 ⟨z, H3, I4, rz, dx', fs', ea', l', q4⟩ => ?_
  exact setattr_ok I4 ea' c n l' rz fun s5 I5 => ⟨σ, _, I5, q4⟩
def rAdd : V → V → Hp → VK → Prop := fun x y H Q => ∃ i j, x = .int i ∧ y = .int j ∧ Q (.int (i + j)) H
theorem in_add : InOp X .Add rAdd := by
  rintro pins s σ H x y u v Q I rx ry ⟨i, j, rfl, rfl, q⟩
  obtain ⟨t, rfl⟩ := (show ∃ t, u = Value.int i t from rx)
  obtain ⟨t', rfl⟩ := (show ∃ t', v = Value.int j t' from ry)
  exact PyProof.Rows.iadd_int ⟨.int (i + j), H, I.tok _, ⟨_, rfl⟩, q⟩
theorem methcall_of {pl : Sem Bool} {m : Str} {apos : Pos} {args : List Expr} {pins : List (Addr × Obj)} {s : Shared} {σ : St} {H : Hp} {Q : Value → Shared → Prop} {te : TE} (he : PE X e te) (I : Inv X pins σ H s)
    (h : te σ H fun x H1 => ∃ a C dx fs g, x = .ref a ∧ H1 a = some (.ins C dx fs) ∧ Cls X.K C ∧ Meth X.K C m g ∧ fs.lookup m = none ∧
      ∀ s1, Inv X pins σ H1 s1 → wpAny (model X.prog X.w) X.A (callWith pos (.ref g) [.ref a] (backTo pos (starEach args X.env)) (backToKw pos (keywordEach [] X.env))) Q X.xe s1)
    (ht : eval (.Call (.Attribute e m apos) args [] pos) X.env = (do
      let ov ← eval e X.env
      standAt apos.atName
      let (f, first) ← holding [ov] (getMethod ov m pl)
      callWith pos f first (backTo pos (starEach args X.env)) (backToKw pos (keywordEach [] X.env)))) :
    wpAny (model X.prog X.w) X.A (eval (.Call (.Attribute e m apos) args [] pos) X.env) Q X.xe s := by
  refine PySem.W.methodCall_KW (pl := pl) (thn (he pins s σ H _ I h) fun u s1 ⟨x, H1, I1, rx, a, C, dx, fs, g, ex, ea, c, k, l, q⟩ => ?_) ht
  subst ex
  obtain rfl : u = Value.ref a := rx
  exact getmeth_ok I1 ea c k l (q s1 I1)
end
section
variable {X : Cx} {pins : List (Addr × Obj)} {σ : St} {H : Hp} {s : Shared} {A : Around} {E : Value → Shared → Prop} {Q : Value → Shared → Prop} {c : Value} {b : Bool}
end
end L2
namespace L2
open PySem PySem.Spec PyProof.Rows
structure Room (k : Nat) (A : Around) : Prop where
  hd : A.handled = none
  dp : A.depth + 3 * k + 5 < recursionLimit
  un : A.units + 16 * k + 200 < cLine
theorem Room.mono {j k : Nat} {A : Around} (r : Room k A) (h : j ≤ k) : Room j A := ⟨r.hd, by have := r.dp; omega, by have := r.un; omega⟩
theorem Room.deeper {k : Nat} {A : Around} (r : Room (k + 1) A) (env : Env) : Room k (A.deeper env) :=
  ⟨r.hd, by have := r.dp; show A.depth + 1 + 3 * k + 5 < _; omega, by have := r.un; show A.units + 3 + 16 * k + 200 < _; omega⟩
theorem Room.in1 {k : Nat} {A : Around} (r : Room (k + 1) A) : Room k A.in1 :=
  ⟨r.hd, by have := r.dp; show A.depth + 3 * k + 5 < _; omega, by have := r.un; show A.units + 1 + 16 * k + 200 < _; omega⟩
theorem make_depth {A : Around} {C : Addr} {us : List Value} {kw : List (Str × Value)} : (A.under (.builtin "type.__call__" ⟨.ref C :: us, kw⟩)).depth = A.depth + 1 := by
  first | rfl | simp [Around.under, Code.weight, Code.isCreation, Code.isGuard, Code.isCaller, Code.frames, Code.isFrame, guardIds]
theorem make_units {A : Around} {C : Addr} {us : List Value} {kw : List (Str × Value)} : (A.under (.builtin "type.__call__" ⟨.ref C :: us, kw⟩)).units = A.units + 1 := by
  first | rfl | simp [Around.under, Code.cUnits, Code.frames, Code.isFrame]
theorem Room.make {k : Nat} {A : Around} (r : Room (k + 1) A) (C : Addr) (us : List Value) (kw : List (Str × Value)) : Room k (A.under (.builtin "type.__call__" ⟨.ref C :: us, kw⟩)) :=
  ⟨r.hd, by have := r.dp; rw [make_depth]; omega, by have := r.un; rw [make_units]; omega⟩
theorem Room.depth {k : Nat} {A : Around} (r : Room k A) : A.depth < recursionLimit := by have := r.dp; omega
theorem Room.units {k : Nat} {A : Around} (r : Room k A) : A.units + 64 < cLine := by have := r.un; omega
def tNil : TA := fun _ H Q => Q [] H
def tCons (ta : TE) (tr : TA) : TA := fun σ H Q => ta σ H fun x H1 => tr σ H1 fun xs H2 => Q (x :: xs) H2
section
variable {X : Cx} {e : Expr} {es : List Expr} {te : TE} {t : TA} {pos : Pos}
theorem pa_nil : PA X [] tNil := fun _ _ _ _ H Q I h => Calls.spliced_nil ⟨[], H, I, .nil, h⟩
theorem pa_cons (ha : PE X e te) (hr : PA X es t) (hs : starEach (e :: es) X.env = (false, eval e X.env) :: starEach es X.env := by rfl) : PA X (e :: es) (tCons te t) := by
  intro pos pins s σ H Q I h
  rw [hs]
  show wpAny _ _ (spliced ((false, eval e X.env) :: backTo pos (starEach es X.env))) _ _ s
  refine Calls.spliced_cons (thn (ha pins s σ H _ I h) fun u s1 ⟨x, H1, I1, r1, q1⟩ => ?_)
  exact thn (hr pos pins s1 σ H1 _ I1 q1) fun us s2 ⟨xs, H2, I2, r2, q2⟩ => ⟨x :: xs, H2, I2, .cons r1 r2, q2⟩
def tTup (t : TA) : TE := fun σ H Q => t σ H fun xs H1 => xs.length ≤ sizeLine ∧ ∀ p, H1 p = none → Q (.ref p) (upd H1 p (.tup xs))
def tLst (t : TA) : TE := fun σ H Q => t σ H fun xs H1 => xs.length ≤ sizeLine ∧ ∀ p, H1 p = none → Q (.ref p) (upd H1 p (.lst xs))
theorem pe_tup {x1} (h : PA X es t) : PE X (.Tuple es x1 pos) (tTup t) := by
  intro pins s σ H Q I hq
  refine wpAny_Tuple_spliced (thn (h pos pins s σ H _ I hq) fun us s1 ⟨xs, H1, I1, r, z, q⟩ => ⟨by rw [← r.length]; exact z, ?_⟩)
  have hf : H1 s1.heap.objs.size = none := I1.hok.fresh (Nat.le_refl _)
  refine ⟨.ref s1.heap.objs.size, upd H1 s1.heap.objs.size (.tup xs), I1.laid (t' := s1.toks) (fun b u e => Heap.get?_push_of_some _ e) (Nat.le_refl _) ?_, rfl, q _ hf⟩
  exact ⟨z, us, r, ⟨_, Heap.get?_push_size _ rfl, rfl, _, rfl⟩⟩
theorem pe_lst (h : PA X es t) : PE X (.List es pos) (tLst t) := by
  intro pins s σ H Q I hq
  refine wpAny_List_spliced (thn (h pos pins s σ H _ I hq) fun us s1 ⟨xs, H1, I1, r, z, q⟩ => ⟨by rw [← r.length]; exact z, ?_⟩)
  have hf : H1 s1.heap.objs.size = none := I1.hok.fresh (Nat.le_refl _)
  refine ⟨.ref s1.heap.objs.size, upd H1 s1.heap.objs.size (.lst xs), I1.laid (t' := s1.toks) (fun b u e => Heap.get?_push_of_some _ e) (Nat.le_refl _) ?_, rfl, q _ hf⟩
  exact ⟨z, us, 0, r, Heap.get?_push_size _ rfl⟩
end
abbrev Sp := List V → Hp → VK → XK → Prop
abbrev CXT := List Env → Hp → Shared → XK → Value → Shared → Prop
structure Env0 (P : Program) (w : World) (K : PySem.W.Frag) (mg : Str → Option Value) (base : Heap) (A : Around) (outer : List Env) (s : Shared) (H : Hp) : Prop where
  frames : A.frames = some outer
  mod : Mod K mg base
  bs : ∀ b o, base.get? b = some o → s.heap.get? b = some o ∧ H b = none
  bsz : base.objs.size ≤ s.heap.objs.size
  funs : s.heap.FunFrames base outer
  frf : ∀ b ∈ frs outer, H b = none
  hok : HOk P w H s.heap
  bare : AllBare s.gens
def CE (outer : List Env) (P : Program) (w : World) (H : Hp) (s : Shared) (Q : VK) (u : Value) (s' : Shared) : Prop :=
  ∃ v H', s'.os = s.os ∧ AllBare s'.gens ∧ Un (frs outer) [] H H' s.heap s'.heap ∧ HOk P w H' s'.heap ∧ RelV v u ∧ Q v H'
def CR (CX : CXT) (outer : List Env) (P : Program) (w : World) (H : Hp) (s : Shared) (Q : VK) (E : XK) (r : Result) (s' : Shared) : Prop :=
  match r with
  | .ok (.ret u) => CE outer P w H s Q u s'
  | .ok _ => False
  | .error e => CX outer H s E e s'
structure FnOk (P : Program) (w : World) (K : PySem.W.Frag) (mg : Str → Option Value) (base : Heap) (CX : CXT) (k : Nat) (f : Addr) (fd : FuncData) (ps : List Str) (sp : Sp) : Prop where
  len : ∀ vs H Q E, sp vs H Q E → vs.length = ps.length
  run : ∀ (A : Around) (outer : List Env) (s : Shared) (H : Hp) (args : Args) (us : List Value) (vs : List V) (Q : VK) (E : XK), Room k A → Env0 P w K mg base A outer s H → BindsTo s fd args (ps.zip us) → Vals vs us → sp vs H Q E →
    codeAny (model P w) A (.call (.ref f) args) (CR CX outer P w H s Q E) s
theorem FnOk.mono {P : Program} {w : World} {K : PySem.W.Frag} {mg : Str → Option Value} {base : Heap} {CX : CXT} {j k : Nat} {f : Addr} {fd : FuncData} {ps : List Str} {sp : Sp} (F : FnOk P w K mg base CX j f fd ps sp) (h : j ≤ k) :
    FnOk P w K mg base CX k f fd ps sp := ⟨F.len, fun A outer s H args us vs Q E hr => F.run A outer s H args us vs Q E (hr.mono h)⟩
theorem FnOk.imp {P : Program} {w : World} {K : PySem.W.Frag} {mg : Str → Option Value} {base : Heap} {CX : CXT} {k : Nat} {f : Addr} {fd : FuncData} {ps : List Str} {sp sp' : Sp} (F : FnOk P w K mg base CX k f fd ps sp)
    (h : ∀ vs H Q E, sp' vs H Q E → sp vs H Q E) : FnOk P w K mg base CX k f fd ps sp' :=
  ⟨fun vs H Q E q => F.len vs H Q E (h _ _ _ _ q), fun A outer s H args us vs Q E hr he hb hv hs => F.run A outer s H args us vs Q E hr he hb hv (h _ _ _ _ hs)⟩
theorem Env0.make {P : Program} {w : World} {K : PySem.W.Frag} {mg : Str → Option Value} {base : Heap} {A : Around} {outer : List Env} {s : Shared} {H : Hp} (e : Env0 P w K mg base A outer s H) (C : Addr) (us : List Value) (kw : List (Str × Value)) :
    Env0 P w K mg base (A.under (.builtin "type.__call__" ⟨.ref C :: us, kw⟩)) outer s H := ⟨by first | exact e.frames | (simpa [Around.under, Code.envs, Code.isFrame, pushEnvs] using e.frames), e.mod, e.bs, e.bsz, e.funs, e.frf, e.hok, e.bare⟩
theorem Env0.in1 {P : Program} {w : World} {K : PySem.W.Frag} {mg : Str → Option Value} {base : Heap} {A : Around} {outer : List Env} {s : Shared} {H : Hp} (e : Env0 P w K mg base A outer s H) :
    Env0 P w K mg base A.in1 outer s H := ⟨e.frames, e.mod, e.bs, e.bsz, e.funs, e.frf, e.hok, e.bare⟩
section
variable {X : Cx} {pins : List (Addr × Obj)} {σ : St} {H : Hp} {s s' : Shared}
theorem Inv.env0 (I : Inv X pins σ H s) : Env0 X.prog X.w X.K X.mg X.base X.A X.stack s H :=
  ⟨I.ok.frames, I.ok.mod, I.bs, Nat.le_trans I.ok.bsz I.sz, I.stack, I.stkFree, I.hok, I.bare⟩
theorem Inv.after {Q : VK} {u : Value} (I : Inv X pins σ H s) (h : CE X.stack X.prog X.w H s Q u s') : EP X pins σ Q u s' := by
  obtain ⟨v, H', os, bare, un, hok, r, q⟩ := h
  obtain ⟨hh, g, d, t, os'⟩ := s'
  obtain rfl : os' = s.os := os
  exact ⟨v, H', I.call (h' := hh) (g' := g) (d' := d) (t' := t) (ch := []) un hok bare (fun b z => absurd z (by simp)), r, q⟩
end
def tCall (sp : Sp) (dvs : List V) (E : XK) (t : TA) : TE := fun σ H Q => t σ H fun vs H1 => sp (vs ++ dvs) H1 Q E
def tMeth (C : Addr) (m : Str) (sp : Sp) (dvs : List V) (E : XK) (ta : TE) (t : TA) : TE := fun σ H Q => ta σ H fun x H1 => ∃ a dx fs, x = .ref a ∧ H1 a = some (.ins C dx fs) ∧ fs.lookup m = none ∧
  t σ H1 fun vs H2 => sp (x :: (vs ++ dvs)) H2 Q E
def Binds (K : PySem.W.Frag) (fd : FuncData) (ps : List Str) (ds : List Value) : Prop :=
  ∀ (s : Shared) (us : List Value), K.In s.heap → (us ++ ds).length = ps.length → BindsTo s fd ⟨us, []⟩ (ps.zip (us ++ ds))
theorem Binds.all {K : PySem.W.Frag} {fd : FuncData} {ps : List Str} (h : ∀ us : List Value, us.length = ps.length → bindArgs fd ⟨us, []⟩ = pure (ps.zip us)) : Binds K fd ps [] := fun s us _ hl => by
  rw [List.append_nil] at hl ⊢
  exact .of_eq (h us hl)
def Passes (CX : CXT) (X : Cx) (E : XK) : Prop := ∀ (pins : List (Addr × Obj)) (σ : St) (H : Hp) (s : Shared) (e : Value) (s' : Shared), Inv X pins σ H s → CX X.stack H s E e s' → X.xe e s'
section
variable {X : Cx} {CX : CXT} {k : Nat} {f C : Addr} {fd : FuncData} {ps : List Str} {sp : Sp} {dvs : List V} {ds : List Value} {E : XK} {x m : Str} {p pos apos : Pos} {e o : Expr} {es : List Expr} {ta : TE} {t : TA}
theorem run_fn {pins : List (Addr × Obj)} {σ : St} {H : Hp} {s : Shared} {Q : VK} {us : List Value} {vs : List V} (F : FnOk X.prog X.w X.K X.mg X.base CX k f fd ps sp) (hr : Room k X.A) (hb : Binds X.K fd ps ds) (hd : Vals dvs ds) (hx : Passes CX X E)
    (I : Inv X pins σ H s) (r : Vals vs us) (h : sp (vs ++ dvs) H Q E) : wpAny (model X.prog X.w) X.A (call (.ref f) us) (EP X pins σ Q) X.xe s := by
  have r2 : Vals (vs ++ dvs) (us ++ ds) := r.append hd
  have hl : (us ++ ds).length = ps.length := by rw [← r2.length]; exact F.len _ _ _ _ h
  refine wpAny_call (codeAny_mono (F.run X.A X.stack s H ⟨us, []⟩ (us ++ ds) (vs ++ dvs) Q E hr I.env0 (hb s us I.kIn hl) r2 h) fun r s' hq => ?_)
  cases r with
  | error e => exact hx pins σ H s e s' I hq
  | ok fl =>
    cases fl with
    | ret u => exact I.after hq
    | next => exact False.elim hq
    | brk => exact False.elim hq
    | cont => exact False.elim hq
theorem pe_call (F : FnOk X.prog X.w X.K X.mg X.base CX k f fd ps sp) (hr : Room k X.A) (hg : Gl X x) (hm : X.mg x = some (.ref f)) (hk : PySem.W.keepIn X.K (.ref f) = true) (hb : Binds X.K fd ps ds) (hd : Vals dvs ds) (hx : Passes CX X E)
    (ha : PA X (e :: es) t) (hdb : (x == ("__debug__" : Str)) = false := by decide) (he : starEach (e :: es) X.env = (false, eval e X.env) :: starEach es X.env := by rfl) (hpl : (backTo pos (starEach es X.env)).any (·.1) = false := by rfl) :
    PE X (.Call (.Name x p) (e :: es) [] pos) (tCall sp dvs E t) := by
  intro pins s σ H Q I h
  refine wpAny_Call_Name_kw (ld_glob I hg hm ?_ hdb)
  refine PySem.W.callWith_K (h₀ := X.base) I.ok.mod.kin hk (thn (ha pos pins s σ H _ I h) fun us s1 ⟨vs, H1, I1, r, q⟩ => ⟨I1.kIn, ?_⟩) he hpl
  exact run_fn F hr hb hd hx I1 r q
theorem pe_meth {pl : Sem Bool} (he : PE X o ta) (c : Cls X.K C) (hm : Meth X.K C m f) (F : FnOk X.prog X.w X.K X.mg X.base CX k f fd ps sp) (hr : Room k X.A) (hb : Binds X.K fd ps ds) (hd : Vals dvs ds) (hx : Passes CX X E) (ha : PA X (e :: es) t)
    (hst : starEach (e :: es) X.env = (false, eval e X.env) :: starEach es X.env := by rfl) (hpl : (backTo pos (starEach es X.env)).any (·.1) = false := by rfl)
    (ht : eval (.Call (.Attribute o m apos) (e :: es) [] pos) X.env = (do
      let ov ← eval o X.env
      standAt apos.atName
      let (f, first) ← holding [ov] (getMethod ov m pl)
      callWith pos f first (backTo pos (starEach (e :: es) X.env)) (backToKw pos (keywordEach [] X.env))) := by rfl) :
    PE X (.Call (.Attribute o m apos) (e :: es) [] pos) (tMeth C m sp dvs E ta t) := by
  intro pins s σ H Q I h
  refine PySem.W.methodCall_KW (pl := pl) (thn (he pins s σ H _ I h) fun u s1 ⟨x, H1, I1, rx, a, dx, fs, ex, ea, l, q⟩ => ?_) ht
  subst ex
  obtain rfl : u = Value.ref a := rx
  refine getmeth_ok I1 ea c hm l ?_
  refine PySem.W.callWith_K (first := [.ref a]) (h₀ := X.base) I.ok.mod.kin hm.kp (thn (ha pos pins s1 σ H1 _ I1 q) fun us s2 ⟨vs, H2, I2, r, q2⟩ => ⟨I2.kIn, ?_⟩) hst hpl
  exact run_fn (us := .ref a :: us) (vs := .ref a :: vs) F hr hb hd hx I2 (.cons rfl r) q2
theorem pe_meth0 {pl : Sem Bool} (he : PE X o ta) (c : Cls X.K C) (hm : Meth X.K C m f) (F : FnOk X.prog X.w X.K X.mg X.base CX k f fd ps sp) (hr : Room k X.A) (hb : Binds X.K fd ps ds) (hd : Vals dvs ds) (hx : Passes CX X E)
    (ht : eval (.Call (.Attribute o m apos) [] [] pos) X.env = (do
      let ov ← eval o X.env
      standAt apos.atName
      let (f, first) ← holding [ov] (getMethod ov m pl)
      callWith pos f first (backTo pos (starEach [] X.env)) (backToKw pos (keywordEach [] X.env))) := by rfl) :
    PE X (.Call (.Attribute o m apos) [] [] pos) (tMeth C m sp dvs E ta tNil) := by
  intro pins s σ H Q I h
  refine PySem.W.methodCall_KW (pl := pl) (thn (he pins s σ H _ I h) fun u s1 ⟨x, H1, I1, rx, a, dx, fs, ex, ea, l, q⟩ => ?_) ht
  subst ex
  obtain rfl : u = Value.ref a := rx
  refine getmeth_ok I1 ea c hm l ?_
  exact PySem.W.callWith_K0 (first := [.ref a]) I1.kIn hm.kp (run_fn (us := [.ref a]) (vs := [.ref a]) F hr hb hd hx I1 (.cons rfl .nil) q)
structure Mk (K : PySem.W.Frag) (C f : Addr) : Prop where
  makes : PySem.W.makesIn K C = true
  init : PySem.W.findIn K (.ref C) "__init__" = some (some (.ref f))
  fn : PySem.W.isFn K (.ref f) = true
  kp : PySem.W.keepIn K (.ref C) = true
end
section
variable {X : Cx} {CX : CXT} {k : Nat} {f C : Addr} {fd : FuncData} {ps ks : List Str} {sp : Sp} {E : XK} {x m : Str} {p pos apos kpos : Pos} {e o : Expr} {es : List Expr} {kws : List Keyword} {te ta : TE} {t tk : TA} {nm : Option Str}
variable {g : List Value → List Value → List Value} {gV : List V → List V → List V}
end
structure FnScope (N P : List Str) (sc : Scope) : Prop where
  kind : sc.kind = .function
  co : sc.isCoroutine = false
  gen : sc.isGenerator = false
  nd : N.Nodup
  pre : N.take P.length = P
  par : ∀ x ∈ P, sc.names.lookup x = some .local ∨ sc.names.lookup x = some .cell
  nofree : ∀ y ∈ sc.names, y.2 ≠ .free
theorem bindL_out {kindOf : Str → Option NameKind} {x : Str} : ∀ {binds : List (Str × Value)} {m : Str → Option Value}, (∀ v, (x, v) ∉ binds) → bindL kindOf binds m x = m x
  | [], _, _ => rfl
  | (n, v) :: r, m, h => by
    unfold bindL
    rw [bindL_out fun w hw => h w (List.mem_cons_of_mem _ hw)]
    split
    · have : x ≠ n := by rintro rfl; exact h v List.mem_cons_self
      simp [this]
    · rfl
theorem bindC_out {kindOf : Str → Option NameKind} {x : Str} : ∀ {binds : List (Str × Value)} {m : Str → Option Value}, (∀ v, (x, v) ∉ binds) → bindC kindOf binds m x = m x
  | [], _, _ => rfl
  | (n, v) :: r, m, h => by
    unfold bindC
    rw [bindC_out fun w hw => h w (List.mem_cons_of_mem _ hw)]
    split
    · rfl
    · have : x ≠ n := by rintro rfl; exact h v List.mem_cons_self
      simp [this]
theorem bindL_get {kindOf : Str → Option NameKind} {x : Str} {v : Value} : ∀ {P : List Str} {vs : List Value} {i : Nat} {m : Str → Option Value}, P.Nodup → P[i]? = some x → vs[i]? = some v → kindOf x = some .local →
    bindL kindOf (P.zip vs) m x = some v
  | [], _, _, _, _, h, _, _ => by simp at h
  | _ :: _, [], _, _, _, _, h, _ => by simp at h
  | p :: P, w :: vs, 0, m, nd, h1, h2, hk => by
    simp at h1 h2; subst h1; subst h2
    show bindL kindOf ((p, w) :: P.zip vs) m p = _
    unfold bindL
    rw [bindL_out fun v hv => (List.nodup_cons.mp nd).1 (List.of_mem_zip hv).1, if_pos hk]
    simp
  | p :: P, w :: vs, i + 1, m, nd, h1, h2, hk => by
    show bindL kindOf ((p, w) :: P.zip vs) m x = _
    unfold bindL
    exact bindL_get (i := i) (List.nodup_cons.mp nd).2 (by simpa using h1) (by simpa using h2) hk
theorem bindC_get {kindOf : Str → Option NameKind} {x : Str} {v : Value} : ∀ {P : List Str} {vs : List Value} {i : Nat} {m : Str → Option Value}, P.Nodup → P[i]? = some x → vs[i]? = some v → kindOf x ≠ some .local →
    bindC kindOf (P.zip vs) m x = some v
  | [], _, _, _, _, h, _, _ => by simp at h
  | _ :: _, [], _, _, _, _, h, _ => by simp at h
  | p :: P, w :: vs, 0, m, nd, h1, h2, hk => by
    simp at h1 h2; subst h1; subst h2
    show bindC kindOf ((p, w) :: P.zip vs) m p = _
    unfold bindC
    rw [bindC_out fun v hv => (List.nodup_cons.mp nd).1 (List.of_mem_zip hv).1, if_neg hk]
    simp
  | p :: P, w :: vs, i + 1, m, nd, h1, h2, hk => by
    show bindC kindOf ((p, w) :: P.zip vs) m x = _
    unfold bindC
    exact bindC_get (i := i) (List.nodup_cons.mp nd).2 (by simpa using h1) (by simpa using h2) hk
def start (N : List Str) (vs : List V) : St := vs.map some ++ List.replicate (N.length - vs.length) none
def cxOf (CX : CXT) (P : Program) (w : World) (K : PySem.W.Frag) (mg : Str → Option Value) (base : Heap) (N : List Str) (qual : Str) (scope : Scope) (f : Addr) (cd : Value) (A : Around) (outer : List Env) (s : Shared) (H : Hp) (E : XK) : Cx where
  prog := P
  w := w
  K := K
  mg := mg
  base := base
  A := A.deeper (envOfC qual scope s.heap.objs.size f cd)
  N := N
  s₀ := s
  H₀ := H
  env := envOfC qual scope s.heap.objs.size f cd
  outer := outer
  stack := envOfC qual scope s.heap.objs.size f cd :: outer
  ex := []
  calm := true
  fn := fun _ => true
  pn := []
  xe := fun e s' => wpAny (model P w) (A.deeper (envOfC qual scope s.heap.objs.size f cd)) (leaving (envOfC qual scope s.heap.objs.size f cd) e) (fun _ s'' => CX outer H s E e s'') (fun e' s'' => CX outer H s E e' s'') s'
theorem cell_has {sc : Scope} {n : Nat} {x : Str} (h : sc.names.lookup x = some .cell) : ∃ c, (cellsFrom n sc.names []).lookup x = some c := by
  have q := PySem.W.cellsFrom_some sc.names n [] (.inl h)
  exact Option.isSome_iff_exists.mp q
theorem inv_start {CX : CXT} {P : Program} {w : World} {K : PySem.W.Frag} {mg : Str → Option Value} {base : Heap} {N ps : List Str} {qual : Str} {scope : Scope} {f : Addr} {cd : Value} {A : Around} {outer : List Env} {s s1 : Shared} {H : Hp} {E : XK} {us : List Value} {vs : List V}
    (S : FnScope N ps scope) (hd : A.handled = none) (e0 : Env0 P w K mg base A outer s H) (hl : vs.length = ps.length) (r : Vals vs us)
    (x : InCallC s s.heap.objs.size (bindL (envOfC qual scope s.heap.objs.size f cd).kindOf (ps.zip us) fun _ => none) (cellsFrom (s.heap.objs.size + 1) scope.names []) (bindC (envOfC qual scope s.heap.objs.size f cd).kindOf (ps.zip us) fun _ => none) s1) :
    Inv (cxOf CX P w K mg base N qual scope f cd A outer s H E) [] (start N vs) H s1 := by
  have hpl : ps.length ≤ N.length := by have := congrArg List.length S.pre; rw [List.length_take] at this; omega
  obtain ⟨h1, tk, rfl, hk⟩ := x.done
  have noA : ∀ b : Addr, b ∉ (cxOf CX P w K mg base N qual scope f cd A outer s H E).ex := fun b z => absurd (show b ∈ ([] : List Addr) from z) (by simp)
  refine ⟨⟨e0.mod, S.kind, rfl, rfl, Nat.le_refl _, fun y z c h1 h2 => ?_, fun y hy => ?_, fun y c _ h => ?_, fun _ => hd, Around.frames_deeper e0.frames, .inr ⟨rfl, rfl⟩, fun b z => absurd z (noA b), e0.bs, e0.bsz, fun b _ _ => noA b, fun b z => absurd z (noA b), e0.funs, e0.frf⟩,
    rfl, e0.bare, Un.kept hk, ⟨_, x.toInCall.ns, fun i y v h1 h2 h3 => ?_⟩, fun y c h => ⟨_, x.cell y c h⟩, e0.hok.fresh (Nat.le_refl _), fun y c h => ?_, fun p hp => absurd (show p ∈ ([] : List (Addr × Obj)) from hp) (by simp), e0.hok.kept hk, ?_⟩
  · exact name_of_addr x.apart (PySem.mem_of_lookup h1) (PySem.mem_of_lookup h2)
  · have hy : scope.names.lookup y = some .cell ∨ scope.names.lookup y = some .free := hy
    rcases hy with hy | hy
    · exact cell_has hy
    · exact absurd rfl (S.nofree _ (PySem.mem_of_lookup hy))
  · exact Nat.le_of_lt (x.above y c (PySem.mem_of_lookup h))
  · have hi : i < vs.length := by
      unfold start at h2
      by_cases hi : i < vs.length
      · exact hi
      · rw [List.getElem?_append_right (by simpa using hi)] at h2
        rw [List.getElem?_replicate] at h2
        split at h2 <;> cases h2
    have ha : vs[i]? = some v := by
      unfold start at h2
      rw [List.getElem?_append_left (by simpa using hi), List.getElem?_map] at h2
      cases e : vs[i]? with
      | none => rw [e] at h2; cases h2
      | some a => rw [e] at h2; cases h2; rfl
    obtain ⟨u, hu, rv⟩ := r.get ha
    have hp : ps[i]? = some y := by
      rw [← S.pre, List.getElem?_take_of_lt (by omega)]; exact h1
    have ndP : ps.Nodup := by rw [← S.pre]; exact S.nd.sublist (List.take_sublist _ _)
    refine ⟨u, rv, ?_⟩
    rcases S.par y (List.mem_of_getElem? hp) with k | k
    · exact .inl ⟨k, bindL_get ndP hp hu k⟩
    · obtain ⟨c, e⟩ := cell_has (n := s.heap.objs.size + 1) k
      refine .inr ⟨.inl k, c, e, ?_⟩
      have q := x.cell y c e
      rw [bindC_get ndP hp hu (by show scope.names.lookup y ≠ _; rw [k]; decide)] at q
      exact q
  · exact e0.hok.fresh (Nat.le_of_lt (x.above y c (PySem.mem_of_lookup h)))
  · unfold start
    show _ = N.length
    rw [List.length_append, List.length_map, List.length_replicate]
    omega
theorem fn_of {CX : CXT} {P : Program} {w : World} {K : PySem.W.Frag} {mg : Str → Option Value} {base : Heap} {k : Nat} {f : Addr} {name qual : Str} {params : Arguments} {body : List Stmt} {scope : Scope} {dV kV doc pm cdv ct oc : Value} {an od : Option Addr}
    {osl : Array (Option Value)} {N ps : List Str} {sp : Sp} (lk : K.lookup f = some ⟨oc, od, .func (PySem.W.fnOf name qual params body scope dV kV doc pm an cdv ct), osl⟩) (hcd : PySem.W.codeIn K cdv qual = true) (S : FnScope N ps scope)
    (len : ∀ vs H Q E, sp vs H Q E → vs.length = ps.length)
    (hbody : ∀ (A : Around) (outer : List Env) (s : Shared) (H : Hp) (vs : List V) (Q : VK) (E : XK), Room k (A.deeper (envOfC qual scope s.heap.objs.size f cdv)) → sp vs H Q E →
      ∃ t, PSs (cxOf CX P w K mg base N qual scope f cdv A outer s H E) body t ∧ t { nx := fun _ H' => Q .non H', rt := Q } (start N vs) H) :
    FnOk P w K mg base CX (k + 1) f (PySem.W.fnOf name qual params body scope dV kV doc pm an cdv ct) ps sp := by
  refine ⟨len, fun A outer s H args us vs Q E hr e0 hb r hsp => ?_⟩
  have hl := len _ _ _ _ hsp
  have KX : K.In s.heap := e0.mod.kin.keeps fun b o e => (e0.bs b o e).1
  have lim : s.heap.NoLimit := e0.mod.nolimit.keeps fun b o e => (e0.bs b o e).1
  have hkind : ∀ y ∈ ps.zip us, scope.names.lookup y.1 = some .local ∨ (scope.names.lookup y.1 = some .cell ∧ ((cellsFrom (s.heap.objs.size + 1) scope.names []).lookup y.1).isSome = true) := fun ⟨n, v⟩ hy => by
    rcases S.par n (List.of_mem_zip hy).1 with q | q
    · exact .inl q
    · exact .inr ⟨q, PySem.W.cellsFrom_some _ _ _ (.inl q)⟩
  refine codeAny_call_function hr.depth (KX _ _ lk) rfl S.co S.gen rfl (PySem.W.codeRec_of KX hcd) (hb _ _ _ _ ?_)
  refine wpAny_newFunctionEnv_cells S.kind hkind fun env he s1 x => ?_
  subst he
  refine ⟨lim.keeps x.toInCall.keep, codeAny_func ?_⟩
  obtain ⟨t, ht, hq⟩ := hbody A outer s H vs Q E (hr.deeper _) hsp
  have I : Inv (cxOf CX P w K mg base N qual scope f cdv A outer s H E) [] (start N vs) H s1 := inv_start S hr.hd e0 hl r x
  refine wpAny_mono (ht [] s1 (start N vs) H _ I hq) (fun fl s' hs => ?_) fun e s' hs => hs
  have fin : ∀ {σ' : St} {H' : Hp} {v : V} {u : Value}, Inv (cxOf CX P w K mg base N qual scope f cdv A outer s H E) [] σ' H' s' → RelV v u → Q v H' → CE outer P w H s Q u s' :=
    fun {σ' H' v u} J rv q => ⟨v, H', J.os, J.bare, J.base, J.hok, rv, q⟩
  cases fl with
  | ret u =>
    obtain ⟨v, σ', H', J, rv, q⟩ := hs
    exact fin J rv q
  | next =>
    obtain ⟨σ', H', J, q⟩ := hs
    exact fin (v := V.non) (u := Value.none) J rfl q
  | brk =>
    obtain ⟨_, _, _, q⟩ := hs
    exact False.elim q
  | cont =>
    obtain ⟨_, _, _, q⟩ := hs
    exact False.elim q
end L2
namespace L2
open PySem PySem.Spec PyProof.Rows
section
variable {X : Cx} {x : Str} {p pos : Pos} {e : Expr} {es : List Expr} {t : TA} {id T : String} {r : List V → Hp → VK → Prop}
def tCB (r : List V → Hp → VK → Prop) (t : TA) : TE := fun σ H Q => t σ H fun vs H1 => r vs H1 Q
theorem pe_callB (hc : CallR X (.builtin id) r) (hg : Gl X x) (hm : X.mg x = none) (hv : bootBuiltins x = some (.builtin id)) (ha : PA X (e :: es) t) (hn : x ≠ "__name__" := by decide) (hdb : (x == ("__debug__" : Str)) = false := by decide)
    (he : starEach (e :: es) X.env = (false, eval e X.env) :: starEach es X.env := by rfl) (hpl : (backTo pos (starEach es X.env)).any (·.1) = false := by rfl) : PE X (.Call (.Name x p) (e :: es) [] pos) (tCB r t) := by
  intro pins s σ H Q I h
  refine wpAny_Call_Name_kw (ld_blt I hg hm hv ?_ hn hdb)
  exact PyProof.Rows.callWith_builtin1 (thn (ha pos pins s σ H _ I h) fun us s1 ⟨vs, H1, I1, r1, q1⟩ => hc pins s1 σ H1 vs us Q I1 r1 q1) he hpl
theorem pe_callTy (hc : CallR X (.type T) r) (hg : Gl X x) (hm : X.mg x = none) (hv : bootBuiltins x = some (.type T)) (ha : PA X (e :: es) t) (hn : x ≠ "__name__" := by decide) (hdb : (x == ("__debug__" : Str)) = false := by decide)
    (he : starEach (e :: es) X.env = (false, eval e X.env) :: starEach es X.env := by rfl) (hpl : (backTo pos (starEach es X.env)).any (·.1) = false := by rfl) : PE X (.Call (.Name x p) (e :: es) [] pos) (tCB r t) := by
  intro pins s σ H Q I h
  refine wpAny_Call_Name_kw (ld_blt I hg hm hv ?_ hn hdb)
  exact PyProof.Rows.callWith_type1 (thn (ha pos pins s σ H _ I h) fun us s1 ⟨vs, H1, I1, r1, q1⟩ => hc pins s1 σ H1 vs us Q I1 r1 q1) he hpl
end
end L2
namespace HT
open PySem PyProof.Rows
section
open PySem.SeqAt
open PySem.AutoSeq1 (wpAny_loadPart')
open PySem.MeetsSeq PySem.MeetsSeq2 PySem.MeetsSeq3
end
section
variable {prog : Program} {w : World} {A : Around} {E : Value → Shared → Prop} {s : Shared}
theorem cat_tup {t b : Addr} {vs ws : List Value} {Q : Value → Shared → Prop} (ht : IsTup s.heap t vs.toArray) (hb : IsTup s.heap b ws.toArray) (hv : vs ≠ [])
    (h1 : ws = [] → Q (.ref t) s) (h2 : ws ≠ [] → Q (.ref s.heap.objs.size) { s with heap := s.heap.push { cls := .type "tuple", data := .seq (vs ++ ws).toArray } })
    (hsz : vs.length + ws.length ≤ sizeLine) : wpAny (model prog w) A (binaryOp .Add (.ref t) (.ref b)) Q E s := by
  obtain ⟨⟨cls, dd, data, sl⟩, ho, hc, n, hd⟩ := id ht
  obtain ⟨⟨cls2, dd2, data2, sl2⟩, ho2, hc2, n2, hd2⟩ := id hb
  simp only at hc hd hc2 hd2
  subst hc hd hc2 hd2
  have e : vs.toArray ++ ws.toArray = (vs ++ ws).toArray := by simp
  by_cases hw : ws = []
  · exact concat_meets ⟨_, ho, rfl⟩ ⟨_, ho2, rfl⟩ noFill_tuple_add seq_tuple_add PySem.F.slot_tuple_add PySem.F.entry_tuple_add (PySem.F.args_tuple_add_2 _ _)
      (tuple_addW1 t b vs.toArray ws.toArray n n2 dd dd2 sl sl2 (by simpa using hv) (by simp [hw])) ⟨ho, ho2, h1 hw⟩
  · refine concat_meets ⟨_, ho, rfl⟩ ⟨_, ho2, rfl⟩ noFill_tuple_add seq_tuple_add PySem.F.slot_tuple_add PySem.F.entry_tuple_add (PySem.F.args_tuple_add_2 _ _)
      (tuple_addW2 t b vs.toArray ws.toArray n n2 dd dd2 sl sl2 (by simpa using hv) (by simpa using hw) (by rw [List.size_toArray, List.size_toArray]; exact hsz)) ⟨ho, ho2, ?_⟩
    rw [e]
    exact h2 hw
def sIx (n d : Nat) : Option Int → Nat
  | none => d
  | some v => if v < 0 then (v + (n : Int)).toNat else min v.toNat n
theorem sIx_nat (n d k : Nat) : sIx n d (some (k : Int)) = min k n := by
  show (if (k : Int) < 0 then ((k : Int) + (n : Int)).toNat else min (k : Int).toNat n) = min k n
  rw [if_neg (by omega), Int.toNat_natCast]
theorem sIx_le (n d : Nat) (hd : d ≤ n) (o : Option Int) : sIx n d o ≤ n := by
  cases o with
  | none => exact hd
  | some v =>
    show (if v < 0 then (v + (n : Int)).toNat else min v.toNat n) ≤ n
    by_cases hv : v < 0
    · rw [if_pos hv]; omega
    · rw [if_neg hv]; exact Nat.min_le_right _ _
theorem clip_eq (v : Int) (n d : Nat) : (if v < 0 then max (v + (n : Int)) 0 else min v (n : Int)) = ((sIx n d (some v) : Nat) : Int) := by
  show (if v < 0 then max (v + (n : Int)) 0 else min v (n : Int)) = (((if v < 0 then (v + (n : Int)).toNat else min v.toNat n) : Nat) : Int)
  by_cases hv : v < 0
  · simp only [if_pos hv]; omega
  · simp only [if_neg hv]; omega
theorem adjust_gen (lo hi : Option Int) (n : Nat) : Builtin.Slice.sliceAdjust lo hi 1 (n : Int) = (((sIx n 0 lo : Nat) : Int), ((sIx n n hi : Nat) : Int)) := by
  have h1 : ¬ ((1 : Int) < 0) := by omega
  unfold Builtin.Slice.sliceAdjust
  simp only [h1, if_false]
  refine Prod.ext ?_ ?_
  · cases lo with
    | none => rfl
    | some v => exact clip_eq v n 0
  · cases hi with
    | none => rfl
    | some v => exact clip_eq v n n
theorem places_gen (i j : Nat) : Builtin.Slice.slicePlaces (i : Int) (j : Int) 1 = j - i := by
  unfold Builtin.Slice.slicePlaces
  have h1 : (1 : Int) > 0 := by omega
  simp only [h1, if_true, Int.ediv_one]
  split <;> omega
theorem slicePart_ {v : Value} {o : Option Int} {Q : Option Int → Shared → Prop} (p : IsPart v o) (h : Q o s) : wpAny (model prog w) A (Builtin.Slice.slicePartIndex v) Q E s := by
  cases p with
  | none => exact slicePart_none h
  | int i t => exact slicePart_int h
theorem sliceApplied_gen {sl : Addr} {vl vu : Value} {lo hi : Option Int} {n : Nat} {Q : Int × Int × Nat → Shared → Prop} (hs : s.heap.IsSliceOf sl vl vu .none) (pl : IsPart vl lo) (pu : IsPart vu hi)
    (h : Q (((sIx n 0 lo : Nat) : Int), 1, sIx n n hi - sIx n 0 lo) s) : wpAny (model prog w) A (Builtin.Slice.sliceApplied (.ref sl) (pure (n : Int))) Q E s := by
  obtain ⟨os, hos, hcs, hds⟩ := id hs
  unfold Builtin.Slice.sliceApplied Builtin.Slice.sliceFields
  refine wpAny_bind (wpAny_bind (wpAny_field hos hds (x := vl) rfl (wpAny_bind (wpAny_field hos hds (x := vu) rfl (wpAny_bind (wpAny_field hos hds (x := .none) rfl (wpAny_pure ?_)))))))
  refine wpAny_bind (slicePart_none ?_)
  show wpAny _ _ (if ((1 : Int) == 0) = true then _ else _) _ _ s
  rw [if_neg (by decide)]
  refine wpAny_bind (slicePart_ pl (wpAny_bind (slicePart_ pu (wpAny_bind (wpAny_pure ?_)))))
  show wpAny _ _ (match Builtin.Slice.sliceAdjust lo hi 1 (n : Int) with | (lo, hi) => pure (lo, (1 : Int), Builtin.Slice.slicePlaces lo hi 1)) _ _ s
  rw [adjust_gen lo hi n]
  show wpAny _ _ (pure (((sIx n 0 lo : Nat) : Int), (1 : Int), Builtin.Slice.slicePlaces ((sIx n 0 lo : Nat) : Int) ((sIx n n hi : Nat) : Int) 1)) _ _ s
  rw [places_gen]
  exact wpAny_pure h
theorem pick_gen (xs : Array Value) (i k : Nat) : ((List.range k).filterMap fun (m : Nat) => xs[((i : Int) + (m : Int) * 1).toNat]?).toArray = ((xs.toList.drop i).take k).toArray := by
  have e : (fun (m : Nat) => xs[((i : Int) + (m : Int) * 1).toNat]?) = fun m => xs[i + m]? := by
    funext m
    have : ((i : Int) + (m : Int) * 1).toNat = i + m := by omega
    rw [this]
  rw [e]
  have := pick_run xs i k
  rw [List.filterMap_map] at this
  have e2 : ((fun x => xs[x]?) ∘ fun x => i + x) = fun m => xs[i + m]? := rfl
  rw [e2] at this
  rw [this]
theorem getItem_tuple_cut {t sl : Addr} {items : Array Value} {vl vu : Value} {lo hi : Option Int} {Q : Value → Shared → Prop} (ht : IsTup s.heap t items) (hs : s.heap.IsSliceOf sl vl vu .none) (pl : IsPart vl lo) (pu : IsPart vu hi)
    (hw : ¬ (sIx items.size 0 lo = 0 ∧ sIx items.size items.size hi = items.size))
    (h : Q (.ref s.heap.objs.size) { s with heap := s.heap.push { cls := .type "tuple", data := .seq ((items.toList.drop (sIx items.size 0 lo)).take (sIx items.size items.size hi - sIx items.size 0 lo)).toArray } })
    (hsz : items.size ≤ sizeLine) : wpAny (model prog w) A (getItem (.ref t) (.ref sl)) Q E s := by
  have htake : sizeOk (.seq ((items.toList.drop (sIx items.size 0 lo)).take (sIx items.size items.size hi - sIx items.size 0 lo)).toArray) := by
    show ((items.toList.drop (sIx items.size 0 lo)).take (sIx items.size items.size hi - sIx items.size 0 lo)).toArray.size ≤ sizeLine
    rw [List.size_toArray, List.length_take, List.length_drop, Array.length_toList]
    omega
  have hj : sIx items.size items.size hi ≤ items.size := sIx_le _ _ (Nat.le_refl _) hi
  obtain ⟨os, hos, hcs, hds⟩ := id hs
  have hTs : s.TypeIs (.ref sl) "slice" := ⟨os, hos, hcs⟩
  unfold getItem
  try with_reducible refine wpAny_holding ?_
  first | refine wpAny_bind (wpAny_pure ?_) | skip
  refine wpAny_bind (wpAny_sequenceKey ht.typeIs (by decide) ?_)
  refine wpAny_bind (wpAny_callSpecial?_slot (name := Str.ofString "__getitem__") ht.typeIs PyProof.Rows.slot_tuple_getitem
    (wpAny_call_entry PyProof.Rows.slot_tuple_getitem ht.typeIs entry_tuple_getitem ?_ (args_tuple_getitem _ _)))
  show wpAny _ _ (Builtin.Tuple.tupleItemsOf (.ref t) >>= _) _ _ s
  refine wpAny_bind (tupleItemsOf_ ht ?_)
  refine wpAny_bind (wpAny_typeOf hTs ?_)
  rw [if_pos (by decide)]
  refine wpAny_bind (sliceApplied_gen hs pl pu ?_)
  have hno : ¬ ((((sIx items.size 0 lo : Nat) : Int) == 0 && (1 : Int) == 1 && (sIx items.size items.size hi - sIx items.size 0 lo) == items.size) = true) := by
    intro q
    rw [Bool.and_eq_true, Bool.and_eq_true] at q
    have q1 : ((sIx items.size 0 lo : Nat) : Int) = 0 := eq_of_beq q.1.1
    have q2 : sIx items.size items.size hi - sIx items.size 0 lo = items.size := eq_of_beq q.2
    exact hw ⟨by omega, by omega⟩
  show wpAny _ _ (if (((sIx items.size 0 lo : Nat) : Int) == 0 && (1 : Int) == 1 && (sIx items.size items.size hi - sIx items.size 0 lo) == items.size) = true then _ else _) _ _ s
  rw [if_neg hno, pick_gen]
  first
    | exact wpAny_bind (m := Builtin.Tuple.tupleExact _) (wpAny_newObj_type (wpAny_pure ⟨_, rfl, wpAny_pure h⟩) htake)
    | exact wpAny_bind (m := Builtin.Tuple.tupleExact _) (wpAny_newObj_type (wpAny_bind (wpAny_pure (wpAny_pure ⟨_, rfl, wpAny_pure h⟩))) htake)
    | exact wpAny_bind (wpAny_bind (m := Builtin.Tuple.tupleExact _) (wpAny_newObj_type (wpAny_pure (wpAny_pure ⟨_, rfl, wpAny_pure h⟩)) htake))
    | exact wpAny_bind (wpAny_bind (m := Builtin.Tuple.tupleExact _) (wpAny_newObj_type (wpAny_pure ⟨_, rfl, wpAny_pure h⟩) htake))
end
end HT
namespace L2
open PySem PySem.Spec PyProof.Rows
abbrev TO := St → Hp → (Option Int → Hp → Prop) → Prop
def PO (X : Cx) (e : Option Expr) (t : TO) : Prop :=
  ∀ (pins : List (Addr × Obj)) (s : Shared) (σ : St) (H : Hp) (Q : Option Int → Hp → Prop), Inv X pins σ H s → t σ H Q →
    wpAny (model X.prog X.w) X.A (evalPart e X.env) (fun u s' => ∃ o H', Inv X pins σ H' s' ∧ IsPart u o ∧ Q o H') X.xe s
def tNoPart : TO := fun _ H Q => Q none H
def tPart (t : TE) : TO := fun σ H Q => t σ H fun x H1 => ∃ i, x = .int i ∧ Q (some i) H1
section
variable {X : Cx} {e : Expr} {te : TE} {lo hi : Option Expr} {tl th : TO} {pos p2 : Pos}
theorem po_none : PO X none tNoPart := by
  intro pins s σ H Q I h
  rw [evalPart_none]
  exact wpAny_pure ⟨none, H, I, .none, h⟩
theorem po_some (h : PE X e te) : PO X (some e) (tPart te) := by
  intro pins s σ H Q I hw
  rw [evalPart_some]
  refine thn (h pins s σ H _ I hw) fun u s1 ⟨x, H1, I1, r1, q1⟩ => ?_
  obtain ⟨i, rfl, q⟩ := q1
  obtain ⟨t, rfl⟩ := r1
  exact ⟨some i, H1, I1, .int i t, q⟩
def SlR (X : Cx) (r : V → Option Int → Option Int → Hp → VK → Prop) : Prop :=
  ∀ (pins : List (Addr × Obj)) (s : Shared) (σ : St) (H : Hp) (x : V) (v vl vu : Value) (lo hi : Option Int) (sl : Addr) (Q : VK), Inv X pins σ H s → RelV x v → s.heap.IsSliceOf sl vl vu .none → IsPart vl lo → IsPart vu hi → r x lo hi H Q →
    ∃ T id, typeLookup (.type T) "__getitem__" = pure (some (.builtin id)) ∧ s.TypeIs v T ∧ wpAny (model X.prog X.w) X.A (getItem v (.ref sl)) (EP X pins σ Q) X.xe s
def tSl (r : V → Option Int → Option Int → Hp → VK → Prop) (te : TE) (tl th : TO) : TE := fun σ H Q => te σ H fun x H1 => tl σ H1 fun l H2 => th σ H2 fun u H3 => r x l u H3 Q
theorem pe_slice {r : V → Option Int → Option Int → Hp → VK → Prop} (hr : SlR X r) (he : PE X e te) (hl : PO X lo tl) (hu : PO X hi th) : PE X (.Subscript e (.Slice lo hi none p2) pos) (tSl r te tl th) := by
  intro pins s σ H Q I h
  refine Subscript_ (thn (he pins s σ H _ I h) fun v s1 ⟨x, H1, I1, r1, q1⟩ => ?_)
  refine wpAny_Slice (thn (hl pins s1 σ H1 _ I1 q1) fun vl s2 ⟨l, H2, I2, pl, q2⟩ => thn (hu pins s2 σ H2 _ I2 q2) fun vu s3 ⟨u, H3, I3, pu, q3⟩ => ?_)
  rw [evalPart_none]
  refine wpAny_pure ?_
  have I4 : Inv X pins σ H3 { s3 with heap := s3.heap.push { cls := .type "slice", data := .fields #[vl, vu, .none] } } := I3.kept (t' := s3.toks) fun b ob q => Heap.get?_push_of_some _ q
  obtain ⟨T, id, hT, ht, hg⟩ := hr pins { s3 with heap := s3.heap.push { cls := .type "slice", data := .fields #[vl, vu, .none] } } σ H3 x v vl vu l u s3.heap.objs.size Q I4 r1 (Heap.IsSliceOf.new ..) pl pu q3
  show wpAny (model X.prog X.w) X.A (subscriptTail e (.Slice lo hi none p2) v (.ref s3.heap.objs.size)) (EP X pins σ Q) X.xe { s3 with heap := s3.heap.push { cls := .type "slice", data := .fields #[vl, vu, .none] } }
  exact tail_any (ops := [.ref s3.heap.objs.size, v]) ht hT hg (by with_unfolding_all rfl)
def cutV (xs : List V) (lo hi : Option Int) : List V := (xs.drop (HT.sIx xs.length 0 lo)).take (HT.sIx xs.length xs.length hi - HT.sIx xs.length 0 lo)
theorem cutV_length (xs : List V) (lo hi : Option Int) : (cutV xs lo hi).length ≤ xs.length := by
  unfold cutV
  rw [List.length_take, List.length_drop]
  omega
def rSlT (K : PySem.W.Frag) : V → Option Int → Option Int → Hp → VK → Prop := fun x lo hi H Q => ∃ a xs, x = .ref a ∧ SqT K H a xs ∧
  ¬ (HT.sIx xs.length 0 lo = 0 ∧ HT.sIx xs.length xs.length hi = xs.length) ∧ ∀ p, H p = none → Q (.ref p) (upd H p (.tup (cutV xs lo hi)))
theorem sl_tup : SlR X (rSlT X.K) := by
  intro pins s σ H x v vl vu lo hi sl Q I rx hs pl pu h
  obtain ⟨a, xs, rfl, hx, hw, q⟩ := h
  cases rx
  obtain ⟨its, r, ht, hz⟩ := I.tuple hx
  have hlen : its.toArray.size = xs.length := by rw [List.size_toArray]; exact r.length.symm
  refine ⟨"tuple", _, PyProof.Rows.slot_tuple_getitem.lookup, ht.typeIs, ?_⟩
  refine HT.getItem_tuple_cut ht hs pl pu (by rw [hlen]; exact hw) ?_ (by rw [hlen]; exact hz)
  rw [hlen]
  refine ⟨.ref s.heap.objs.size, _, I.laid (t' := s.toks) (o := .tup (cutV xs lo hi)) (fun b ob q => Heap.get?_push_of_some _ q) (Nat.le_refl _) ?_, rfl, q _ (I.hok.fresh (Nat.le_refl _))⟩
  exact ⟨Nat.le_trans (cutV_length xs lo hi) hz, _, (r.drop (HT.sIx xs.length 0 lo)).take (HT.sIx xs.length xs.length hi - HT.sIx xs.length 0 lo), IsTup.new _ _⟩
def rCatT (K : PySem.W.Frag) : R2 := fun x y H Q => ∃ a b xs ys, x = .ref a ∧ y = .ref b ∧ SqT K H a xs ∧ SqT K H b ys ∧ xs ≠ [] ∧ xs.length + ys.length ≤ sizeLine ∧
  (ys = [] → Q (.ref a) H) ∧ (ys ≠ [] → ∀ p, H p = none → Q (.ref p) (upd H p (.tup (xs ++ ys))))
theorem Vals.nil_iff {xs : List V} {us : List Value} (r : Vals xs us) : us = [] ↔ xs = [] := by
  cases r with
  | nil => simp
  | cons _ _ => simp
theorem op_catT : OpR X (binaryOp .Add) (rCatT X.K) := by
  intro pins s σ H x y v u Q I rx ry h
  obtain ⟨a, b, xs, ys, rfl, rfl, ha, hb, hx, hz, q1, q2⟩ := h
  cases rx
  cases ry
  obtain ⟨its, r1, p1, _⟩ := I.tuple ha
  obtain ⟨its2, r2, p2, _⟩ := I.tuple hb
  refine HT.cat_tup p1 p2 (fun z => hx (r1.nil_iff.mp z)) (fun z => ⟨.ref a, H, I, rfl, q1 (r2.nil_iff.mp z)⟩) (fun z => ?_) (by rw [← r1.length, ← r2.length]; exact hz)
  refine ⟨.ref s.heap.objs.size, _, I.laid (t' := s.toks) (o := .tup (xs ++ ys)) (fun b ob q => Heap.get?_push_of_some _ q) (Nat.le_refl _) ?_, rfl, q2 (fun w => z (r2.nil_iff.mpr w)) _ (I.hok.fresh (Nat.le_refl _))⟩
  exact ⟨by rw [List.length_append]; exact hz, _, r1.append r2, IsTup.new _ _⟩
end
end L2
namespace L2
open PySem PySem.Spec PyProof.Rows
def ixN (n : Nat) (i : Int) : Option Nat := if 0 ≤ i then (if i < n then some i.toNat else none) else if -(n : Int) ≤ i then some (i + n).toNat else none
def atI {α : Type} (xs : List α) (i : Int) : Option α := (ixN xs.length i).bind fun j => xs[j]?
theorem ixN_seq {n : Nat} {i : Int} {j : Nat} (h : ixN n i = some j) : seqIndex? i n = some j ∧ j < n ∧ -(n : Int) ≤ i ∧ i < n := by
  unfold ixN at h
  by_cases h0 : 0 ≤ i
  · rw [if_pos h0] at h
    by_cases h1 : i < n
    · rw [if_pos h1] at h
      have e : i.toNat = j := Option.some.inj h
      exact ⟨by rw [seqIndex_of h0 h1, e], by omega, by omega, h1⟩
    · rw [if_neg h1] at h; cases h
  · rw [if_neg h0] at h
    by_cases h1 : -(n : Int) ≤ i
    · rw [if_pos h1] at h
      have e : (i + n).toNat = j := Option.some.inj h
      exact ⟨by rw [seqIndex_neg (by omega) h1, e], by omega, h1, by omega⟩
    · rw [if_neg h1] at h; cases h
theorem atI_get {α : Type} {xs : List α} {i : Int} {v : α} (h : atI xs i = some v) : ∃ j, seqIndex? i xs.length = some j ∧ xs[j]? = some v ∧ j < xs.length ∧ -(xs.length : Int) ≤ i ∧ i < xs.length := by
  unfold atI at h
  cases e : ixN xs.length i with
  | none => rw [e] at h; cases h
  | some j =>
    rw [e] at h
    obtain ⟨h1, h2, h3, h4⟩ := ixN_seq e
    exact ⟨j, h1, h, h2, h3, h4⟩
theorem atI_nat {α : Type} {xs : List α} {j : Nat} {v : α} (h : xs[j]? = some v) : atI xs (j : Int) = some v := by
  have hj : j < xs.length := (List.getElem?_eq_some_iff.mp h).1
  have e : ixN xs.length (j : Int) = some j := by
    unfold ixN
    rw [if_pos (by omega), if_pos (by omega)]; simp
  unfold atI; rw [e]; exact h
def PlainIx (b : Expr) : Prop := ∀ o i, subscripted b false o i = operate [o, i] (getItem o i)
def IxR (X : Cx) (r : R2) : Prop :=
  ∀ (value slice : Expr) (pins : List (Addr × Obj)) (s : Shared) (σ : St) (H : Hp) (x y : V) (v u : Value) (Q : VK), Inv X pins σ H s → RelV x v → RelV y u → r x y H Q →
    subscripted slice false v u = operate [v, u] (getItem v u) → wpAny (model X.prog X.w) X.A (subscriptTail value slice v u) (EP X pins σ Q) X.xe s
def MtR (X : Cx) (id : String) (r : V → List V → Hp → VK → Prop) : Prop :=
  ∀ (pins : List (Addr × Obj)) (s : Shared) (σ : St) (H : Hp) (x : V) (xs : List V) (v : Value) (us : List Value) (Q : VK), Inv X pins σ H s → RelV x v → Vals xs us → r x xs H Q →
    wpAny (model X.prog X.w) X.A (call (.builtin id) (v :: us)) (EP X pins σ Q) X.xe s
section
variable {X : Cx} {a b : Expr} {ta tb : TE} {pos : Pos}
theorem pe_ix {r : R2} (hr : IxR X r) (ha : PE X a ta) (hb : PE X b tb) (hs : PlainIx b) : PE X (.Subscript a b pos) (tOp r ta tb) := by
  intro pins s σ H Q I h
  exact Subscript_ (binT ha hb I h fun v u s2 x y H2 I2 rx ry q => hr a b pins s2 σ H2 x y v u Q I2 rx ry q (hs _ _))
def rIxL (K : PySem.W.Frag) : R2 := fun x y H Q => ∃ p xs i v, x = .ref p ∧ y = .int i ∧ SqL K H p xs ∧ atI xs i = some v ∧ Q v H
def rIxT (K : PySem.W.Frag) : R2 := fun x y H Q => ∃ p xs i v, x = .ref p ∧ y = .int i ∧ SqT K H p xs ∧ atI xs i = some v ∧ Q v H
theorem ix_list : IxR X (rIxL X.K) := by
  intro value slice pins s σ H x y v u Q I rx ry h hs
  obtain ⟨p, xs, i, z, rfl, rfl, hq, he, q⟩ := h
  cases rx
  obtain ⟨t, rfl⟩ := ry
  obtain ⟨its, r, pl, hz⟩ := I.list hq
  obtain ⟨j, h1, h2, h3, h4, h5⟩ := atI_get he
  obtain ⟨w, ew, rw'⟩ := r.get h2
  have hl := r.length
  have hn := line63
  have fin : EP X pins σ Q w s := ⟨z, H, I, rw', q⟩
  by_cases h0 : 0 ≤ i
  · have hj : i.toNat = j := by
      rw [seqIndex_of h0 h5] at h1
      exact Option.some.inj h1
    exact item_listR pl.isList h0 (by omega) (by rw [hj]; simpa using ew) fin hs
  · have hj : (i + (its.toArray.size : Int)).toNat = j := by
      rw [seqIndex_neg (by omega) h4] at h1
      rw [List.size_toArray, ← hl]
      exact Option.some.inj h1
    exact subscriptTail_builtinR (x := w) pl.isList.typeIs slot_list_getitem.lookup
      (wpAny_getItem_list_neg (Q := fun r s' => r = w ∧ EP X pins σ Q r s') pl.isList (by omega) (by rw [List.size_toArray] <;> omega) (by omega) (by rw [hj]; simpa using ew) ⟨rfl, fin⟩) hs
theorem ix_tup : IxR X (rIxT X.K) := by
  intro value slice pins s σ H x y v u Q I rx ry h hs
  obtain ⟨p, xs, i, z, rfl, rfl, hq, he, q⟩ := h
  cases rx
  obtain ⟨t, rfl⟩ := ry
  obtain ⟨its, r, pl, hz⟩ := I.tuple hq
  obtain ⟨j, h1, h2, h3, h4, h5⟩ := atI_get he
  obtain ⟨w, ew, rw'⟩ := r.get h2
  have hl := r.length
  have hn := line63
  have fin : EP X pins σ Q w s := ⟨z, H, I, rw', q⟩
  exact subscriptTail_builtinR (x := w) pl.typeIs slot_tuple_getitem.lookup
    (getItem_tuple (j := j) (Q := fun r s' => r = w ∧ EP X pins σ Q r s') pl (by omega) (by omega) (by rw [List.size_toArray, ← hl]; exact h1) (by simpa using ew) ⟨rfl, fin⟩) hs
theorem mapSeq_set (its : List Value) (n j : Nat) (u : Value) : Obj.mapSeq (·.setIfInBounds j u) { cls := .type "list", data := .seq its.toArray n } = { cls := .type "list", data := .seq (its.set j u).toArray n } := by
  simp [Obj.mapSeq]
theorem Inv.lst {pins : List (Addr × Obj)} {σ : St} {H : Hp} {s : Shared} {p : Addr} {xs : List V} (I : Inv X pins σ H s) (h : H p = some (.lst xs)) :
    ∃ (its : List Value) (n : Nat), Vals xs its ∧ s.heap.get? p = some { cls := .type "list", data := .seq its.toArray n } ∧ xs.length ≤ sizeLine := by
  obtain ⟨z, its, n, r, e⟩ := I.hok p _ h
  exact ⟨its, n, r, e, z⟩
theorem Inv.lstUpd {pins : List (Addr × Obj)} {σ : St} {H : Hp} {s : Shared} {p : Addr} {xs ys : List V} {its its' : List Value} {n n' : Nat} {f : Obj → Obj} (I : Inv X pins σ H s) (h : H p = some (.lst xs))
    (ho : s.heap.get? p = some { cls := .type "list", data := .seq its.toArray n }) (hf : f { cls := .type "list", data := .seq its.toArray n } = { cls := .type "list", data := .seq its'.toArray n' }) (r : Vals ys its') (hz : ys.length ≤ sizeLine) (t : Nat) :
    Inv X pins σ (upd H p (.lst ys)) { s with heap := s.heap.update p f, toks := t } := by
  have e : (s.heap.update p f).get? p = some { cls := .type "list", data := .seq its'.toArray n' } := by
    rw [Heap.get?_update_self f ho (by rw [hf] <;> rfl), hf]
  refine I.write (x := p) (e := p) (by rw [h]; trivial) (.inl rfl) (fun b u hb q => (Heap.get?_update_other _ _ (Ne.symm hb)).trans q) ⟨_, e⟩ ?_
  exact ⟨hz, its', n', r, e⟩
def rSetL : V → V → V → Hp → (Hp → Prop) → Prop := fun o i v H Q => ∃ p xs k j, o = .ref p ∧ i = .int k ∧ H p = some (.lst xs) ∧ ixN xs.length k = some j ∧ Q (upd H p (.lst (xs.set j v)))
theorem set_list : PSet X rSetL := by
  intro pins s σ H o i v ov iv u Q I ro ri rv h
  obtain ⟨p, xs, k, j, rfl, rfl, hp, hj, q⟩ := h
  cases ro
  obtain ⟨t, rfl⟩ := ri
  obtain ⟨its, n, r, ho, hz⟩ := I.lst hp
  obtain ⟨h1, h2, h3, h4⟩ := ixN_seq hj
  have hl := r.length
  have hn := line63
  have I' : Inv X pins σ (upd H p (.lst (xs.set j v))) { s with heap := s.heap.update p (Obj.mapSeq (·.setIfInBounds j u)) } :=
    I.lstUpd hp ho (mapSeq_set its n j u) (r.set rv j) (by rw [List.length_set]; exact hz) s.toks
  by_cases h0 : 0 ≤ k
  · have hk : k.toNat = j := by
      rw [seqIndex_of h0 h4] at h1
      exact Option.some.inj h1
    exact PySem.W.ki_setAt ho h0 (by omega) (by rw [List.size_toArray, ← hl]; exact h4) (by rw [hk]; exact ⟨_, I', q⟩)
  · have hk : (k + (its.toArray.size : Int)).toNat = j := by
      rw [seqIndex_neg (by omega) h3] at h1
      rw [List.size_toArray, ← hl]
      exact Option.some.inj h1
    exact PySem.W.ki_setBack ho (by omega) (by rw [List.size_toArray, ← hl]; exact h3) (by omega) (by rw [hk]; exact ⟨_, I', q⟩)
theorem slice_bounds (lo hi : Option Int) (n : Nat) : (sliceBounds lo hi none n).1 = ((HT.sIx n 0 lo : Nat) : Int) ∧ (sliceBounds lo hi none n).2.1 = ((HT.sIx n n hi : Nat) : Int) ∧ (sliceBounds lo hi none n).2.2 = 1 := by
  refine ⟨?_, ?_, rfl⟩
  · cases lo with
    | none => simp [sliceBounds, HT.sIx]
    | some i =>
      simp only [sliceBounds, HT.sIx, Option.getD_none, show (1 : Int) > 0 by decide, if_true]
      by_cases h : i < 0
      · simp only [h, if_true] <;> omega
      · simp only [h, if_false] <;> omega
  · cases hi with
    | none => simp [sliceBounds, HT.sIx]
    | some i =>
      simp only [sliceBounds, HT.sIx, Option.getD_none, show (1 : Int) > 0 by decide, if_true]
      by_cases h : i < 0
      · simp only [h, if_true] <;> omega
      · simp only [h, if_false] <;> omega
theorem slicePick_cut (its : List Value) (lo hi : Option Int) : slicePick its.toArray lo hi none = ((its.drop (HT.sIx its.length 0 lo)).take (HT.sIx its.length its.length hi - HT.sIx its.length 0 lo)).toArray := by
  obtain ⟨h1, h2, h3⟩ := slice_bounds lo hi its.toArray.size
  unfold slicePick
  rw [h1, h2, h3]
  simp only [sliceRange_one, pick_run, List.size_toArray] <;> rfl
def rSlL (K : PySem.W.Frag) : V → Option Int → Option Int → Hp → VK → Prop := fun x lo hi H Q => ∃ a xs, x = .ref a ∧ SqL K H a xs ∧ ∀ p, H p = none → Q (.ref p) (upd H p (.lst (cutV xs lo hi)))
theorem sl_list : SlR X (rSlL X.K) := by
  intro pins s σ H x v vl vu lo hi sl Q I rx hs pl pu h
  obtain ⟨a, xs, rfl, hx, q⟩ := h
  cases rx
  obtain ⟨its, r, ht, hz⟩ := I.list hx
  have hlen := r.length
  refine ⟨"list", _, slot_list_getitem.lookup, ht.isList.typeIs, ?_⟩
  refine wpAny_getItem_list_slice ht.isList hs pl pu .none (by simp) ?_ (by rw [List.size_toArray] <;> omega)
  rw [slicePick_cut, ← hlen]
  refine ⟨.ref s.heap.objs.size, _, I.laid (t' := s.toks) (o := .lst (cutV xs lo hi)) (fun b ob q => Heap.get?_push_of_some _ q) (Nat.le_refl _) ?_, rfl, q _ (I.hok.fresh (Nat.le_refl _))⟩
  exact ⟨Nat.le_trans (cutV_length xs lo hi) hz, _, 0, (r.drop (HT.sIx xs.length 0 lo)).take (HT.sIx xs.length xs.length hi - HT.sIx xs.length 0 lo), Heap.get?_push_size _ rfl⟩
theorem call_len_seq : CallR X (.builtin "len") (fun xs H Q => ∃ p ys, xs = [.ref p] ∧ (SqL X.K H p ys ∨ SqT X.K H p ys) ∧ Q (.int ys.length) H) := by
  intro pins s σ H xs us Q I r h
  obtain ⟨p, ys, rfl, hq, q⟩ := h
  obtain ⟨u, rfl, rx⟩ := vals1 r
  cases rx
  have hn := line63
  rcases hq with hq | hq
  · obtain ⟨its, r', pl, hz⟩ := I.list hq
    have hlen := r'.length
    exact Calls.call_len_list pl.isList (by simp only [List.size_toArray] <;> omega) ⟨.int ys.length, H, I.tok _, ⟨s.toks + 1, by rw [List.size_toArray, hlen]⟩, q⟩
  · obtain ⟨its, r', pl, hz⟩ := I.tuple hq
    have hlen := r'.length
    exact len_tuple pl (by simp only [List.size_toArray] <;> omega) ⟨.int ys.length, H, I.tok _, ⟨s.toks + 1, by rw [List.size_toArray, hlen]⟩, q⟩
theorem call_list_of : CallR X (.type "list") (fun xs H Q => ∃ p ys, xs = [.ref p] ∧ (SqL X.K H p ys ∨ SqT X.K H p ys) ∧ ∀ l, H l = none → Q (.ref l) (upd H l (.lst ys))) := by
  intro pins s σ H xs us Q I r h
  obtain ⟨p, ys, rfl, hq, q⟩ := h
  obtain ⟨u, rfl, rx⟩ := vals1 r
  cases rx
  have fin : ∀ (its : List Value), Vals ys its → ys.length ≤ sizeLine → ∀ (h' : Heap) (c' : Nat), (∀ b o', s.heap.get? b = some o' → h'.get? b = some o') →
      h'.get? s.heap.objs.size = some { cls := .type "list", dict := none, data := .seq its.toArray c', slots := #[] } → EP X pins σ Q (.ref s.heap.objs.size) { s with heap := h' } := fun its r' hz h' c' kp e =>
    ⟨.ref s.heap.objs.size, _, I.laid (t' := s.toks) kp (Nat.le_refl _) (show ObjOk X.prog X.w _ h' _ (.lst ys) from ⟨hz, its, c', r', e⟩), rfl, q _ (I.hok.fresh (Nat.le_refl _))⟩
  rcases hq with hq | hq
  · obtain ⟨its, r', pl, hz⟩ := I.list hq
    have hlen := r'.length
    obtain ⟨o, ho, hc, n, hd⟩ := pl.isList
    exact call_list_seq p (.inl rfl) ho hc hd (fun h' c' kp e => fin its r' hz h' c' kp e) (by simp only [List.size_toArray] <;> omega)
  · obtain ⟨its, r', pl, hz⟩ := I.tuple hq
    have hlen := r'.length
    obtain ⟨o, ho, hc, n, hd⟩ := pl
    exact call_list_seq p (.inr rfl) ho hc hd (fun h' c' kp e => fin its r' hz h' c' kp e) (by simp only [List.size_toArray] <;> omega)
theorem call_tuple_of : CallR X (.type "tuple") (fun xs H Q => ∃ p ys, xs = [.ref p] ∧ ((SqL X.K H p ys ∧ ∀ l, H l = none → Q (.ref l) (upd H l (.tup ys))) ∨ (SqT X.K H p ys ∧ Q (.ref p) H))) := by
  intro pins s σ H xs us Q I r h
  obtain ⟨p, ys, rfl, h⟩ := h
  obtain ⟨u, rfl, rx⟩ := vals1 r
  cases rx
  rcases h with ⟨hq, q⟩ | ⟨hq, q⟩
  · obtain ⟨its, r', pl, hz⟩ := I.list hq
    have hlen := r'.length
    refine call_tuple_list pl.isList (fun h' kp => ?_) (by simp only [List.size_toArray] <;> omega)
    have I1 : Inv X pins σ H { s with heap := h' } := I.kept (t' := s.toks) kp
    have I2 : Inv X pins σ (upd H h'.objs.size (.tup ys)) { s with heap := h'.push { cls := .type "tuple", data := .seq its.toArray } } :=
      I1.laid (t' := s.toks) (fun b o e => Heap.get?_push_of_some _ e) (Nat.le_refl _) (show ObjOk X.prog X.w _ _ _ (.tup ys) from ⟨hz, its, r', IsTup.new _ _⟩)
    exact ⟨.ref h'.objs.size, _, I2, rfl, q _ (I1.hok.fresh (Nat.le_refl _))⟩
  · obtain ⟨its, r', pl, hz⟩ := I.tuple hq
    exact call_tuple_same pl ⟨.ref p, H, I, rfl, q⟩
def tyV (K : PySem.W.Frag) (T : String) (x : V) (H : Hp) : Prop := match x with
  | .str _ => T = "str"
  | .int _ => T = "int"
  | .ref p => (T = "list" ∧ ∃ xs, SqL K H p xs) ∨ (T = "tuple" ∧ ∃ o, K.lookup p = some o ∧ o.cls = .type "tuple" ∧ o.dict = none) ∨
      (T = "dict" ∧ ((∃ kvs, H p = some (.dK kvs)) ∨ ∃ kvs, H p = some (.dT kvs))) ∨ (T = "set" ∧ ∃ S n, H p = some (.set S n))
  | _ => False
theorem tyV_is {pins : List (Addr × Obj)} {σ : St} {H : Hp} {s : Shared} {T : String} {x : V} {v : Value} (I : Inv X pins σ H s) (r : RelV x v) (ty : tyV X.K T x H) :
    s.TypeIs v T ∧ ∀ a, v = .ref a → ∃ ob, s.heap.get? a = some ob ∧ ob.dict = none := by
  cases x with
  | str z =>
    obtain ⟨t, rfl⟩ := r
    cases (show T = "str" from ty)
    exact ⟨typeIs_str s z t, fun _ e => nomatch e⟩
  | int i =>
    obtain ⟨t, rfl⟩ := r
    cases (show T = "int" from ty)
    exact ⟨typeIs_int s i t, fun _ e => nomatch e⟩
  | ref p =>
    cases r
    rcases ty with ⟨rfl, xs, hq⟩ | ⟨rfl, o, hk, hc, hd⟩ | ⟨rfl, hk⟩ | ⟨rfl, S, n, hk⟩
    · obtain ⟨its, _, pl, _⟩ := I.list hq
      refine ⟨pl.isList.typeIs, fun a e => ?_⟩
      cases e
      obtain ⟨o, n, e, c, hd, _⟩ := pl
      exact ⟨o, e, hd⟩
    · refine ⟨⟨o, I.kIn p o hk, hc⟩, fun a e => ?_⟩
      cases e
      exact ⟨o, I.kIn _ o hk, hd⟩
    · have z : ∃ o, s.heap.get? p = some o ∧ o.ExactDict := by
        rcases hk with ⟨kvs, hk⟩ | ⟨kvs, hk⟩
        · obtain ⟨_, _, _, _, o, _, _, e, ex, _⟩ := I.hok p _ hk
          exact ⟨o, e, ex⟩
        · obtain ⟨_, _, _, _, o, _, _, e, ex, _⟩ := I.hok p _ hk
          exact ⟨o, e, ex⟩
      obtain ⟨o, e, ex⟩ := z
      refine ⟨⟨o, e, ex.1⟩, fun a e2 => ?_⟩
      cases e2
      exact ⟨o, e, ex.2.1⟩
    · obtain ⟨o, _, _, _, e, ex, _⟩ := I.hok p _ hk
      refine ⟨⟨o, e, ex.1⟩, fun a e2 => ?_⟩
      cases e2
      exact ⟨o, e, ex.2.1⟩
  | _ => exact False.elim ty
def tBM (K : PySem.W.Frag) (T : String) (r : V → List V → Hp → VK → Prop) (to : TE) (t : TA) : TE := fun σ H Q => to σ H fun x H1 => tyV K T x H1 ∧ t σ H1 fun xs H2 => r x xs H2 Q
variable {o e : Expr} {es : List Expr} {to : TE} {t : TA} {name : Str} {apos cpos : Pos} {T id : String} {r : V → List V → Hp → VK → Prop}
theorem pe_bm (pa : PlainAttrs T) (slot : Slot T name id) (hty : typeOf (.builtin id) = pure (.type "method_descriptor")) (hm : MtR X id r) (ho : PE X o to) (ha : PA X (e :: es) t)
    (hbase : attributeBase o name X.env (eval o X.env) = eval o X.env := by rfl)
    (hfew : ((backTo cpos (starEach (e :: es) X.env)).all (fun x => !x.1) && (backToKw cpos (keywordEach [] X.env)).all (fun x => x.1.isSome)
      && decide ((e :: es).length + ([] : List Keyword).length + (if ([] : List Keyword).isEmpty then 0 else 1) < 30)) = true := by rfl)
    (hline : (apos.endLine == cpos.line) = true := by rfl) (hs : starEach (e :: es) X.env = (false, eval e X.env) :: starEach es X.env := by rfl) (hplain : (backTo cpos (starEach es X.env)).any (·.1) = false := by rfl) :
    PE X (.Call (.Attribute o name apos) (e :: es) [] cpos) (tBM X.K T r to t) := by
  intro pins s σ H Q I h
  refine wpAny_Call_method_late hbase hfew hline rfl (thn (ho pins s σ H _ I h) fun v s1 ⟨x, H1, I1, r1, ty, q1⟩ => ?_)
  obtain ⟨h1, h2⟩ := tyV_is I1 r1 ty
  refine ⟨T, id, pa, slot, hty, h1, h2, ?_⟩
  have hA := ha cpos pins s1 σ H1 _ I1 q1
  rw [hs] at hA ⊢
  refine Calls.callWith_builtin (by show (false || (backTo cpos (starEach es X.env)).any (·.1)) = false; rw [hplain] <;> rfl) (Calls.evalArgs_plain ?_)
  exact thn hA fun us s2 ⟨vs, H2, I2, r2, q2⟩ => hm pins s2 σ H2 x vs v us Q I2 r1 r2 q2
/- xs.append(e), list.index on a module's tuple .. are MtR facts of 06m -/
end
end L2
namespace L2
open PySem PySem.Spec PyProof.Rows
def MtM (X : Cx) (id : String) (r : V → List V → Hp → VK → Prop) : Prop :=
  ∀ (pins : List (Addr × Obj)) (s : Shared) (σ : St) (H : Hp) (x : V) (xs : List V) (v : Value) (us : List Value) (Q : VK), Inv X pins σ H s → RelV x v → Vals xs us → r x xs H Q →
    wpAny (model X.prog X.w) X.A (call (.builtin id) (v :: us)) (EP X pins σ Q) X.xe s
theorem Vals.one : ∀ {x : V} {us : List Value}, Vals [x] us → ∃ u, us = [u] ∧ RelV x u
  | _, _, .cons r .nil => ⟨_, rfl, r⟩
theorem Vals.two : ∀ {x y : V} {us : List Value}, Vals [x, y] us → ∃ u v, us = [u, v] ∧ RelV x u ∧ RelV y v
  | _, _, _, .cons r (.cons q .nil) => ⟨_, _, rfl, r, q⟩
theorem Vals.rep {xs : List V} {us : List Value} (h : Vals xs us) : ∀ k : Nat, Vals (List.replicate k xs).flatten (List.replicate k us).flatten
  | 0 => .nil
  | k + 1 => by
    rw [List.replicate_succ, List.replicate_succ, List.flatten_cons, List.flatten_cons]
    exact Vals.append h (Vals.rep h k)
section
variable {X : Cx} {pins : List (Addr × Obj)} {σ : St} {H : Hp} {s : Shared} {l b : Addr} {xs ys zs : List V}
theorem Inv.lset {its its' : List Value} {n : Nat} {f : Array Value → Array Value} {t' : Nat} (I : Inv X pins σ H s) (hH : H l = some (.lst xs))
    (e : s.heap.get? l = some { cls := .type "list", data := .seq its.toArray n }) (hf : f its.toArray = its'.toArray) (hv : Vals ys its') (hz : ys.length ≤ sizeLine) :
    Inv X pins σ (upd H l (.lst ys)) { s with heap := s.heap.update l (Obj.mapSeq f), toks := t' } := by
  have q := PySem.IsL.update e f
  rw [hf] at q
  refine I.write (x := l) (e := l) (by rw [hH]; exact trivial) (.inl rfl) (fun b' u hb hu => (Heap.get?_update_other s.heap (Obj.mapSeq f) (Ne.symm hb)).trans hu) ⟨_, q⟩ ?_
  exact ⟨hz, its', _, hv, q⟩
theorem Inv.lnew {its : List Value} {t' : Nat} (I : Inv X pins σ H s) (hv : Vals ys its) (hz : ys.length ≤ sizeLine) :
    Inv X pins σ (upd H s.heap.objs.size (.lst ys)) { s with heap := s.heap.push { cls := .type "list", data := .seq its.toArray }, toks := t' } :=
  I.laid (fun _ _ q => Heap.get?_push_of_some _ q) (Nat.le_refl _) ⟨hz, its, 0, hv, Heap.get?_push_size _ rfl⟩
theorem Inv.fresh (I : Inv X pins σ H s) : H s.heap.objs.size = none := I.hok.fresh (Nat.le_refl _)
theorem Inv.lstM (I : Inv X pins σ H s) (hH : H l = some (.lst xs)) : xs.length ≤ sizeLine ∧ ∃ (its : List Value) (n : Nat), Vals xs its ∧ xs.length = its.length ∧ s.heap.get? l = some { cls := .type "list", data := .seq its.toArray n } := by
  obtain ⟨z, its, n, r, e⟩ := I.hok l _ hH
  exact ⟨z, its, n, r, r.length, e⟩
theorem notLongL {n : Nat} (h : n ≤ sizeLine) : Builtin.List.listTooLong n = false := by
  unfold Builtin.List.listTooLong
  exact decide_eq_false (by omega)
end
section
variable {X : Cx}
def rAppend : V → List V → Hp → VK → Prop := fun x vs H Q => ∃ l xs y, x = .ref l ∧ vs = [y] ∧ H l = some (.lst xs) ∧ xs.length < sizeLine ∧ Q .non (upd H l (.lst (xs ++ [y])))
theorem mt_append : MtM X "list.append" rAppend := by
  intro pins s σ H x vs v us Q I rx rv h
  obtain ⟨l, xs, y, rfl, rfl, hH, hz, q⟩ := h
  cases rx
  obtain ⟨u, rfl, ru⟩ := rv.one
  obtain ⟨z, its, n, r, hl, e⟩ := I.lstM hH
  refine call_meets F.slot_list_append ⟨_, e, rfl⟩ F.entry_list_append (F.args_list_append_2 _ _) (PySem.list_append l its.toArray n u (by rw [List.size_toArray]; omega)) ⟨e, ?_⟩
  refine ⟨.non, _, I.lset (its' := its ++ [u]) hH e (by simp) (r.append (.cons ru .nil)) ?_, rfl, q⟩
  rw [List.length_append, List.length_singleton]
  omega
def rExtend : V → List V → Hp → VK → Prop := fun x vs H Q => ∃ l b xs zs, x = .ref l ∧ vs = [.ref b] ∧ H l = some (.lst xs) ∧ H b = some (.lst zs) ∧ xs.length + zs.length ≤ sizeLine ∧ Q .non (upd H l (.lst (xs ++ zs)))
theorem mt_extend : MtM X "list.extend" rExtend := by
  intro pins s σ H x vs v us Q I rx rv h
  obtain ⟨l, b, xs, zs, rfl, rfl, hH, hB, hz, q⟩ := h
  cases rx
  obtain ⟨u, rfl, ru⟩ := rv.one
  cases ru
  obtain ⟨z, its, n, r, hl, e⟩ := I.lstM hH
  obtain ⟨z2, its2, n2, r2, hl2, e2⟩ := I.lstM hB
  have hsz : its.toArray.size + its2.toArray.size ≤ sizeLine := by rw [List.size_toArray, List.size_toArray]; omega
  have hlong : ¬ (!its.toArray.isEmpty && Builtin.List.listTooLong (its.toArray.size + its2.toArray.size)) = true := by
    rw [notLongL hsz, Bool.and_false]
    exact Bool.false_ne_true
  refine call_meets F.slot_list_extend ⟨_, e, rfl⟩ F.entry_list_extend (F.args_list_extend_2 _ _)
    (AutoSeq1.list_extend_list_list_0 l its.toArray n b its2.toArray n2 hlong (by rw [List.size_toArray]; omega) (by omega)) ⟨e, e2, ?_⟩
  refine ⟨.non, _, I.lset (its' := its ++ its2) hH e (by simp) (r.append r2) ?_, rfl, q⟩
  rw [List.length_append]
  omega
end
section
variable {prog : Program} {w : World} {A : Around} {E : Value → Shared → Prop} {s : Shared}
end
section
variable {X : Cx}
end
end L2
namespace Att
open PySem PySem.W PySem.Calls PyProof.Rows
theorem ints_of_wellAll {P : Params} {h : Heap} : ∀ (ns : List Int) (vs : List Value), WellAll P h vs (ns.map WData.int) → IntsAre vs ns := by
  intro ns
  induction ns with
  | nil =>
    intro vs w
    rw [List.map_nil] at w
    cases w
    exact .nil
  | cons n ns ih =>
    intro vs w
    rw [List.map_cons] at w
    cases w with
    | cons a b =>
      cases a
      exact .cons _ _ (ih _ b)
theorem script_of {l : OpenLaw} {n : Nat} (hn : l.most = some n) {P : Params} {h : Heap} {args : List WData} {vals : List Value}
    (hpre : l.row.toRowW.claim.pre args = true) (hwl : WellAll P h vals args) :
    ∃ a vs ns, vals = [Value.ref a] ∧ args = [WData.list (ns.map WData.int)] ∧ h.get? a = some { cls := .type "list", data := .seq vs.toArray } ∧ IntsAre vs ns ∧ ns.length ≤ n := by
  have hsh : WShape.hasAll [] args [.list .int] = true := (pre_splitW hpre).1
  have hc : l.pre.holds [] { args := args } = true := (pre_splitW hpre).2
  obtain ⟨d, r, rfl, h1, h2⟩ := hasAllW_cons hsh
  obtain rfl := hasAllW_nil h2
  obtain ⟨xs, rfl, h3⟩ := hasW_list h1
  obtain ⟨ns, rfl⟩ := items_int h3
  have hlen : ns.length ≤ n := by
    unfold OpenLaw.pre at hc
    have h4 : (WTm.not (.lt (.lit (.int (n : Int))) (.len (.arg 0)))).holds [] { args := [.list (ns.map .int)] } = true := by
      have h4 := (holds_andW hc).1
      rw [hn] at h4
      exact h4
    have h5 := condW_of h4 (w_not (w_lt w_lit (w_len_list (w_arg rfl))))
    rw [List.length_map] at h5
    refine Nat.le_of_not_lt fun q => ?_
    have q' : (n : Int) < ((ns.length : Nat) : Int) := by omega
    first
      | (rw [decide_eq_true q'] at h5; exact absurd h5 (by decide))
      | (simp at h5; omega)
  cases hwl with
  | cons w1 w2 =>
    cases w2
    cases w1 with
    | list ho hall => exact ⟨_, _, ns, rfl, rfl, ho, ints_of_wellAll ns _ hall, hlen⟩
theorem post_true (l : OpenLaw) (args : List WData) : l.row.toRowW.claim.post args (.bool true) args = true :=
  postW_of (r := l.row.toRowW) (X := (true == true))
    (show WShape.has [] (.bool true) .bool = true by first | rfl | decide | simp [WShape.has, WShape.arms, WShape.armsAll])
    (show (WTm.eq .res (.lit (.bool true))).value [] { args := args, res := some (.bool true), after := args } = some (.bool (true == true)) from w_eq_bool (w_res rfl) w_lit) rfl
theorem attach_call {l : OpenLaw} {n : Nat} {q : Program} {loose : List Str} {XP : (Str → Option Value) → Heap → Prop} {YP : World → Heap → Prop} {d : DefRec}
    (hn : l.most = some n) (hdf : d.params.defaults = [])
    (call : ∀ (w : World) (s₀ s₁ : Shared) (mg mb : Str → Option Value) (fa : Addr) (o : Obj) (pm cd doc : Value) (a : Addr) (vs : List Value) (ns : List Int),
      Ground q loose [] XP w s₀ mg mb s₁.heap → YP w s₁.heap →
      s₁.heap.get? fa = some o → o.data = .func (docDef d.name d.params d.body d.scope pm cd doc) → s₁.heap.CodeRec cd d.name → mg d.name = some (.ref fa) →
      s₁.heap.get? a = some { cls := .type "list", data := .seq vs.toArray } → IntsAre vs ns → ns.length ≤ n → s₁.gens = #[] →
      codeAny (model l.prog w) callerA (.call (.ref fa) ⟨[.ref a], []⟩) (fun r s' => r = .ok (.ret (.bool true)) ∧ OldK s₁.heap s'.heap ∧ s'.os = s₁.os ∧ AllBare s'.gens) s₁) :
    WalkO q loose XP YP l.row.toRowW d [] (fun f vs => PySem.call f vs) := by
  intro w s₀ s₁ mg mb G Y fa o pm cd doc dV kV ho hd hcd hD hmg hg args vals as hpre hlay hrd hwl hlo
  obtain rfl : dV = .none := Dflts.none hD hdf
  obtain rfl : kV = .none := Dflts.noKw hD
  obtain ⟨a, vs, ns, rfl, rfl, hobj, hints, hlen⟩ := script_of hn hpre hwl
  refine enter_call (codeAny_mono (call w s₀ s₁ mg mb fa o pm cd doc a vs ns G Y ho (fd_plain hd) hcd hmg hobj hints hlen hg) fun r s' hq => ?_)
  obtain ⟨rfl, h2, h3, h4⟩ := hq
  exact ⟨.inl ⟨.bool true, .bool true, [], rfl, fun _ => rfl, .bool true, post_true l _, fun _ => ⟨List.Pairwise.nil, fun _ hm => (nomatch hm)⟩⟩, h2, h3, h4⟩
section
variable {prog : Program} {w : World} {A : Around} {E : Value → Shared → Prop} {s : Shared} {K : Frag}
def ledger (h : Heap) (L d : Addr) : List (Addr × Obj) := (List.range h.objs.size).filterMap fun a => if a = L ∨ a = d then none else (h.get? a).map fun o => (a, o)
end
end Att
namespace L2
open PySem PySem.Spec PyProof.Rows
theorem vals_ints : ∀ {vs : List Value} {ns : List Int}, IntsAre vs ns → Vals (ns.map V.int) vs
  | _, _, .nil => .nil
  | _, _, .cons n t h => .cons ⟨t, rfl⟩ (vals_ints h)
def Only (H : Hp) : Prop := ∀ b, H b = none ∨ ∃ o xs, H b = some (.frz o (.lst xs))
theorem law_call {P : Program} {w : World} {K : PySem.W.Frag} {mg mb : Str → Option Value} {CX : CXT} {k : Nat} {fa a : Addr} {fd : FuncData} {x : Str} {sp : Sp} {s₁ : Shared} {vs : List Value} {ns : List Int}
    (KX : K.In s₁.heap) (hns : s₁.heap.Ns mainGlobals mg) (hb : s₁.heap.Ns builtinsNs mb) (hbb : ∀ x : Str, x ≠ "__name__" → mb x = bootBuiltins x) (hlim : s₁.heap.NoLimit) (hg : s₁.gens = #[])
    (ha : s₁.heap.get? a = some { cls := .type "list", data := .seq vs.toArray }) (hi : IntsAre vs ns) (hl : ns.length ≤ sizeLine) (hr : Room k callerA)
    (F : ∀ base : Heap, K.In base → base.Ns mainGlobals mg → FnOk P w K mg base CX k fa fd [x] sp) (hbind : ∀ (s : Shared) (u : Value), BindsTo s fd ⟨[u], []⟩ [(x, u)])
    (hsp : ∀ H : Hp, Only H → SqL K H a (ns.map V.int) → sp [.ref a] H (fun v _ => v = .bl true) fun _ _ _ => False)
    (hCX : ∀ H e s', CX [] H s₁ (fun _ _ _ => False) e s' → False) :
    codeAny (model P w) callerA (.call (.ref fa) ⟨[.ref a], []⟩) (fun r s' => r = .ok (.ret (.bool true)) ∧ OldK s₁.heap s'.heap ∧ s'.os = s₁.os ∧ AllBare s'.gens) s₁ := by
  have rv := vals_ints hi
  have lenV := hi.length
  have core : ∀ H : Hp, Only H → SqL K H a (ns.map V.int) → HOk P w H s₁.heap → (∀ b, H b ≠ none → b = a) → (H a ≠ none → K.lookup a = none) →
      codeAny (model P w) callerA (.call (.ref fa) ⟨[.ref a], []⟩) (fun r s' => r = .ok (.ret (.bool true)) ∧ OldK s₁.heap s'.heap ∧ s'.os = s₁.os ∧ AllBare s'.gens) s₁ := by
    intro H hO hS hok hA hK
    have base_of : ∀ {b : Addr} {o : Obj}, s₁.heap.get? b = some o → H b = none → (hidT s₁.heap H).get? b = some o := fun e n => hidT_get e n
    have noA : ∀ {b : Addr} {o : Obj} {es : Array DictEntry} {ep : Nat}, s₁.heap.get? b = some o → o.data = .dict es ep → H b = none := fun {b o es ep} e d => by
      cases q : H b with
      | none => rfl
      | some u =>
        have e' : b = a := hA b (by rw [q]; simp)
        subst e'
        rw [ha] at e; cases e
        have d' : Data.seq vs.toArray _ = Data.dict es ep := d
        cases d'
    have nsK : ∀ {b : Addr} {m : Str → Option Value}, s₁.heap.Ns b m → (hidT s₁.heap H).Ns b m := fun {b m} ⟨o, es, ep, e, d, r⟩ => ⟨o, es, ep, base_of e (noA e d), d, r⟩
    have hKb : K.In (hidT s₁.heap H) := fun b o e => base_of (KX b o e) (by
      cases q : H b with
      | none => rfl
      | some u =>
        have e' : b = a := hA b (by rw [q]; simp)
        subst e'
        rw [hK (by rw [q]; simp)] at e; cases e)
    have hM : Mod K mg (hidT s₁.heap H) := ⟨hKb, nsK hns, ⟨mb, nsK hb, hbb⟩, let ⟨mc, h1, h2⟩ := hlim; ⟨mc, nsK h1, h2⟩⟩
    have e0 : Env0 P w K mg (hidT s₁.heap H) callerA [] s₁ H := ⟨rfl, hM, fun b o e => of_hidT e, Nat.le_of_eq (hidT_size _ _), trivial, fun b hb => absurd (show b ∈ ([] : List Addr) from hb) (by simp), hok, .of_eq hg⟩
    refine codeAny_mono ((F _ hKb (nsK hns)).run callerA [] s₁ H ⟨[.ref a], []⟩ [.ref a] [.ref a] _ _ hr e0 (hbind s₁ (.ref a)) (.cons rfl .nil) (hsp H hO hS)) fun r s' h => ?_
    cases r with
    | error e => exact (hCX H e s' h).elim
    | ok fl =>
      cases fl with
      | next => exact False.elim h
      | brk => exact False.elim h
      | cont => exact False.elim h
      | ret u =>
        obtain ⟨v, H', os, bare, un, hok', r', q⟩ := h
        have q' : v = .bl true := q
        subst q'
        obtain rfl : u = Value.bool true := r'
        refine ⟨rfl, OldK.of_keep fun b o e => ?_, os, bare⟩
        cases q : H b with
        | none => exact un.keep b o e q (by intro z; exact absurd (show b ∈ ([] : List Addr) from z) (by simp)) (by simp)
        | some u =>
          rcases hO b with z | ⟨ob, xs, z⟩
          · rw [q] at z; cases z
          · have z2 := un.frzs b ob _ z
            obtain ⟨e1, _⟩ := hok b _ z
            obtain ⟨e2, _⟩ := hok' b _ z2
            rw [e] at e1; cases e1
            exact e2
  cases hk : K.lookup a with
  | some o =>
    have e := KX a o hk
    rw [ha] at e
    cases e
    refine core (fun _ => none) (fun _ => .inl rfl) (.inr ⟨_, vs.toArray, _, hk, rfl, rfl, rfl, by rw [List.size_toArray, lenV]; exact hl, by simpa using rv⟩) (fun b u z => by have z' : (none : Option HO) = some u := z; cases z') (fun b z => absurd rfl z) fun z => absurd rfl z
  | none =>
    refine core (fun b => if b = a then some (.frz { cls := .type "list", data := .seq vs.toArray } (.lst (ns.map V.int))) else none) (fun b => ?_) (.inl (.inr ⟨{ cls := .type "list", data := .seq vs.toArray }, if_pos rfl⟩)) (fun b u z => ?_) (fun b z => ?_) fun _ => hk
    · by_cases hb : b = a
      · exact .inr ⟨_, _, if_pos hb⟩
      · exact .inl (if_neg hb)
    · by_cases hb : b = a
      · have z' := (if_pos hb).symm.trans z
        cases z'
        subst hb
        exact ⟨ha, by rw [List.length_map]; exact hl, vs, _, rv, ha⟩
      · have z' := (if_neg hb).symm.trans z
        cases z'
    · by_cases hb : b = a
      · exact hb
      · exact absurd (if_neg hb) z
end L2
namespace L2
open PySem PySem.Spec PyProof.Rows
theorem walk_of {l : PySem.W.OpenLaw} {n k : Nat} {q : Program} {loose : List Str} {XP : (Str → Option Value) → Heap → Prop} {YP : World → Heap → Prop} {d : DefRec} {K : Params → PySem.W.Frag} {CX : World → CXT} {sp : World → Sp} {x : Str}
    (hn : l.most = some n) (hn2 : n ≤ sizeLine) (hdf : d.params.defaults = []) (hr : Room k callerA)
    (hY : ∀ (w : World) (h : Heap), YP w h → (K w.params).In h)
    (F : ∀ (w : World) (mg : Str → Option Value) (fa : Addr) (h : Heap), (K w.params).In h → h.Ns mainGlobals mg → mg d.name = some (.ref fa) →
      ∃ fd : FuncData, (∀ (s : Shared) (u : Value), BindsTo s fd ⟨[u], []⟩ [(x, u)]) ∧
        ∀ base : Heap, (K w.params).In base → base.Ns mainGlobals mg → FnOk l.prog w (K w.params) mg base (CX w) k fa fd [x] (sp w))
    (hsp : ∀ (w : World) (H : Hp) (a : Addr) (ns : List Int), ns.length ≤ n → Only H → SqL (K w.params) H a (ns.map V.int) → sp w [.ref a] H (fun v _ => v = .bl true) fun _ _ _ => False)
    (hCX : ∀ (w : World) (H : Hp) (s : Shared) (e : Value) (s' : Shared), CX w [] H s (fun _ _ _ => False) e s' → False) :
    PySem.W.WalkO q loose XP YP l.row.toRowW d [] (fun f vs => PySem.call f vs) := by
  refine Att.attach_call hn hdf fun w s₀ s₁ mg mb fa o pm cd doc a vs ns G Y ho hd hcd hmg hobj hints hlen hg => ?_
  have KX := hY w _ Y
  obtain ⟨fd, hb, hF⟩ := F w mg fa _ KX G.T.g hmg
  exact law_call KX G.T.g G.T.b G.T.builtins G.T.nolimit hg hobj hints (Nat.le_trans hlen hn2) hr hF hb (fun H hO hS => hsp w H a ns hlen hO hS) fun H e s' => hCX w H s₁ e s'
end L2
/- THE LAST THEOREM (shape; LID, My.* are yours):
   My.Adr: a structure of the addresses that your layer names (classes, functions); My.Txt K t: a structure (Prop) of the equations over K;
   My.txt_mk : {K} {implicit addresses ..} (e1 : nsIn K mainGlobals "law" = some (some (.ref f))) (e2 : K.lookup f = some ⟨oc, od, .func (fnOf "law" "law" params body scope dV kV doc pm an cdv ct), sl⟩) (e3 : codeIn K cdv "law" = true) .. : ∃ t, My.Txt K t
set_option maxRecDepth 100000 in
set_option maxHeartbeats 0 in
theorem PySem.Challenge.cw_LID_holds : PySem.Challenge.rw_LID.Holds := by
  w_on; o_law; k_head; (case hw => w_witness2)
  k_fill
  refine L2.walk_of (l := PySem.Challenge.rw_LID) (n := 63) (k := 40) (x := "script") (CX := fun w => ..) (sp := fun _ => My.sp_law) rfl (by decide) rfl ⟨rfl, by decide, by decide⟩ (fun w h Y => PySem.W.kIn_of Y) ?F ?S ?C
  case F =>
    intro w mg fa h KX G hmg
    have T : ∃ t, My.Txt (L2.KOf KX) t := by
      dsimp only [L2.KOf]                          -- K must stand as «<heap const> w.params» for k_is
      refine' My.txt_mk ?e1 ?e2 ?e3 ..
      (case e1 => PySem.W.k_is)                    -- in the order: a name -> its address -> its object -> its parts
      (case e2 => PySem.W.k_is)
      ..
    obtain ⟨t, T⟩ := T
    have e0 := hmg.symm.trans (PySem.W.mg_of KX G T.law)
    cases e0                                       -- fa is the law's own address
    exact ⟨_, fun s u => .of_eq rfl, fun base kb nb => My.law_fn T kb nb⟩     -- if «.of_eq rfl» comes too early: refine' ⟨_, ?b, fun base kb nb => My.law_fn T kb nb⟩; exact fun s u => .of_eq rfl
  case S => exact fun w H a ns hl hO hS => ..
  case C => exact ..
(the tactic k_is has no namespace: write k_is) -/
namespace L2
open PySem PySem.Spec PyProof.Rows
def inClass (s : Stmt) (j : Nat) : Stmt := match s with
  | .ClassDef _ _ _ body _ _ _ _ _ _ _ => body.getD j (.Pass ⟨0, 0, 0, 0⟩)
  | _ => .Pass ⟨0, 0, 0, 0⟩
def defArgs (s : Stmt) : Arguments := match s with
  | .FunctionDef _ a _ _ _ _ _ _ _ _ => a
  | _ => { posonlyargs := [], args := [], vararg := none, kwonlyargs := [], kw_defaults := [], kwarg := none, defaults := [] }
def defBody (s : Stmt) : List Stmt := match s with
  | .FunctionDef _ _ b _ _ _ _ _ _ _ => b
  | _ => []
def defScope (s : Stmt) : Scope := match s with
  | .FunctionDef _ _ _ _ _ _ sc _ _ _ => sc
  | _ => { kind := .function, names := [], isGenerator := false, isCoroutine := false }
abbrev CX0 : CXT := fun _ _ _ _ _ _ => False
abbrev E0 : XK := fun _ _ _ => False
theorem pass0 {X : Cx} : Passes CX0 X E0 := fun _ _ _ _ _ _ _ h => h.elim
structure Fun (K : PySem.W.Frag) (x qual : Str) (st : Stmt) (f : Addr) (fd : FuncData) : Prop where
  ex : ∃ (oc : Value) (od : Option Addr) (kV doc pm : Value) (an : Option Addr) (cdv ct : Value) (osl : Array (Option Value)),
    fd = PySem.W.fnOf x qual (defArgs st) (defBody st) (defScope st) .none kV doc pm an cdv ct ∧ K.lookup f = some ⟨oc, od, .func fd, osl⟩ ∧ PySem.W.codeIn K cdv qual = true
  kp : PySem.W.keepIn K (.ref f) = true
section
variable {P : Program} {w : World} {K : PySem.W.Frag} {mg : Str → Option Value} {base : Heap}
theorem Fun.ok {x qual : Str} {st : Stmt} {f : Addr} {fd : FuncData} {N ps : List Str} {k : Nat} {sp : Sp} (F : Fun K x qual st f fd) (S : FnScope N ps (defScope st)) (len : ∀ vs H Q E, sp vs H Q E → vs.length = ps.length)
    (hbody : ∀ (cdv : Value) (A : Around) (outer : List Env) (s : Shared) (H : Hp) (vs : List V) (Q : VK) (E : XK), Room k (A.deeper (envOfC qual (defScope st) s.heap.objs.size f cdv)) → sp vs H Q E →
      ∃ t, PSs (cxOf CX0 P w K mg base N qual (defScope st) f cdv A outer s H E).nox (defBody st) t ∧ t { nx := fun _ H' => Q .non H', rt := Q } (start N vs) H) : FnOk P w K mg base CX0 (k + 1) f fd ps sp := by
  obtain ⟨oc, od, kV, doc, pm, an, cdv, ct, osl, rfl, lk, hcd⟩ := F.ex
  refine fn_of lk hcd S len fun A outer s H vs Q E hr hsp => ?_
  obtain ⟨t, h, q⟩ := hbody cdv A outer s H vs Q E hr hsp
  exact ⟨t, h.nox, q⟩
theorem Fun.binds {x qual : Str} {st : Stmt} {f : Addr} {fd : FuncData} {ps : List Str} (F : Fun K x qual st f fd)
    (h : ∀ (kV doc pm : Value) (an : Option Addr) (cdv ct : Value) (us : List Value), us.length = ps.length → bindArgs (PySem.W.fnOf x qual (defArgs st) (defBody st) (defScope st) .none kV doc pm an cdv ct) ⟨us, []⟩ = pure (ps.zip us)) : Binds K fd ps [] := by
  obtain ⟨oc, od, kV, doc, pm, an, cdv, ct, osl, rfl, lk, hcd⟩ := F.ex
  exact .all (h kV doc pm an cdv ct)
theorem fun_mk {x qual : Str} {st : Stmt} {f : Addr} {oc : Value} {od an : Option Addr} {osl : Array (Option Value)} {kV doc pm cdv ct : Value} (l : K.lookup f = some ⟨oc, od, .func (PySem.W.fnOf x qual (defArgs st) (defBody st) (defScope st) .none kV doc pm an cdv ct), osl⟩)
    (c : PySem.W.codeIn K cdv qual = true) (k : PySem.W.keepIn K (.ref f) = true) : Fun K x qual st f (PySem.W.fnOf x qual (defArgs st) (defBody st) (defScope st) .none kV doc pm an cdv ct) := ⟨⟨oc, od, kV, doc, pm, an, cdv, ct, osl, rfl, l, c⟩, k⟩
end
theorem hu_of {A : Around} {k : Nat} (hr : Room k A) : A.units + 1 < cLine := Nat.lt_of_le_of_lt (Nat.add_le_add_left (by decide : 1 ≤ 64) _) hr.units
section
variable {X : Cx}
end
theorem iteF {A B : Prop} (h : B) : if false = true then A else B := by
  rw [if_neg Bool.false_ne_true]
  exact h
theorem iteT {A B : Prop} (h : A) : if true = true then A else B := by
  rw [if_pos rfl]
  exact h
def Same (H H' : Hp) : Prop := ∀ b o, H b = some o → H' b = some o
theorem Same.refl (H : Hp) : Same H H := fun _ _ h => h
theorem Same.trans {H H1 H2 : Hp} (a : Same H H1) (b : Same H1 H2) : Same H H2 := fun c o h => b c o (a c o h)
theorem Same.free {H H' : Hp} (e : Same H H') {l : Addr} (h : H' l = Option.none) : H l = Option.none := by
  cases q : H l with
  | none => rfl
  | some o =>
    rw [e l o q] at h
    cases h
theorem Same.seq {K : PySem.W.Frag} {H H' : Hp} {a : Addr} {xs : List V} (e : Same H H') (h : SqL K H a xs) : SqL K H' a xs := by
  rcases h with (h | ⟨o, h⟩) | h
  · exact .inl (.inl (e _ _ h))
  · exact .inl (.inr ⟨o, e _ _ h⟩)
  · exact .inr h
end L2
set_option maxHeartbeats 4000000
namespace L2
open PySem PySem.Spec PyProof.Rows
section
variable {κ : Type} [DecidableEq κ]
def valV (kvs : List (κ × V)) (k : κ) : Option V := (kvs.find? fun kv => decide (kv.1 = k)).map (·.2)
def putK (kvs : List (κ × V)) (k : κ) (v : V) : List (κ × V) :=
  if (kvs.any fun kv => decide (kv.1 = k)) = true then kvs.map (fun kv => if kv.1 = k then (kv.1, v) else kv) else kvs ++ [(k, v)]
def dropK (kvs : List (κ × V)) (k : κ) : List (κ × V) := kvs.filter fun kv => decide (kv.1 ≠ k)
theorem valV_pos {p : κ × V} {r : List (κ × V)} {k : κ} (e : p.1 = k) : valV (p :: r) k = some p.2 := by simp [valV, List.find?_cons, e]
theorem valV_neg {p : κ × V} {r : List (κ × V)} {k : κ} (e : ¬ p.1 = k) : valV (p :: r) k = valV r k := by simp [valV, List.find?_cons, e]
theorem valV_any (k : κ) : ∀ kvs : List (κ × V), (kvs.any fun kv => decide (kv.1 = k)) = (valV kvs k).isSome
  | [] => rfl
  | p :: r => by
    rw [List.any_cons]
    by_cases e : p.1 = k
    · simp only [valV_pos e, decide_eq_true e, Bool.true_or, Option.isSome_some]
    · rw [valV_neg e, decide_eq_false e, Bool.false_or]; exact valV_any k r
theorem length_putK (kvs : List (κ × V)) (k : κ) (v : V) : (putK kvs k v).length ≤ kvs.length + 1 := by
  unfold putK
  split
  · rw [List.length_map]; omega
  · rw [List.length_append, List.length_cons, List.length_nil]; omega
theorem RelO.isSome_eq {o : Option V} {u : Option Value} (r : RelO o u) : o.isSome = u.isSome := by
  cases o with
  | none => cases u with
    | none => rfl
    | some _ => exact (show False from r).elim
  | some _ => cases u with
    | none => exact (show False from r).elim
    | some _ => rfl
theorem RelO.getD {o : Option V} {u : Option Value} {d : V} {d' : Value} (r : RelO o u) (rd : RelV d d') : RelV (o.getD d) (u.getD d') := by
  cases o with
  | none => cases u with
    | none => exact rd
    | some _ => exact (show False from r).elim
  | some _ => cases u with
    | none => exact (show False from r).elim
    | some _ => exact r
theorem KV.val {kvs : List (κ × V)} {vs : List (κ × Value)} (r : KV kvs vs) (k : κ) : RelO (valV kvs k) (valueAt vs k) := by
  unfold KV at r
  induction r with
  | nil => exact True.intro
  | @cons p q ps qs h t ih =>
    obtain ⟨h1, h2⟩ := h
    by_cases e : p.1 = k
    · have e' : q.1 = k := h1.symm.trans e
      have b : valueAt (q :: qs) k = some q.2 := by simp [valueAt, List.find?_cons, e']
      rw [valV_pos e, b]; exact h2
    · have e' : ¬ q.1 = k := fun z => e (h1.trans z)
      have b : valueAt (q :: qs) k = valueAt qs k := by simp [valueAt, List.find?_cons, e']
      rw [valV_neg e, b]; exact ih
theorem KV.any {kvs : List (κ × V)} {vs : List (κ × Value)} (r : KV kvs vs) (k : κ) : (kvs.any fun kv => decide (kv.1 = k)) = vs.any fun kv => decide (kv.1 = k) := by
  unfold KV at r
  induction r with
  | nil => rfl
  | cons h t ih => rw [List.any_cons, List.any_cons, ih, h.1]
theorem KV.repl {kvs : List (κ × V)} {vs : List (κ × Value)} (r : KV kvs vs) (k : κ) {y : V} {u : Value} (ry : RelV y u) :
    KV (kvs.map fun kv => if kv.1 = k then (kv.1, y) else kv) (vs.map fun kv => if kv.1 = k then (kv.1, u) else kv) := by
  unfold KV at r ⊢
  induction r with
  | nil => exact .nil
  | @cons p q ps qs h t ih =>
    rw [List.map_cons, List.map_cons]
    refine .cons ?_ ih
    obtain ⟨h1, h2⟩ := h
    by_cases e : p.1 = k
    · rw [if_pos e, if_pos (h1.symm.trans e)]; exact ⟨h1, ry⟩
    · rw [if_neg e, if_neg (fun z => e (h1.trans z))]; exact ⟨h1, h2⟩
theorem KV.put {kvs : List (κ × V)} {vs : List (κ × Value)} (r : KV kvs vs) (k : κ) {y : V} {u : Value} (ry : RelV y u) : KV (putK kvs k y) (stored vs k u) := by
  unfold putK stored
  rw [r.any k]
  by_cases e : (vs.any fun kv => decide (kv.1 = k)) = true
  · rw [if_pos e, if_pos e]; exact r.repl k ry
  · rw [if_neg e, if_neg e]; exact Paired.snoc r ⟨rfl, ry⟩
theorem KV.drop {kvs : List (κ × V)} {vs : List (κ × Value)} (r : KV kvs vs) (k : κ) : KV (dropK kvs k) (without vs k) := by
  unfold KV at r ⊢
  unfold dropK without
  induction r with
  | nil => exact .nil
  | @cons p q ps qs h t ih =>
    obtain ⟨h1, h2⟩ := h
    rw [List.filter_cons, List.filter_cons]
    by_cases e : p.1 = k
    · have a : ¬ decide (p.1 ≠ k) = true := by simp [e]
      have b : ¬ decide (q.1 ≠ k) = true := by simp [h1.symm.trans e]
      rw [if_neg a, if_neg b]; exact ih
    · have e' : ¬ q.1 = k := fun z => e (h1.trans z)
      have a : decide (p.1 ≠ k) = true := by simp [e]
      have b : decide (q.1 ≠ k) = true := by simp [e']
      rw [if_pos a, if_pos b]; exact .cons ⟨h1, h2⟩ ih
theorem KV.length {kvs : List (κ × V)} {vs : List (κ × Value)} (r : KV kvs vs) : kvs.length = vs.length := Paired.length r
end
theorem kV_is {P : Program} {w : World} {k : Key} {u : Value} (r : RelV (kV k) u) : (mixKind P w).is k u = true := by
  cases k with
  | inl i => obtain ⟨t, e⟩ := (show ∃ t, u = Value.int i t from r); subst e; exact mixKind_int P w i t
  | inr x => obtain ⟨t, e⟩ := (show ∃ t, u = Value.str x t from r); subst e; exact mixKind_str P w x t
theorem items_are {P : Program} {w : World} : ∀ {ks : List Key} {us : List Value}, Vals (ks.map kV) us → ItemsAre (mixKind P w) ks us
  | [], _, r => by rw [List.map_nil] at r; cases r; exact .nil
  | k :: ks, _, r => by
    rw [List.map_cons] at r
    cases r with
    | cons h t => exact .cons (kV_is h) (items_are t)
abbrev KT (H : Hp) : List (List Key × V) → List (List Key × Addr × Value) → Prop := Paired fun p q => p.1 = q.1 ∧ H q.2.1 = some (.tup (p.1.map kV)) ∧ RelV p.2 q.2.2
theorem KT.val {H : Hp} {kvs : List (List Key × V)} {xs : List (List Key × Addr × Value)} (r : KT H kvs xs) (k : List Key) : RelO (valV kvs k) ((atKey xs k).map (·.2)) := by
  induction r with
  | nil => exact True.intro
  | @cons p q ps qs h t ih =>
    obtain ⟨h1, _, h2⟩ := h
    by_cases e : p.1 = k
    · have e' : q.1 = k := h1.symm.trans e
      have b : atKey (q :: qs) k = some q.2 := by simp [atKey, List.find?_cons, e']
      rw [valV_pos e, b]; exact h2
    · have e' : ¬ q.1 = k := fun z => e (h1.trans z)
      have b : atKey (q :: qs) k = atKey qs k := by simp [atKey, List.find?_cons, e']
      rw [valV_neg e, b]; exact ih
theorem KT.repl {H : Hp} {kvs : List (List Key × V)} {xs : List (List Key × Addr × Value)} (r : KT H kvs xs) (k : List Key) {y : V} {u : Value} (ry : RelV y u) :
    KT H (kvs.map fun kv => if kv.1 = k then (kv.1, y) else kv) (xs.map (putAt k u)) := by
  induction r with
  | nil => exact .nil
  | @cons p q ps qs h t ih =>
    rw [List.map_cons, List.map_cons]
    refine .cons ?_ ih
    obtain ⟨h1, h2, h3⟩ := h
    unfold putAt
    by_cases e : p.1 = k
    · rw [if_pos e, if_pos (h1.symm.trans e)]; exact ⟨h1, h2, ry⟩
    · rw [if_neg e, if_neg (fun z => e (h1.trans z))]; exact ⟨h1, h2, h3⟩
theorem KT.put {H : Hp} {kvs : List (List Key × V)} {xs : List (List Key × Addr × Value)} (r : KT H kvs xs) (k : List Key) {b : Addr} {y : V} {u : Value} (hb : H b = some (.tup (k.map kV))) (ry : RelV y u) :
    KT H (putK kvs k y) (storedH xs k b u) := by
  have e : (kvs.any fun kv => decide (kv.1 = k)) = (atKey xs k).isSome := by
    rw [valV_any, (r.val k).isSome_eq, Option.isSome_map]
  unfold putK storedH
  rw [e]
  by_cases q : (atKey xs k).isSome = true
  · rw [if_pos q, if_pos q]; exact r.repl k ry
  · rw [if_neg q, if_neg q]; exact Paired.snoc r ⟨rfl, hb, ry⟩
theorem KT.keeps {H H' : Hp} {kvs : List (List Key × V)} {xs : List (List Key × Addr × Value)} (r : KT H kvs xs) (ht : ∀ b ys, H b = some (.tup ys) → H' b = some (.tup ys)) : KT H' kvs xs :=
  Paired.mapP r fun _ _ z => ⟨z.1, ht _ _ z.2.1, z.2.2⟩
section
variable {P : Program} {w : World} {H : Hp} {h : Heap} {a : Addr}
theorem rd_of {u : HO} (ok : HOk P w H h) (e : Rd H a u) : ObjOk P w H h a u := e.ok ok
theorem dk_rd {kvs : List (Key × V)} (ok : HOk P w H h) (e : Rd H a (.dK kvs)) : kvs.length ≤ sizeLine ∧ (a == sysModules) = false ∧ ∃ vs, KV kvs vs ∧ h.DictOf (mixKind P w) a vs :=
  show ObjOk P w H h a (.dK kvs) from rd_of ok e
theorem dk_of {kvs : List (Key × V)} (ok : HOk P w H h) (e : H a = some (.dK kvs)) : kvs.length ≤ sizeLine ∧ (a == sysModules) = false ∧ ∃ vs, KV kvs vs ∧ h.DictOf (mixKind P w) a vs := dk_rd ok (.inl e)
theorem key_of {ks : List Key} (ok : HOk P w H h) (e : H a = some (.tup (ks.map kV))) : (tupleKind (mixKind P w)).is h ks a := by
  obtain ⟨_, its, r, o, h1, h2, n, h3⟩ := (show ObjOk P w H h a (.tup (ks.map kV)) from ok a _ e)
  exact ⟨o, its.toArray, n, h1, h2, h3, by simpa using items_are r⟩
theorem dt_rd {kvs : List (List Key × V)} (ok : HOk P w H h) (e : Rd H a (.dT kvs)) : kvs.length ≤ sizeLine ∧ (a == sysModules) = false ∧
    ∃ xs, KT H kvs xs ∧ h.DictOfH (tupleKind (mixKind P w)) a xs := by
  obtain ⟨z, y, xs, r, o, es, ep, h1, h2, h3, h4, h5⟩ := (show ObjOk P w H h a (.dT kvs) from rd_of ok e)
  refine ⟨z, y, xs, r, o, es, ep, h1, h2, h3, h4, fun x hx => ?_, h5⟩
  have all : ∀ {l : List (List Key × V)} {m : List (List Key × Addr × Value)}, KT H l m → ∀ x ∈ m, (tupleKind (mixKind P w)).is h x.1 x.2.1 := by
    intro l m q
    induction q with
    | nil => intro x hx; exact nomatch hx
    | @cons p q ps qs hq t ih =>
      intro x hx
      rcases List.mem_cons.mp hx with e | hx
      · subst e
        exact key_of ok (by rw [← hq.1]; exact hq.2.1)
      · exact ih x hx
  exact all r x hx
theorem dt_of {kvs : List (List Key × V)} (ok : HOk P w H h) (e : H a = some (.dT kvs)) : kvs.length ≤ sizeLine ∧ (a == sysModules) = false ∧
    ∃ xs, KT H kvs xs ∧ h.DictOfH (tupleKind (mixKind P w)) a xs := dt_rd ok (.inl e)
end
def DGet (H : Hp) (a : Addr) (y : V) (r : Option V) : Prop :=
  (∃ kvs k, Rd H a (.dK kvs) ∧ y = kV k ∧ r = valV kvs k) ∨ ∃ kvs k b, Rd H a (.dT kvs) ∧ y = .ref b ∧ H b = some (.tup (k.map kV)) ∧ r = valV kvs k
def DPut (H : Hp) (a : Addr) (y v : V) (H' : Hp) : Prop :=
  (∃ kvs k, H a = some (.dK kvs) ∧ y = kV k ∧ kvs.length < sizeLine ∧ H' = upd H a (.dK (putK kvs k v))) ∨
  ∃ kvs k b, H a = some (.dT kvs) ∧ y = .ref b ∧ H b = some (.tup (k.map kV)) ∧ kvs.length < sizeLine ∧ H' = upd H a (.dT (putK kvs k v))
theorem DGet.k {H : Hp} {a : Addr} {kvs : List (Key × V)} {k : Key} (e : H a = some (.dK kvs)) : DGet H a (kV k) (valV kvs k) := .inl ⟨kvs, k, .inl e, rfl, rfl⟩
theorem DPut.k {H : Hp} {a : Addr} {kvs : List (Key × V)} {k : Key} {v : V} (e : H a = some (.dK kvs)) (hl : kvs.length < sizeLine) : DPut H a (kV k) v (upd H a (.dK (putK kvs k v))) := .inl ⟨kvs, k, e, rfl, hl, rfl⟩
section
variable {X : Cx} {pins : List (Addr × Obj)} {σ : St} {H : Hp} {s : Shared} {a : Addr} {y v : V} {u r : Value} {o : Option V} {A : Around} {E : Value → Shared → Prop}
theorem Inv.big (I : Inv X pins σ H s) : sysModules < s.heap.objs.size := by
  have h : mainGlobals < s.heap.objs.size := (I.mod.glob.keeps I.bk).lt
  exact Nat.lt_trans (by decide) h
theorem d_getItem {Q : Value → Shared → Prop} (hu : A.units + 1 < cLine) (I : Inv X pins σ H s) (g : DGet H a y (some v)) (ry : RelV y u) (h : ∀ w' s', Inv X pins σ H s' → RelV v w' → Q w' s') :
    wpAny (model X.prog X.w) A (getItem (.ref a) u) Q E s := by
  rcases g with ⟨kvs, k, e, ey, l⟩ | ⟨kvs, k, b, e, ey, eb, l⟩
  · subst ey
    obtain ⟨z, hd, vs, rel, dd⟩ := dk_rd I.hok e
    obtain ⟨w', hw, rw'⟩ := RelO.some_of (v := v) (o := valueAt vs k) (by rw [l]; exact rel.val k)
    exact wpAny_getItem_of (kV_is ry) dd.mapOf hw (h w' _ (I.tok _) rw')
  · subst ey
    cases (show u = Value.ref b from ry)
    obtain ⟨z, hd, xs, rel, dd⟩ := dt_rd I.hok e
    obtain ⟨w', hw, rw'⟩ := RelO.some_of (v := v) (o := (atKey xs k).map (·.2)) (by rw [l]; exact rel.val k)
    obtain ⟨p, hp, hp2⟩ := Option.map_eq_some_iff.mp hw
    refine wpAny_getItem_heap (tupleKind_room_in1 hu) (key_of I.hok eb) dd hp ?_
    rw [hp2]
    exact h w' _ (I.tok _) rw'
theorem d_write {h' : Heap} {t' : Nat} {ob : HO} (I : Inv X pins σ H s) (mu : Mut (H a)) (hs : Heap.SameBut a s.heap h') (he : ∃ q, h'.get? a = some q) (new : ObjOk X.prog X.w (upd H a ob) h' a ob) :
    Inv X pins σ (upd H a ob) { s with heap := h', toks := t' } :=
  I.write (x := a) (e := a) mu (.inl rfl) (fun b q hb z => (hs.2 b hb).trans z) he new
theorem dk_new {P : Program} {w : World} {H' : Hp} {h' : Heap} {kvs : List (Key × V)} {vs : List (Key × Value)} (z : kvs.length ≤ sizeLine) (hd : (a == sysModules) = false) (rel : KV kvs vs) (dd : h'.DictOf (mixKind P w) a vs) :
    ObjOk P w H' h' a (.dK kvs) := ⟨z, hd, vs, rel, dd⟩
theorem d_setItem {H' : Hp} {Q : Unit → Shared → Prop} (hu : A.units + 1 < cLine) (I : Inv X pins σ H s) (g : DPut H a y v H') (ry : RelV y u) (rv : RelV v r) (h : ∀ s', Inv X pins σ H' s' → Q () s') :
    wpAny (model X.prog X.w) A (setItem (.ref a) u r) Q E s := by
  rcases g with ⟨kvs, k, e, ey, l, eH⟩ | ⟨kvs, k, b, e, ey, eb, l, eH⟩
  · subst ey eH
    obtain ⟨z, hd, vs, rel, dd⟩ := dk_of I.hok e
    have hz : vs.length ≤ sizeLine := by rw [← rel.length]; exact z
    have hl : (putK kvs k v).length ≤ sizeLine := by have := length_putK kvs k v; omega
    refine wpAny_setItem_pairs (hsz := hz) (kV_is ry) dd fun h' dd' hs => h _ ?_
    have he : ∃ q, h'.get? a = some q := let ⟨q, _, _, hq, _⟩ := dd'; ⟨q, hq⟩
    exact d_write I (by rw [e]; exact True.intro) hs he (dk_new hl hd (rel.put k rv) dd')
  · subst ey eH
    cases (show u = Value.ref b from ry)
    obtain ⟨z, hd, xs, rel, dd⟩ := dt_of I.hok e
    have hz : xs.length ≤ sizeLine := by rw [← Paired.length rel]; exact z
    have hl : (putK kvs k v).length ≤ sizeLine := by have := length_putK kvs k v; omega
    refine wpAny_setItem_heap (hsz := hz) (tupleKind_room_in1 hu) (key_of I.hok eb) dd fun h' dd' hs => h _ ?_
    obtain ⟨q, es, ep, hq, h2, h3, h4, _, h5⟩ := dd'
    refine d_write I (by rw [e]; exact True.intro) hs ⟨q, hq⟩ ⟨hl, hd, _, (rel.put k eb rv).keeps fun c ys ec => ?_, q, es, ep, hq, h2, h3, h4, h5⟩
    rw [upd_ne (ne_of ec e (fun z => nomatch z))]
    exact ec
end
section
variable {X : Cx} {pins : List (Addr × Obj)} {σ : St} {H : Hp} {s : Shared} {a : Addr} {kvs : List (Key × V)} {k : Key} {u : Value} {A : Around} {E : Value → Shared → Prop}
theorem d_len {Q : Value → Shared → Prop} (I : Inv X pins σ H s) (e : Rd H a (.dK kvs)) (h : ∀ t s', Inv X pins σ H s' → Q (.int kvs.length t) s') : wpAny (model X.prog X.w) A (call (.builtin "len") [.ref a]) Q E s := by
  obtain ⟨z, hd, vs, rel, dd⟩ := dk_rd I.hok e
  refine call_len_dict hd dd (by rw [← rel.length]; rw [sizeLine_eq] at z; omega) ?_
  rw [← rel.length]
  exact h _ _ (I.tok _)
end
theorem dict_typeIs {X : Cx} {pins : List (Addr × Obj)} {σ : St} {H : Hp} {s : Shared} {a : Addr} {y : V} {o : Option V} (I : Inv X pins σ H s) (g : DGet H a y o) : s.TypeIs (.ref a) "dict" := by
  rcases g with ⟨kvs, k, e, _, _⟩ | ⟨kvs, k, b, e, _, _, _⟩
  · obtain ⟨_, _, vs, _, dd⟩ := dk_rd I.hok e
    exact dd.typeIs
  · obtain ⟨_, _, xs, _, dd⟩ := dt_rd I.hok e
    exact dd.typeIs
section
variable {X : Cx} {o i e value : Expr} {pos pos' tpos : Pos} {td ty tv : TE}
end
section
variable {X : Cx} {pos : Pos}
end
def mergeK (kvs more : List (Key × V)) : List (Key × V) := more.foldl (fun acc kv => putK acc kv.1 kv.2) kvs
theorem KV.merge : ∀ {more : List (Key × V)} {rs : List (Key × Value)} {kvs : List (Key × V)} {vs : List (Key × Value)}, KV more rs → KV kvs vs → KV (mergeK kvs more) (merged vs rs) := by
  intro more rs kvs vs r
  unfold KV at r
  induction r generalizing kvs vs with
  | nil => intro q; exact q
  | @cons p q ps qs h t ih =>
    intro r0
    have e : KV (putK kvs p.1 p.2) (stored vs q.1 q.2) := by
      have := r0.put p.1 h.2
      rw [← h.1]; exact this
    exact ih e
theorem length_mergeK : ∀ (more kvs : List (Key × V)), (mergeK kvs more).length ≤ kvs.length + more.length
  | [], kvs => by show kvs.length ≤ kvs.length + 0; omega
  | p :: r, kvs => by
    have h1 := length_mergeK r (putK kvs p.1 p.2)
    have h2 := length_putK kvs p.1 p.2
    show (mergeK (putK kvs p.1 p.2) r).length ≤ _
    rw [List.length_cons]; omega
section
variable {X : Cx} {pins : List (Addr × Obj)} {σ : St} {H : Hp} {s : Shared} {a : Addr} {y d : V} {u r : Value} {o : Option V} {A : Around} {E : Value → Shared → Prop}
theorem d_get1 {Q : Value → Shared → Prop} (hu : A.units + 1 < cLine) (I : Inv X pins σ H s) (g : DGet H a y o) (ry : RelV y u) (h : ∀ w' s', Inv X pins σ H s' → RelV (o.getD .non) w' → Q w' s') :
    wpAny (model X.prog X.w) A (call (.builtin "dict.get") [.ref a, u]) Q E s := by
  rcases g with ⟨kvs, k, e, ey, l⟩ | ⟨kvs, k, b, e, ey, eb, l⟩
  · subst ey
    obtain ⟨z, hd, vs, rel, dd⟩ := dk_rd I.hok e
    refine call_meetsIn PySem.F.slot_dict_get dd.typeIs PySem.F.entry_dict_get (PySem.F.args_dict_get_2 _ _) (meets_dict_get (mixKind X.prog X.w) a (kV_is ry) hd) ⟨_, dd.mapOf, h _ _ (I.tok _) ?_⟩
    rw [l]
    exact (rel.val k).getD rfl
  · subst ey
    cases (show u = Value.ref b from ry)
    obtain ⟨z, hd, xs, rel, dd⟩ := dt_rd I.hok e
    refine call_meetsIn PySem.F.slot_dict_get dd.typeIs PySem.F.entry_dict_get (PySem.F.args_dict_get_2 _ _) (meetsH_dict_get (tupleKind (mixKind X.prog X.w)) a b hd) ⟨tupleKind_room_in1 hu, k, xs, key_of I.hok eb, dd, h _ _ (I.tok _) ?_⟩
    rw [l]
    exact (rel.val k).getD rfl
theorem d_get2 {Q : Value → Shared → Prop} (hu : A.units + 1 < cLine) (I : Inv X pins σ H s) (g : DGet H a y o) (ry : RelV y u) (rd : RelV d r) (h : ∀ w' s', Inv X pins σ H s' → RelV (o.getD d) w' → Q w' s') :
    wpAny (model X.prog X.w) A (call (.builtin "dict.get") [.ref a, u, r]) Q E s := by
  rcases g with ⟨kvs, k, e, ey, l⟩ | ⟨kvs, k, b, e, ey, eb, l⟩
  · subst ey
    obtain ⟨z, hd, vs, rel, dd⟩ := dk_rd I.hok e
    refine call_meetsIn PySem.F.slot_dict_get dd.typeIs PySem.F.entry_dict_get (PySem.F.args_dict_get_3 _ _ _) (meets_dict_get_default (mixKind X.prog X.w) a (kV_is ry) hd r) ⟨_, dd.mapOf, h _ _ (I.tok _) ?_⟩
    rw [l]
    exact (rel.val k).getD rd
  · subst ey
    cases (show u = Value.ref b from ry)
    obtain ⟨z, hd, xs, rel, dd⟩ := dt_rd I.hok e
    refine call_meetsIn PySem.F.slot_dict_get dd.typeIs PySem.F.entry_dict_get (PySem.F.args_dict_get_3 _ _ _) (meetsH_dict_get_default (tupleKind (mixKind X.prog X.w)) a b hd r) ⟨tupleKind_room_in1 hu, k, xs, key_of I.hok eb, dd, h _ _ (I.tok _) ?_⟩
    rw [l]
    exact (rel.val k).getD rd
end
section
variable {X : Cx} {o e f : Expr} {apos cpos : Pos} {td ty tx : TE}
end
section
variable {X : Cx} {pins : List (Addr × Obj)} {σ : St} {H : Hp} {s : Shared} {a : Addr} {kvs : List (Key × V)} {A : Around} {E : Value → Shared → Prop}
end
section
variable {X : Cx} {pins : List (Addr × Obj)} {σ : St} {H : Hp} {s : Shared} {a : Addr} {y : V} {u : Value} {A : Around} {E : Value → Shared → Prop}
end
section
variable {X : Cx}
theorem call_lenD : CallR X (.builtin "len") (fun xs H Q => ∃ a kvs, xs = [V.ref a] ∧ H a = some (.dK kvs) ∧ Q (.int kvs.length) H) := by
  intro pins s σ H xs us Q I r h
  obtain ⟨a, kvs, rfl, ha, q⟩ := h
  obtain ⟨u, rfl, ru⟩ := vals1 r
  cases ru
  exact d_len I (.inl ha) fun t s' I' => ⟨.int kvs.length, H, I', ⟨t, rfl⟩, q⟩
end
section
variable {κ : Type} [DecidableEq κ]
end
end L2
namespace D
open PySem PySem.Spec PyProof.Rows L2
abbrev St := L2.St
inductive DV where
  | non | bl (b : Bool) | int (i : Int) | str (x : Str) | tup (xs : List DV) | lst (xs : List DV) | ref (i : Nat)
inductive OV where
  | lst (xs : List DV)
  | dic (kvs : List (Key × DV))
  | ins (c : Str) (fs : List (Str × DV))
abbrev Hs := List OV
abbrev M := StateT Hs Option
mutual
def RepV (K : PySem.W.Frag) (ρ : List Addr) (B : Addr → Prop) (H : Hp) : DV → V → Prop
  | .non, v => v = .non
  | .bl b, v => v = .bl b
  | .int i, v => v = .int i
  | .str x, v => v = .str x
  | .tup ds, v => ∃ a xs, v = .ref a ∧ ¬ B a ∧ SqT K H a xs ∧ RepL K ρ B H ds xs
  | .lst ds, v => ∃ a xs, v = .ref a ∧ ¬ B a ∧ SqL K H a xs ∧ RepL K ρ B H ds xs
  | .ref i, v => ∃ a, v = .ref a ∧ ρ[i]? = some a
def RepL (K : PySem.W.Frag) (ρ : List Addr) (B : Addr → Prop) (H : Hp) : List DV → List V → Prop
  | [], xs => xs = []
  | d :: ds, xs => ∃ x r, xs = x :: r ∧ RepV K ρ B H d x ∧ RepL K ρ B H ds r
end
def ORep (K : PySem.W.Frag) (ρ : List Addr) (B : Addr → Prop) (H : Hp) (a : Addr) : OV → Prop
  | .lst ds => ∃ xs, H a = some (.lst xs) ∧ RepL K ρ B H ds xs
  | .dic kvs => ∃ xs : List (Key × V), H a = some (.dK xs) ∧ xs.map (·.1) = kvs.map (·.1) ∧ RepL K ρ B H (kvs.map (·.2)) (xs.map (·.2))
  | .ins c fs => ∃ (C dx : Addr) (xs : List (Str × V)), PySem.W.nsIn K mainGlobals c = some (some (.ref C)) ∧ H a = some (.ins C dx xs) ∧ xs.map (·.1) = fs.map (·.1) ∧ RepL K ρ B H (fs.map (·.2)) (xs.map (·.2))
structure Gr (K : PySem.W.Frag) (ρ : List Addr) (B : Addr → Prop) (H : Hp) (ρ' : List Addr) (B' : Addr → Prop) (H' : Hp) : Prop where
  pre : ρ <+: ρ'
  ban : ∀ a, B a → B' a
  new : ∀ a, B' a → B a ∨ (H a = none ∧ K.lookup a = none)
  rnew : ∀ a ∈ ρ', a ∈ ρ ∨ H a = none
  keep : ∀ a o, a ∉ ρ → H a = some o → H' a = some o
  trk : ∀ a, H' a = none → H a = none
structure WOk (K : PySem.W.Frag) (ρ : List Addr) (B : Addr → Prop) (hp : Hs) (H : Hp) : Prop where
  len : ρ.length = hp.length
  nd : ρ.Nodup
  obj : ∀ (i : Nat) (a : Addr) (o : OV), ρ[i]? = some a → hp[i]? = some o → ORep K ρ B H a o
  rb : ∀ a ∈ ρ, B a
  bt : ∀ a, B a → H a ≠ none
  bk : ∀ a, B a → K.lookup a = none
section
variable {K : PySem.W.Frag} {ρ ρ' ρ'' : List Addr} {B B' B'' : Addr → Prop} {H H' H'' : Hp}
theorem Gr.refl : Gr K ρ B H ρ B H := ⟨List.prefix_rfl, fun _ h => h, fun _ h => .inl h, fun _ h => .inl h, fun _ _ _ h => h, fun _ h => h⟩
theorem Gr.trans (a : Gr K ρ B H ρ' B' H') (b : Gr K ρ' B' H' ρ'' B'' H'') : Gr K ρ B H ρ'' B'' H'' where
  pre := a.pre.trans b.pre
  ban := fun x h => b.ban x (a.ban x h)
  new := fun x h => (b.new x h).elim (a.new x) fun z => .inr ⟨a.trk x z.1, z.2⟩
  rnew := fun x h => (b.rnew x h).elim (a.rnew x) fun z => .inr (a.trk x z)
  keep := fun x o hn h => b.keep x o (fun z => (a.rnew x z).elim hn (fun z => by rw [h] at z; cases z)) (a.keep x o hn h)
  trk := fun x h => a.trk x (b.trk x h)
structure Gs (K : PySem.W.Frag) (ρ : List Addr) (B : Addr → Prop) (H : Hp) (ρ' : List Addr) (B' : Addr → Prop) (H' : Hp) : Prop where
  pre : ρ <+: ρ'
  new : ∀ a, B' a → B a ∨ (H a = none ∧ K.lookup a = none)
  keep : ∀ a o, ¬ B a → H a = some o → H' a = some o
  trk : ∀ a, H' a = none → H a = none
theorem Gr.gs (rb : ∀ a ∈ ρ, B a) (g : Gr K ρ B H ρ' B' H') : Gs K ρ B H ρ' B' H' := ⟨g.pre, g.new, fun a o nb h => g.keep a o (fun z => nb (rb a z)) h, g.trk⟩
theorem Gs.refl : Gs K ρ B H ρ B H := ⟨List.prefix_rfl, fun _ h => .inl h, fun _ _ _ h => h, fun _ h => h⟩
theorem Gs.trans (a : Gs K ρ B H ρ' B' H') (b : Gs K ρ' B' H' ρ'' B'' H'') : Gs K ρ B H ρ'' B'' H'' where
  pre := a.pre.trans b.pre
  new := fun x h => (b.new x h).elim (a.new x) fun z => .inr ⟨a.trk x z.1, z.2⟩
  keep := fun x o nb h => b.keep x o (fun z => (a.new x z).elim nb fun q => by rw [h] at q; cases q.1) (a.keep x o nb h)
  trk := fun x h => a.trk x (b.trk x h)
theorem SqT.trk {a : Addr} {xs : List V} (h : SqT K H a xs) : H a ≠ none ∨ ∃ o, K.lookup a = some o := by
  rcases h with (h | ⟨o, h⟩) | ⟨o, _, _, h, _⟩
  · exact .inl (by rw [h]; simp)
  · exact .inl (by rw [h]; simp)
  · exact .inr ⟨o, h⟩
theorem SqL.trk {a : Addr} {xs : List V} (h : SqL K H a xs) : H a ≠ none ∨ ∃ o, K.lookup a = some o := by
  rcases h with (h | ⟨o, h⟩) | ⟨o, _, _, h, _⟩
  · exact .inl (by rw [h]; simp)
  · exact .inl (by rw [h]; simp)
  · exact .inr ⟨o, h⟩
theorem Gs.ok {a : Addr} (g : Gs K ρ B H ρ' B' H') (hb : ¬ B a) (t : H a ≠ none ∨ ∃ o, K.lookup a = some o) : ¬ B' a := fun z =>
  (g.new a z).elim hb fun ⟨n, k⟩ => t.elim (fun q => q n) fun ⟨o, q⟩ => by rw [k] at q; cases q
theorem Gs.sqT {a : Addr} {xs : List V} (g : Gs K ρ B H ρ' B' H') (hr : ¬ B a) (h : SqT K H a xs) : SqT K H' a xs := by
  rcases h with (h | ⟨o, h⟩) | h
  · exact .inl (.inl (g.keep _ _ hr h))
  · exact .inl (.inr ⟨o, g.keep _ _ hr h⟩)
  · exact .inr h
theorem Gs.sqL {a : Addr} {xs : List V} (g : Gs K ρ B H ρ' B' H') (hr : ¬ B a) (h : SqL K H a xs) : SqL K H' a xs := by
  rcases h with (h | ⟨o, h⟩) | h
  · exact .inl (.inl (g.keep _ _ hr h))
  · exact .inl (.inr ⟨o, g.keep _ _ hr h⟩)
  · exact .inr h
theorem pre_get {i : Nat} {a : Addr} (p : ρ <+: ρ') (h : ρ[i]? = some a) : ρ'[i]? = some a := by
  obtain ⟨t, rfl⟩ := p
  rw [List.getElem?_append_left (List.getElem?_eq_some_iff.mp h).1]; exact h
mutual
theorem RepV.gs (g : Gs K ρ B H ρ' B' H') : ∀ (d : DV) (v : V), RepV K ρ B H d v → RepV K ρ' B' H' d v
  | .non, _, h => by unfold RepV at h ⊢; exact h
  | .bl _, _, h => by unfold RepV at h ⊢; exact h
  | .int _, _, h => by unfold RepV at h ⊢; exact h
  | .str _, _, h => by unfold RepV at h ⊢; exact h
  | .ref _, _, h => by
    unfold RepV at h ⊢
    obtain ⟨a, e, h⟩ := h
    exact ⟨a, e, pre_get g.pre h⟩
  | .tup ds, _, h => by
    unfold RepV at h ⊢
    obtain ⟨a, xs, e, nb, sq, rl⟩ := h
    exact ⟨a, xs, e, g.ok nb (SqT.trk sq), g.sqT nb sq, RepL.gs g ds xs rl⟩
  | .lst ds, _, h => by
    unfold RepV at h ⊢
    obtain ⟨a, xs, e, nb, sq, rl⟩ := h
    exact ⟨a, xs, e, g.ok nb (SqL.trk sq), g.sqL nb sq, RepL.gs g ds xs rl⟩
theorem RepL.gs (g : Gs K ρ B H ρ' B' H') : ∀ (ds : List DV) (xs : List V), RepL K ρ B H ds xs → RepL K ρ' B' H' ds xs
  | [], _, h => by unfold RepL at h ⊢; exact h
  | d :: ds, _, h => by
    unfold RepL at h ⊢
    obtain ⟨x, r, e, h1, h2⟩ := h
    exact ⟨x, r, e, RepV.gs g d x h1, RepL.gs g ds r h2⟩
end
theorem RepV.grow (rb : ∀ a ∈ ρ, B a) (g : Gr K ρ B H ρ' B' H') (d : DV) (v : V) (h : RepV K ρ B H d v) : RepV K ρ' B' H' d v := RepV.gs (g.gs rb) d v h
theorem RepL.grow (rb : ∀ a ∈ ρ, B a) (g : Gr K ρ B H ρ' B' H') (ds : List DV) (xs : List V) (h : RepL K ρ B H ds xs) : RepL K ρ' B' H' ds xs := RepL.gs (g.gs rb) ds xs h
theorem RepL.length : ∀ {ds : List DV} {xs : List V}, RepL K ρ B H ds xs → ds.length = xs.length
  | [], _, h => by unfold RepL at h; subst h; rfl
  | d :: ds, _, h => by
    unfold RepL at h
    obtain ⟨x, r, rfl, _, h2⟩ := h
    simp [RepL.length h2]
theorem RepL.get : ∀ {ds : List DV} {xs : List V} {i : Nat} {d : DV}, RepL K ρ B H ds xs → ds[i]? = some d → ∃ x, xs[i]? = some x ∧ RepV K ρ B H d x
  | [], _, _, _, _, e => by simp at e
  | d :: ds, _, 0, _, h, e => by
    unfold RepL at h
    obtain ⟨x, r, rfl, h1, _⟩ := h
    simp at e; subst e
    exact ⟨x, rfl, h1⟩
  | d :: ds, _, i + 1, _, h, e => by
    unfold RepL at h
    obtain ⟨x, r, rfl, _, h2⟩ := h
    obtain ⟨y, h3, h4⟩ := RepL.get h2 (by simpa using e)
    exact ⟨y, by simpa using h3, h4⟩
theorem RepL.nil : RepL K ρ B H [] [] := by unfold RepL; rfl
theorem RepL.cons {d : DV} {x : V} {ds : List DV} {xs : List V} (h : RepV K ρ B H d x) (t : RepL K ρ B H ds xs) : RepL K ρ B H (d :: ds) (x :: xs) := by
  unfold RepL; exact ⟨x, xs, rfl, h, t⟩
theorem RepL.append : ∀ {ds es : List DV} {xs ys : List V}, RepL K ρ B H ds xs → RepL K ρ B H es ys → RepL K ρ B H (ds ++ es) (xs ++ ys)
  | [], _, _, _, h, t => by unfold RepL at h; subst h; exact t
  | d :: ds, _, _, _, h, t => by
    unfold RepL at h
    obtain ⟨x, r, rfl, h1, h2⟩ := h
    exact RepL.cons h1 (RepL.append h2 t)
theorem RepL.one {d : DV} {x : V} (h : RepV K ρ B H d x) : RepL K ρ B H [d] [x] := RepL.cons h RepL.nil
theorem RepL.take : ∀ (n : Nat) {ds : List DV} {xs : List V}, RepL K ρ B H ds xs → RepL K ρ B H (ds.take n) (xs.take n)
  | 0, _, _, _ => by simp; exact RepL.nil
  | _ + 1, [], _, h => by unfold RepL at h; subst h; simp; exact RepL.nil
  | n + 1, d :: ds, _, h => by
    unfold RepL at h
    obtain ⟨x, r, rfl, h1, h2⟩ := h
    exact RepL.cons h1 (RepL.take n h2)
theorem RepL.drop : ∀ (n : Nat) {ds : List DV} {xs : List V}, RepL K ρ B H ds xs → RepL K ρ B H (ds.drop n) (xs.drop n)
  | 0, _, _, h => h
  | _ + 1, [], _, h => by unfold RepL at h; subst h; simp; exact RepL.nil
  | n + 1, d :: ds, _, h => by
    unfold RepL at h
    obtain ⟨x, r, rfl, h1, h2⟩ := h
    exact RepL.drop n h2
theorem Gr.laid {p : Addr} {o : HO} (h : H p = none) : Gr K ρ B H ρ B (upd H p o) where
  pre := List.prefix_rfl
  ban := fun _ h => h
  new := fun _ h => .inl h
  rnew := fun _ h => .inl h
  keep := fun a u _ q => by rw [upd_ne (ne_of_none q h)]; exact q
  trk := fun a q => by
    by_cases e : a = p
    · subst e; rw [upd_same] at q; cases q
    · rw [upd_ne e] at q; exact q
theorem ORep.gs {a : Addr} {o : OV} (g : Gs K ρ B H ρ' B' H') (hk : H' a = H a) (h : ORep K ρ B H a o) : ORep K ρ' B' H' a o := by
  cases o with
  | lst ds =>
    obtain ⟨xs, e, rl⟩ := h
    exact ⟨xs, hk.trans e, RepL.gs g _ _ rl⟩
  | dic kvs =>
    obtain ⟨xs, e, ek, rl⟩ := h
    exact ⟨xs, hk.trans e, ek, RepL.gs g _ _ rl⟩
  | ins c fs =>
    obtain ⟨C, dx, xs, nc, e, ek, rl⟩ := h
    exact ⟨C, dx, xs, nc, hk.trans e, ek, RepL.gs g _ _ rl⟩
theorem WOk.laid {hp : Hs} {p : Addr} {o : HO} (W : WOk K ρ B hp H) (h : H p = none) : WOk K ρ B hp (upd H p o) where
  len := W.len
  nd := W.nd
  obj := fun i a u e q => ORep.gs ((Gr.laid h).gs W.rb) (by
    have hb := W.bt a (W.rb a (List.mem_of_getElem? e))
    exact upd_ne (fun z => hb (z ▸ h))) (W.obj i a u e q)
  rb := W.rb
  bt := fun a z q => W.bt a z ((Gr.laid (K := K) (ρ := ρ) (B := B) h).trk a q)
  bk := W.bk
end
inductive Sl where
  | un | val (d : DV) | acc (ds : List DV)
abbrev En := List Sl
structure Ent where
  ρ : List Addr
  B : Addr → Prop
  H : Hp
structure SOk (K : PySem.W.Frag) (Z : Ent) (env : En) (σ : St) (ρ : List Addr) (B : Addr → Prop) (hp : Hs) (H : Hp) : Prop where
  gr : Gr K Z.ρ Z.B Z.H ρ B H
  zb : ∀ a, Z.B a → Z.H a ≠ none
  wo : WOk K ρ B hp H
  slot : ∀ (i : Nat) (d : DV), env[i]? = some (.val d) → ∃ v, σ[i]? = some (some v) ∧ RepV K ρ B H d v
  accs : ∀ (i : Nat) (ds : List DV), env[i]? = some (.acc ds) → ∃ a xs, σ[i]? = some (some (.ref a)) ∧ H a = some (.lst xs) ∧ Z.H a = none ∧ B a ∧ a ∉ ρ ∧ RepL K ρ B H ds xs
  adis : ∀ (i j : Nat) (ds es : List DV) (a : Addr), env[i]? = some (.acc ds) → env[j]? = some (.acc es) → σ[i]? = some (some (.ref a)) → σ[j]? = some (some (.ref a)) → i = j
  len : σ.length = env.length
theorem SOk.grow {K : PySem.W.Frag} {Z : Ent} {env : En} {σ : St} {ρ ρ' : List Addr} {B B' : Addr → Prop} {hp hp' : Hs} {H H' : Hp} (S : SOk K Z env σ ρ B hp H) (g : Gr K ρ B H ρ' B' H') (W : WOk K ρ' B' hp' H') : SOk K Z env σ ρ' B' hp' H' where
  gr := S.gr.trans g
  zb := S.zb
  wo := W
  slot := fun i d e => let ⟨v, h1, h2⟩ := S.slot i d e; ⟨v, h1, RepV.grow S.wo.rb g d v h2⟩
  accs := fun i ds e => by
    obtain ⟨a, xs, h1, h2, h3, h4, h5, h6⟩ := S.accs i ds e
    refine ⟨a, xs, h1, g.keep a _ h5 h2, h3, g.ban a h4, fun z => ?_, RepL.grow S.wo.rb g ds xs h6⟩
    rcases g.rnew a z with q | q
    · exact h5 q
    · rw [h2] at q; cases q
  adis := S.adis
  len := S.len
abbrev DEx := En → M DV
abbrev DTx := En → M Bool
abbrev DAx := En → M (List DV)
inductive Fl where
  | nx | rt (d : DV) | bk | ct
abbrev DSx := En → M (Fl × En)
def Fol (K : PySem.W.Frag) (ρ : List Addr) (B : Addr → Prop) (H : Hp) (d : DV) (hp' : Hs) (Q : VK) : Prop :=
  ∀ v ρ' B' H', Gr K ρ B H ρ' B' H' → WOk K ρ' B' hp' H' → RepV K ρ' B' H' d v → Q v H'
def FolB (K : PySem.W.Frag) (ρ : List Addr) (B : Addr → Prop) (H : Hp) (hp' : Hs) (Q : Hp → Prop) : Prop :=
  ∀ ρ' B' H', Gr K ρ B H ρ' B' H' → WOk K ρ' B' hp' H' → Q H'
def FolL (K : PySem.W.Frag) (ρ : List Addr) (B : Addr → Prop) (H : Hp) (ds : List DV) (hp' : Hs) (Q : List V → Hp → Prop) : Prop :=
  ∀ vs ρ' B' H', Gr K ρ B H ρ' B' H' → WOk K ρ' B' hp' H' → RepL K ρ' B' H' ds vs → Q vs H'
def tD (K : PySem.W.Frag) (f : DEx) : TE := fun σ H Q => ∃ Z env ρ B hp d hp', SOk K Z env σ ρ B hp H ∧ f env hp = some (d, hp') ∧ Fol K ρ B H d hp' Q
def tDT (K : PySem.W.Frag) (f : DTx) : TT := fun σ H Q => ∃ Z env ρ B hp d hp', SOk K Z env σ ρ B hp H ∧ f env hp = some (d, hp') ∧ FolB K ρ B H hp' (Q d)
def tDA (K : PySem.W.Frag) (f : DAx) : TA := fun σ H Q => ∃ Z env ρ B hp ds hp', SOk K Z env σ ρ B hp H ∧ f env hp = some (ds, hp') ∧ FolL K ρ B H ds hp' Q
def DE (X : Cx) (e : Expr) (f : DEx) : Prop := PE X e (tD X.K f)
def DT (X : Cx) (e : Expr) (f : DTx) : Prop := PT X e (tDT X.K f)
def DW (X : Cx) (e : Expr) (f : DTx) : Prop := PW X e (tDT X.K f)
def DA (X : Cx) (es : List Expr) (f : DAx) : Prop := PA X es (tDA X.K f)
def FolS (K : PySem.W.Frag) (Z : Ent) (ρ : List Addr) (B : Addr → Prop) (H : Hp) (fl : Fl) (env' : En) (hp' : Hs) (D : Ends) : Prop :=
  ∀ σ' ρ' B' H', Gs K ρ B H ρ' B' H' → SOk K Z env' σ' ρ' B' hp' H' → match fl with
    | .nx => D.nx σ' H'
    | .bk => D.bk σ' H'
    | .ct => D.ct σ' H'
    | .rt d => ∀ v, RepV K ρ' B' H' d v → D.rt v H'
def tDS (K : PySem.W.Frag) (f : DSx) : TS := fun D σ H => ∃ Z env ρ B hp fl env' hp', SOk K Z env σ ρ B hp H ∧ f env hp = some ((fl, env'), hp') ∧ FolS K Z ρ B H fl env' hp' D
def DS (X : Cx) (st : Stmt) (f : DSx) : Prop := PS X st (tDS X.K f)
def DSs (X : Cx) (st : List Stmt) (f : DSx) : Prop := PSs X st (tDS X.K f)
section
variable {X : Cx}
theorem _root_.L2.PE.imp {e : Expr} {t t' : TE} (h : PE X e t) (i : ∀ σ H Q, t' σ H Q → t σ H Q) : PE X e t' := fun pins s σ H Q I q => h pins s σ H Q I (i σ H Q q)
theorem _root_.L2.PT.imp {e : Expr} {t t' : TT} (h : PT X e t) (i : ∀ σ H Q, t' σ H Q → t σ H Q) : PT X e t' := fun pins s σ H Q I q => h pins s σ H Q I (i σ H Q q)
theorem _root_.L2.PW.imp {e : Expr} {t t' : TT} (h : PW X e t) (i : ∀ σ H Q, t' σ H Q → t σ H Q) : PW X e t' := fun wh pins s σ H Q I q => h wh pins s σ H Q I (i σ H Q q)
theorem _root_.L2.PA.imp {es : List Expr} {t t' : TA} (h : PA X es t) (i : ∀ σ H Q, t' σ H Q → t σ H Q) : PA X es t' := fun pos pins s σ H Q I q => h pos pins s σ H Q I (i σ H Q q)
theorem _root_.L2.PS.imp {st : Stmt} {t t' : TS} (h : PS X st t) (i : ∀ Dn σ H, t' Dn σ H → t Dn σ H) : PS X st t' := fun pins s σ H Dn I q => h pins s σ H Dn I (i Dn σ H q)
theorem _root_.L2.PSs.imp {st : List Stmt} {t t' : TS} (h : PSs X st t) (i : ∀ Dn σ H, t' Dn σ H → t Dn σ H) : PSs X st t' := fun pins s σ H Dn I q => h pins s σ H Dn I (i Dn σ H q)
def KFree (K : PySem.W.Frag) (H : Hp) : Prop := ∀ a o, H a = some o → K.lookup a = none
theorem Inv.kfree {pins : List (Addr × Obj)} {σ : St} {H : Hp} {s : Shared} (I : Inv X pins σ H s) : KFree X.K H := fun a o e => by
  cases q : X.K.lookup a with
  | none => rfl
  | some ob =>
    have := (I.bs a ob (I.ok.mod.kin a ob q)).2
    rw [e] at this; cases this
theorem _root_.L2.PE.kf {e : Expr} {t : TE} (h : PE X e t) : PE X e (fun σ H Q => t σ H fun v H' => KFree X.K H' → Q v H') := fun pins s σ H Q I q =>
  thn (h pins s σ H _ I q) fun u s' ⟨v, H', I', r, z⟩ => ⟨v, H', I', r, z (Inv.kfree I')⟩
theorem bind_some {α β : Type} {f : M α} {g : α → M β} {hp hp' : Hs} {y : β} (h : (f >>= g) hp = some (y, hp')) : ∃ x hp1, f hp = some (x, hp1) ∧ g x hp1 = some (y, hp') := by
  change (f hp).bind (fun p => g p.1 p.2) = some (y, hp') at h
  cases q : f hp with
  | none => rw [q] at h; cases h
  | some p => rw [q] at h; exact ⟨p.1, p.2, rfl, h⟩
theorem pure_some {α : Type} {x y : α} {hp hp' : Hs} (h : (pure x : M α) hp = some (y, hp')) : x = y ∧ hp = hp' := by
  change some (x, hp) = some (y, hp') at h
  cases h; exact ⟨rfl, rfl⟩
theorem tD.run {K : PySem.W.Frag} {f : DEx} {Z : Ent} {env : En} {σ : St} {ρ : List Addr} {B : Addr → Prop} {hp hp1 : Hs} {H : Hp} {d : DV} {Q : VK} (S : SOk K Z env σ ρ B hp H) (e : f env hp = some (d, hp1))
    (k : ∀ v ρ' B' H', Gr K ρ B H ρ' B' H' → SOk K Z env σ ρ' B' hp1 H' → RepV K ρ' B' H' d v → Q v H') : tD K f σ H Q :=
  ⟨Z, env, ρ, B, hp, d, hp1, S, e, fun v ρ' B' H' g W r => k v ρ' B' H' g (S.grow g W) r⟩
def eVar (i : Nat) : DEx := fun env => match env[i]? with
  | some (.val d) => pure d
  | _ => failure
def eC (d : DV) : DEx := fun _ => pure d
theorem eVar_some {i : Nat} {env : En} {hp hp' : Hs} {d : DV} (h : eVar i env hp = some (d, hp')) : env[i]? = some (.val d) ∧ hp = hp' := by
  unfold eVar at h
  cases q : env[i]? with
  | none => rw [q] at h; cases h
  | some z =>
    rw [q] at h
    cases z with
    | val x => obtain ⟨rfl, rfl⟩ := pure_some h; exact ⟨rfl, rfl⟩
    | un => cases h
    | acc _ => cases h
theorem de_var (i : Nat) {x : Str} {pos : Pos} (hN : X.N[i]? = some x := by rfl) (hv : Vis X.env.scope x := by first | exact Or.inl rfl | exact Or.inr (Or.inl rfl) | exact Or.inr (Or.inr rfl)) (hd : (x == ("__debug__" : Str)) = false := by decide)
    (hcd : (x == ("__classdict__" : Str)) = false := by decide) : DE X (.Name x pos) (eVar i) :=
  (pe_var hN hv hd hcd).imp fun σ H Q ⟨Z, env, ρ, B, hp, d, hp', S, e, k⟩ => by
    obtain ⟨e1, rfl⟩ := eVar_some e
    obtain ⟨v, h1, h2⟩ := S.slot i d e1
    exact ⟨v, h1, k v ρ B H Gr.refl S.wo h2⟩
theorem de_const {e : Expr} {d : DV} {v : V} (h : PE X e (tC v)) (r : ∀ K ρ B H, RepV K ρ B H d v) : DE X e (eC d) :=
  h.imp fun σ H Q ⟨Z, env, ρ, B, hp, d', hp', S, e, k⟩ => by
    obtain ⟨rfl, rfl⟩ := pure_some e
    exact k v ρ B H Gr.refl S.wo (r _ _ _ _)
theorem de_int {i : Int} {j pos} : DE X (.Constant (.int i) j pos) (eC (.int i)) := de_const pe_int fun _ _ _ _ => by unfold RepV; rfl
theorem de_bl {b : Bool} {j pos} : DE X (.Constant (.bool b) j pos) (eC (.bl b)) := de_const pe_bl fun _ _ _ _ => by unfold RepV; rfl
theorem de_non {j pos} : DE X (.Constant .none j pos) (eC .non) := de_const pe_non fun _ _ _ _ => by unfold RepV; rfl
theorem de_gint {x : Str} {i : Int} {t : Tok} {pos : Pos} (hg : Gl X x) (hm : X.mg x = some (.int i t)) (hd : (x == ("__debug__" : Str)) = false := by decide) : DE X (.Name x pos) (eC (.int i)) :=
  de_const (pe_glob (v := .int i) hg hm ⟨t, rfl⟩ hd) fun _ _ _ _ => by unfold RepV; rfl
def tP2 (K : PySem.W.Frag) (g : DV → DV → M DV) : R2 := fun x y H Q => ∃ ρ B hp dx dy d hp', WOk K ρ B hp H ∧ RepV K ρ B H dx x ∧ RepV K ρ B H dy y ∧ g dx dy hp = some (d, hp') ∧ Fol K ρ B H d hp' Q
def P2 (X : Cx) (f : Value → Value → Sem Value) (g : DV → DV → M DV) : Prop := OpR X f (tP2 X.K g)
def eBin (g : DV → DV → M DV) (a b : DEx) : DEx := fun env => do let x ← a env; let y ← b env; g x y
variable {a b c : Expr} {fa fb fc : DEx} {pos : Pos}
theorem eBin_imp {K : PySem.W.Frag} {g : DV → DV → M DV} {σ : St} {H : Hp} {Q : VK} (h : tD K (eBin g fa fb) σ H Q) : tOp (tP2 K g) (tD K fa) (tD K fb) σ H Q := by
  obtain ⟨Z, env, ρ, B, hp, d, hp', S, e, k⟩ := h
  obtain ⟨x, hp1, e1, e2⟩ := bind_some e
  obtain ⟨y, hp2, e3, e4⟩ := bind_some e2
  refine tD.run S e1 fun v ρ1 B1 H1 g1 S1 r1 => tD.run S1 e3 fun u ρ2 B2 H2 g2 S2 r2 => ?_
  exact ⟨ρ2, B2, hp2, x, y, d, hp', S2.wo, RepV.grow S1.wo.rb g2 _ _ r1, r2, e4, fun w ρ' B' H' g W r => k w ρ' B' H' (g1.trans (g2.trans g)) W r⟩
theorem de_bin {op : Operator} {g : DV → DV → M DV} (ho : P2 X (binaryOp op) g) (ha : DE X a fa) (hb : DE X b fb) : DE X (.BinOp a op b pos) (eBin g fa fb) :=
  (pe_op ho ha hb).imp fun _ _ _ h => eBin_imp h
theorem de_cmp {op : CmpOp} {g : DV → DV → M DV} (ho : P2 X (compareOp op) g) (ha : DE X a fa) (hb : DE X b fb) (hm : behindInMarks op b = false) : DE X (.Compare a [op] [b] pos) (eBin g fa fb) :=
  (pe_cmpR ho ha hb hm).imp fun _ _ _ h => eBin_imp h
def asB : DV → M Bool
  | .bl b => pure b
  | _ => failure
def eB (f : DEx) : DTx := fun env => do asB (← f env)
theorem asB_some {d : DV} {c : Bool} {hp hp' : Hs} (h : asB d hp = some (c, hp')) : d = .bl c ∧ hp = hp' := by
  cases d with
  | bl b => obtain ⟨rfl, rfl⟩ := pure_some h; exact ⟨rfl, rfl⟩
  | _ => cases h
theorem RepV.blI {K : PySem.W.Frag} {ρ : List Addr} {B : Addr → Prop} {H : Hp} {b : Bool} {v : V} (h : RepV K ρ B H (.bl b) v) : v = .bl b := by unfold RepV at h; exact h
theorem RepV.intI {K : PySem.W.Frag} {ρ : List Addr} {B : Addr → Prop} {H : Hp} {b : Int} {v : V} (h : RepV K ρ B H (.int b) v) : v = .int b := by unfold RepV at h; exact h
theorem RepV.strI {K : PySem.W.Frag} {ρ : List Addr} {B : Addr → Prop} {H : Hp} {b : Str} {v : V} (h : RepV K ρ B H (.str b) v) : v = .str b := by unfold RepV at h; exact h
theorem RepV.nonI {K : PySem.W.Frag} {ρ : List Addr} {B : Addr → Prop} {H : Hp} {v : V} (h : RepV K ρ B H .non v) : v = .non := by unfold RepV at h; exact h
theorem RepV.tupI {K : PySem.W.Frag} {ρ : List Addr} {B : Addr → Prop} {H : Hp} {ds : List DV} {v : V} (h : RepV K ρ B H (.tup ds) v) : ∃ a xs, v = .ref a ∧ ¬ B a ∧ SqT K H a xs ∧ RepL K ρ B H ds xs := by unfold RepV at h; exact h
theorem RepV.lstI {K : PySem.W.Frag} {ρ : List Addr} {B : Addr → Prop} {H : Hp} {ds : List DV} {v : V} (h : RepV K ρ B H (.lst ds) v) : ∃ a xs, v = .ref a ∧ ¬ B a ∧ SqL K H a xs ∧ RepL K ρ B H ds xs := by unfold RepV at h; exact h
theorem RepV.refI {K : PySem.W.Frag} {ρ : List Addr} {B : Addr → Prop} {H : Hp} {i : Nat} {v : V} (h : RepV K ρ B H (.ref i) v) : ∃ a, v = .ref a ∧ ρ[i]? = some a := by unfold RepV at h; exact h
section
variable {K : PySem.W.Frag} {ρ : List Addr} {B : Addr → Prop} {H : Hp}
theorem rep_bl {b : Bool} : RepV K ρ B H (.bl b) (.bl b) := by unfold RepV; rfl
theorem rep_int {b : Int} : RepV K ρ B H (.int b) (.int b) := by unfold RepV; rfl
theorem rep_non : RepV K ρ B H .non .non := by unfold RepV; rfl
theorem rep_tup {a : Addr} {ds : List DV} {xs : List V} (h1 : ¬ B a) (h2 : SqT K H a xs) (h3 : RepL K ρ B H ds xs) : RepV K ρ B H (.tup ds) (.ref a) := by unfold RepV; exact ⟨a, xs, rfl, h1, h2, h3⟩
theorem rep_lst {a : Addr} {ds : List DV} {xs : List V} (h1 : ¬ B a) (h2 : SqL K H a xs) (h3 : RepL K ρ B H ds xs) : RepV K ρ B H (.lst ds) (.ref a) := by unfold RepV; exact ⟨a, xs, rfl, h1, h2, h3⟩
end
theorem dt_of {e : Expr} {f : DEx} (h : DE X e f) (he : ∀ whole, isTrue e X.env whole = (do let v ← whole; standAt e.pos; holding [v] (truthy v)) := by intro _; rfl) : DT X e (eB f) :=
  (pt_val h he).imp fun σ H Q ⟨Z, env, ρ, B, hp, d, hp', S, e, k⟩ => by
    obtain ⟨x, hp1, e1, e2⟩ := bind_some e
    obtain ⟨rfl, rfl⟩ := asB_some e2
    exact tD.run S e1 fun v ρ1 B1 H1 g1 S1 r1 => ⟨d, r1.blI, k ρ1 B1 H1 g1 S1.wo⟩
theorem dt_cmp {op : CmpOp} {g : DV → DV → M DV} (ho : P2 X (compareOp op) g) (ha : DE X a fa) (hb : DE X b fb) (hm : behindInMarks op b = false) : DT X (.Compare a [op] [b] pos) (eB (eBin g fa fb)) :=
  (pt_cmpR ho ha hb hm).imp fun σ H Q ⟨Z, env, ρ, B, hp, d, hp', S, e, k⟩ => by
    obtain ⟨x, hp1, e1, e2⟩ := bind_some e
    obtain ⟨rfl, rfl⟩ := asB_some e2
    exact eBin_imp (tD.run S e1 fun v ρ1 B1 H1 g1 S1 r1 => ⟨d, r1.blI, k ρ1 B1 H1 g1 S1.wo⟩)
def eAnd (f g : DTx) : DTx := fun env => do if ← f env then g env else pure false
def eOr (f g : DTx) : DTx := fun env => do if ← f env then pure true else g env
def eNot (f : DTx) : DTx := fun env => do let b ← f env; pure (!b)
def eAndV (f g : DEx) : DEx := fun env => do if ← asB (← f env) then g env else pure (.bl false)
def eOrV (f g : DEx) : DEx := fun env => do if ← asB (← f env) then pure (.bl true) else g env
def eNotV (f : DEx) : DEx := fun env => do let b ← asB (← f env); pure (.bl (!b))
def eIf (c : DTx) (f g : DEx) : DEx := fun env => do if ← c env then f env else g env
theorem tDT.run {K : PySem.W.Frag} {f : DTx} {Z : Ent} {env : En} {σ : St} {ρ : List Addr} {B : Addr → Prop} {hp hp1 : Hs} {H : Hp} {d : Bool} {Q : Bool → Hp → Prop} (S : SOk K Z env σ ρ B hp H) (e : f env hp = some (d, hp1))
    (k : ∀ ρ' B' H', Gr K ρ B H ρ' B' H' → SOk K Z env σ ρ' B' hp1 H' → Q d H') : tDT K f σ H Q :=
  ⟨Z, env, ρ, B, hp, d, hp1, S, e, fun ρ' B' H' g W => k ρ' B' H' g (S.grow g W)⟩
variable {ca cb : DTx} {rest : List Expr}
theorem dw_and1 (h : DT X a ca) : DW X (.BoolOp .And [a] pos) ca := pw_and1 h
theorem dw_or1 (h : DT X a ca) : DW X (.BoolOp .Or [a] pos) ca := pw_or1 h
theorem dw_and (ha : DT X a ca) (hb : DW X (.BoolOp .And (b :: rest) pos) cb) : DW X (.BoolOp .And (a :: b :: rest) pos) (eAnd ca cb) :=
  (pw_and ha hb).imp fun σ H Q ⟨Z, env, ρ, B, hp, d, hp', S, e, k⟩ => by
    obtain ⟨x, hp1, e1, e2⟩ := bind_some e
    refine tDT.run S e1 fun ρ1 B1 H1 g1 S1 => ?_
    cases x with
    | true => exact iteT (tDT.run S1 e2 fun ρ2 B2 H2 g2 S2 => k ρ2 B2 H2 (g1.trans g2) S2.wo)
    | false =>
      obtain ⟨rfl, rfl⟩ := pure_some e2
      exact iteF (k ρ1 B1 H1 g1 S1.wo)
theorem dw_or (ha : DT X a ca) (hb : DW X (.BoolOp .Or (b :: rest) pos) cb) : DW X (.BoolOp .Or (a :: b :: rest) pos) (eOr ca cb) :=
  (pw_or ha hb).imp fun σ H Q ⟨Z, env, ρ, B, hp, d, hp', S, e, k⟩ => by
    obtain ⟨x, hp1, e1, e2⟩ := bind_some e
    refine tDT.run S e1 fun ρ1 B1 H1 g1 S1 => ?_
    cases x with
    | false => exact iteF (tDT.run S1 e2 fun ρ2 B2 H2 g2 S2 => k ρ2 B2 H2 (g1.trans g2) S2.wo)
    | true =>
      obtain ⟨rfl, rfl⟩ := pure_some e2
      exact iteT (k ρ1 B1 H1 g1 S1.wo)
theorem DW.pt {e : Expr} {f : DTx} (h : DW X e f) : DT X e f := h _
theorem dt_not (h : DT X a ca) : DT X (.UnaryOp .Not a pos) (eNot ca) :=
  (pt_not h).imp fun σ H Q ⟨Z, env, ρ, B, hp, d, hp', S, e, k⟩ => by
    obtain ⟨x, hp1, e1, e2⟩ := bind_some e
    obtain ⟨rfl, rfl⟩ := pure_some e2
    exact tDT.run S e1 fun ρ1 B1 H1 g1 S1 => k ρ1 B1 H1 g1 S1.wo
theorem de_one {op : BoolOp} (h : DE X a fa) : DE X (.BoolOp op [a] pos) fa := pe_one h
theorem de_and (ha : DE X a fa) (hb : DE X (.BoolOp .And (b :: rest) pos) fb) : DE X (.BoolOp .And (a :: b :: rest) pos) (eAndV fa fb) :=
  (pe_and ha hb).imp fun σ H Q ⟨Z, env, ρ, B, hp, d, hp', S, e, k⟩ => by
    obtain ⟨x, hp1, e1, e2⟩ := bind_some e
    obtain ⟨c, hp2, e3, e4⟩ := bind_some e2
    obtain ⟨rfl, rfl⟩ := asB_some e3
    refine tD.run S e1 fun v ρ1 B1 H1 g1 S1 r1 => ⟨c, r1.blI, ?_⟩
    cases c with
    | true => exact iteT (tD.run S1 e4 fun v ρ2 B2 H2 g2 S2 r2 => k v ρ2 B2 H2 (g1.trans g2) S2.wo r2)
    | false =>
      obtain ⟨rfl, rfl⟩ := pure_some e4
      exact iteF (k _ ρ1 B1 H1 g1 S1.wo rep_bl)
theorem de_if (hc : DT X c ca) (ha : DE X a fa) (hb : DE X b fb) : DE X (.IfExp c a b pos) (eIf ca fa fb) :=
  (pe_ifExp hc ha hb).imp fun σ H Q ⟨Z, env, ρ, B, hp, d, hp', S, e, k⟩ => by
    obtain ⟨x, hp1, e1, e2⟩ := bind_some e
    refine tDT.run S e1 fun ρ1 B1 H1 g1 S1 => ?_
    cases x with
    | true => exact iteT (tD.run S1 e2 fun v ρ2 B2 H2 g2 S2 r2 => k v ρ2 B2 H2 (g1.trans g2) S2.wo r2)
    | false => exact iteF (tD.run S1 e2 fun v ρ2 B2 H2 g2 S2 r2 => k v ρ2 B2 H2 (g1.trans g2) S2.wo r2)
def aNil : DAx := fun _ => pure []
def aCons (f : DEx) (g : DAx) : DAx := fun env => do let x ← f env; let xs ← g env; pure (x :: xs)
theorem tDA.run {K : PySem.W.Frag} {f : DAx} {Z : Ent} {env : En} {σ : St} {ρ : List Addr} {B : Addr → Prop} {hp hp1 : Hs} {H : Hp} {ds : List DV} {Q : List V → Hp → Prop} (S : SOk K Z env σ ρ B hp H) (e : f env hp = some (ds, hp1))
    (k : ∀ vs ρ' B' H', Gr K ρ B H ρ' B' H' → SOk K Z env σ ρ' B' hp1 H' → RepL K ρ' B' H' ds vs → Q vs H') : tDA K f σ H Q :=
  ⟨Z, env, ρ, B, hp, ds, hp1, S, e, fun vs ρ' B' H' g W r => k vs ρ' B' H' g (S.grow g W) r⟩
theorem da_nil : DA X [] aNil := pa_nil.imp fun σ H Q ⟨Z, env, ρ, B, hp, ds, hp', S, e, k⟩ => by
  obtain ⟨rfl, rfl⟩ := pure_some e
  exact k [] ρ B H Gr.refl S.wo RepL.nil
theorem da_cons {e : Expr} {es : List Expr} {f : DEx} {g : DAx} (ha : DE X e f) (hr : DA X es g) (hs : starEach (e :: es) X.env = (false, eval e X.env) :: starEach es X.env := by rfl) : DA X (e :: es) (aCons f g) :=
  (pa_cons ha hr hs).imp fun σ H Q ⟨Z, env, ρ, B, hp, ds, hp', S, e, k⟩ => by
    obtain ⟨x, hp1, e1, e2⟩ := bind_some e
    obtain ⟨xs, hp2, e3, e4⟩ := bind_some e2
    obtain ⟨rfl, rfl⟩ := pure_some e4
    exact tD.run S e1 fun v ρ1 B1 H1 g1 S1 r1 => tDA.run S1 e3 fun vs ρ2 B2 H2 g2 S2 r2 => k _ ρ2 B2 H2 (g1.trans g2) S2.wo (RepL.cons (RepV.grow S1.wo.rb g2 _ _ r1) r2)
def lim : Nat := 100000
theorem lim_le : lim ≤ sizeLine := by decide
def guardM (c : Bool) : M Unit := if c then pure () else failure
theorem guardM_some {c : Bool} {hp hp' : Hs} {u : Unit} (h : guardM c hp = some (u, hp')) : c = true ∧ hp = hp' := by
  cases c with
  | true => obtain ⟨_, rfl⟩ := pure_some (show (pure () : M Unit) hp = some (u, hp') from h); exact ⟨rfl, rfl⟩
  | false => cases h
def short (ds : List DV) : Bool := decide (ds.length ≤ lim)
theorem short_ok {ds : List DV} (h : short ds = true) : ds.length ≤ sizeLine := Nat.le_trans (of_decide_eq_true h) lim_le
def eTup (f : DAx) : DEx := fun env => do let xs ← f env; guardM (short xs); pure (.tup xs)
def eLst (f : DAx) : DEx := fun env => do let xs ← f env; guardM (short xs); pure (.lst xs)
theorem fol_tup {K : PySem.W.Frag} {ρ : List Addr} {B : Addr → Prop} {H : Hp} {hp : Hs} {ds : List DV} {xs : List V} {Q : VK} (W : WOk K ρ B hp H) (r : RepL K ρ B H ds xs) (k : Fol K ρ B H (.tup ds) hp Q) : ∀ p, H p = none → Q (.ref p) (upd H p (.tup xs)) := fun p hp' =>
  k _ ρ B _ (Gr.laid hp') (W.laid hp') (rep_tup (fun z => W.bt p z hp') (SqT.of upd_same) (RepL.grow W.rb (Gr.laid hp') _ _ r))
theorem fol_lst {K : PySem.W.Frag} {ρ : List Addr} {B : Addr → Prop} {H : Hp} {hp : Hs} {ds : List DV} {xs : List V} {Q : VK} (W : WOk K ρ B hp H) (r : RepL K ρ B H ds xs) (k : Fol K ρ B H (.lst ds) hp Q) : ∀ p, H p = none → Q (.ref p) (upd H p (.lst xs)) := fun p hp' =>
  k _ ρ B _ (Gr.laid hp') (W.laid hp') (rep_lst (fun z => W.bt p z hp') (SqL.of upd_same) (RepL.grow W.rb (Gr.laid hp') _ _ r))
theorem Fol.after {K : PySem.W.Frag} {ρ ρ1 : List Addr} {B B1 : Addr → Prop} {H H1 : Hp} {hp' : Hs} {d : DV} {Q : VK} (g : Gr K ρ B H ρ1 B1 H1) (k : Fol K ρ B H d hp' Q) : Fol K ρ1 B1 H1 d hp' Q := fun v ρ' B' H' g' W r => k v ρ' B' H' (g.trans g') W r
theorem de_tup {es : List Expr} {f : DAx} {x1} (h : DA X es f) : DE X (.Tuple es x1 pos) (eTup f) :=
  (pe_tup h).imp fun σ H Q ⟨Z, env, ρ, B, hp, d, hp', S, e, k⟩ => by
    obtain ⟨xs, hp1, e1, e2⟩ := bind_some e
    obtain ⟨_, hp2, e3, e4⟩ := bind_some e2
    obtain ⟨hs, rfl⟩ := guardM_some e3
    obtain ⟨rfl, rfl⟩ := pure_some e4
    exact tDA.run S e1 fun vs ρ1 B1 H1 g1 S1 r1 => ⟨by rw [← r1.length]; exact short_ok hs, fol_tup S1.wo r1 (k.after g1)⟩
theorem de_lst {es : List Expr} {f : DAx} (h : DA X es f) : DE X (.List es pos) (eLst f) :=
  (pe_lst h).imp fun σ H Q ⟨Z, env, ρ, B, hp, d, hp', S, e, k⟩ => by
    obtain ⟨xs, hp1, e1, e2⟩ := bind_some e
    obtain ⟨_, hp2, e3, e4⟩ := bind_some e2
    obtain ⟨hs, rfl⟩ := guardM_some e3
    obtain ⟨rfl, rfl⟩ := pure_some e4
    exact tDA.run S e1 fun vs ρ1 B1 H1 g1 S1 r1 => ⟨by rw [← r1.length]; exact short_ok hs, fol_lst S1.wo r1 (k.after g1)⟩
end
end D
namespace L2
open PySem PySem.Spec PyProof.Rows
def cxComp (X : Cx) (scope : Scope) (cl : List (Str × Addr)) (C : Addr) (N : List Str) (s₀ : Shared) (H₀ : Hp) (ex : List Addr) : Cx where
  prog := X.prog
  w := X.w
  K := X.K
  mg := X.mg
  base := X.base
  A := X.A
  N := N
  s₀ := s₀
  H₀ := H₀
  env := compEnvC scope cl C X.env
  outer := X.stack
  stack := X.stack
  ex := ex
  fn := fun _ => false
  calm := X.calm
  pn := []
  xe := fun _ _ => False
def AllP {α : Type} (P : α → Prop) : List α → Prop
  | [] => True
  | x :: r => P x ∧ AllP P r
theorem AllP.mem {α : Type} {P : α → Prop} : ∀ {l : List α} {x : α}, AllP P l → x ∈ l → P x
  | [], _, _, h => nomatch h
  | y :: r, x, ⟨h1, h2⟩, h => (List.mem_cons.mp h).elim (fun e => e ▸ h1) fun e => AllP.mem h2 e
def Caps (X : Cx) (scope : Scope) (cl : List (Str × Addr)) : List Str → List Nat → Prop
  | [], [] => True
  | y :: ys, i :: is => X.N[i]? = some y ∧ (X.env.kindOf y = some .cell ∨ X.env.kindOf y = some .free) ∧ (∃ c, cl.lookup y = some c) ∧
      (relabel scope X.env).names.lookup y ≠ some .local ∧ Caps X scope cl ys is
  | _, _ => False
theorem Caps.get {X : Cx} {scope : Scope} {cl : List (Str × Addr)} : ∀ {ys : List Str} {is : List Nat} {j : Nat} {y : Str}, Caps X scope cl ys is → ys[j]? = some y →
    ∃ i, is[j]? = some i ∧ X.N[i]? = some y ∧ (X.env.kindOf y = some .cell ∨ X.env.kindOf y = some .free) ∧ (∃ c, cl.lookup y = some c) ∧ (relabel scope X.env).names.lookup y ≠ some .local
  | [], _, _, _, _, h => by simp at h
  | y :: ys, [], _, _, h, _ => by simp [Caps] at h
  | y :: ys, i :: is, 0, z, ⟨h1, h2, h3, h4, _⟩, h => by simp at h; subst h; exact ⟨i, rfl, h1, h2, h3, h4⟩
  | y :: ys, i :: is, j + 1, z, ⟨_, _, _, _, h5⟩, h => by
    obtain ⟨k, a, b⟩ := Caps.get h5 (by simpa using h)
    exact ⟨k, by simpa using a, b⟩
theorem Caps.length {X : Cx} {scope : Scope} {cl : List (Str × Addr)} : ∀ {ys : List Str} {is : List Nat}, Caps X scope cl ys is → ys.length = is.length
  | [], [], _ => rfl
  | [], _ :: _, h => by simp [Caps] at h
  | _ :: _, [], h => by simp [Caps] at h
  | _ :: ys, _ :: is, ⟨_, _, _, _, h⟩ => by simp [Caps.length h]
structure CompS (X : Cx) (x : Str) (scope : Scope) (cl : List (Str × Addr)) (caps : List Str) (idx : List Nat) : Prop where
  clos : closureFor scope X.env = pure cl
  cell : ∀ y ∈ scope.names, y.2 ≠ .cell
  kind : scope.kind = .function
  names : ∀ y ∈ scope.names, y.2 = .local → scope.names.lookup y.1 = some .local
  hx : scope.names.lookup x = some .local
  cls : AllP (fun p : Str × Addr => X.env.cells.lookup p.1 = some p.2) cl
  has : ((relabel scope X.env).names.all fun p => !(p.2 == .cell || p.2 == .free) || (cl.lookup p.1).isSome) = true
  cps : Caps X scope cl caps idx
  nd : (x :: caps).Nodup
def cσ (idx : List Nat) (σ : St) (o : Option V) : St := o :: idx.map fun i => (σ[i]?).join
def PTs (X : Cx) (ifs : List Expr) (t : TT) : Prop :=
  ∀ (pins : List (Addr × Obj)) (s : Shared) (σ : St) (H : Hp) (Q : Bool → Hp → Prop), Inv X pins σ H s → t σ H Q →
    wpAny (model X.prog X.w) X.A (forIn ifs true fun c r => if r = true then do let ok ← isTrue c X.env (eval c X.env); pure (ForInStep.yield ok) else pure (ForInStep.yield r)) (TP X pins σ Q) X.xe s
theorem pts_nil {X : Cx} : PTs X [] (fun _ H Q => Q true H) := fun pins s σ H Q I h => wpAny_tests_nil ⟨H, I, h⟩
theorem pts_one {X : Cx} {c : Expr} {t : TT} (h : PT X c t) : PTs X [c] t := fun pins s σ H Q I q => wpAny_tests_one (h pins s σ H Q I q)
section
variable {prog : Program} {w : World} {A : Around} {R : Result → Shared → Prop} {s : Shared}
theorem compLoop_any {elt target iter : Expr} {ifs : List Expr} {scope : Scope} {pos : Pos} {it acc : Value} {env : Env} (I : Nat → Shared → Prop)
    (turn : ∀ n s, I n s → wpAny (model prog w) A (pyNext it) (fun r s₁ => match r with
      | none => R (.ok .next) s₁
      | some v => wpAny (model prog w) A (letOwnedTupleGo target it v) (fun _ s₁' => wpAny (model prog w) A (assign target env v) (fun _ s₂ =>
          wpAny (model prog w) A (forIn ifs true fun c r => if r = true then do let ok ← isTrue c env (eval c env); pure (ForInStep.yield ok) else pure (ForInStep.yield r)) (fun ok s₃ =>
            if ok = true then wpAny (model prog w) A (eval elt env) (fun x s₄ =>
              wpAny (model prog w) A (call (.builtin "list.append") [acc, x]) (fun _ s₅ => ∃ m, m < n ∧ I m s₅) (fun _ _ => False) s₄) (fun _ _ => False) s₃
            else ∃ m, m < n ∧ I m s₃) (fun _ _ => False) s₂) (fun _ _ => False) s₁') (fun _ _ => False) s₁) (fun _ _ => False) s)
    (n : Nat) (h : I n s) :
    codeAny (model prog w) A (.compLoop (.ListComp elt [⟨target, iter, ifs, 0⟩] scope pos) 0 it acc env) R s := by
  refine codeAny_loop rfl I (fun n s hI => ?_) n h
  show wpAny _ A ((compTurn (.ListComp elt [⟨target, iter, ifs, 0⟩] scope pos) 0 it acc env).onRaise (fun x => do noteFrame x env; theTreesLotGoes x)) _ _ s
  refine wpAny_noted ?_
  rw [compTurn_list]
  refine wpAny_bind (wpAny_standAt (wpAny_bind (wpAny_mono (turn n s hI) (fun r s₁ h₁ => ?_) fun _ _ h' => h'.elim)))
  cases r with
  | none => exact wpAny_pure h₁
  | some v =>
    refine wpAny_bind (wpAny_mono h₁ (fun _ s₁' h₁' => ?_) fun _ _ h' => h'.elim)
    refine wpAny_bind (wpAny_mono h₁' (fun _ s₂ h₂ => wpAny_bind (wpAny_mono h₂ (fun ok s₃ h₃ => ?_) fun _ _ h' => h'.elim)) fun _ _ h' => h'.elim)
    cases ok with
    | false => exact wpAny_pure ⟨rfl, h₃⟩
    | true =>
      exact wpAny_bind (wpAny_bind (wpAny_mono h₃ (fun x s₄ h₄ => wpAny_bind (wpAny_mono h₄ (fun _ s₅ h₅ => wpAny_pure (wpAny_pure ⟨rfl, h₅⟩)) fun _ _ h' => h'.elim)) fun _ _ h' => h'.elim))
end
def tComp (K : PySem.W.Frag) (wi : TI) (tt : TT) (te : TE) (idx : List Nat) : TE := fun σ H Q => wi σ H fun J H1 => ∀ D, H1 D = none → K.lookup D = none → ∃ W : Nat → Nat → List V → Hp → Prop, (∃ m, W 0 m [] (upd H1 D (.lst []))) ∧
  ∀ i m ys H, W i m ys H → H D = some (.lst ys) ∧ ((J.stop i H ∧ Q (.ref D) H) ∨ (J.go i H ∧ ∀ x H', J.yld i H x H' → tt (cσ idx σ (some x)) H' fun b H2 =>
    if b = true then te (cσ idx σ (some x)) H2 fun y H3 => H3 D = some (.lst ys) ∧ ys.length < sizeLine ∧ ∃ m', m' < m ∧ W (i + 1) m' (ys ++ [y]) (upd H3 D (.lst (ys ++ [y])))
    else ∃ m', m' < m ∧ W (i + 1) m' ys H2))
section
variable {X : Cx} {elt iter : Expr} {x : Str} {px : Pos} {ifs : List Expr} {scope : Scope} {cl : List (Str × Addr)} {pos : Pos} {caps : List Str} {idx : List Nat} {wi : TI} {tt : TT} {te : TE}
theorem comp_run {E : Value → Shared → Prop} {use : Option (Value → Sem Unit)} {QQ : Value → Shared → Prop} {newpos : Pos} (S : CompS X x scope cl caps idx) (hc : X.calm = true) (hi : PI X (.Name x px) iter wi)
    (ht : ∀ C s₀ H₀ ex, PTs (cxComp X scope cl C (x :: caps) s₀ H₀ ex) ifs tt) (he : ∀ C s₀ H₀ ex, PE (cxComp X scope cl C (x :: caps) s₀ H₀ ex) elt te)
    {pins : List (Addr × Obj)} {s : Shared} {σ : St} {H : Hp} {Q : VK} (I : Inv X pins σ H s) (h : tComp X.K wi tt te idx σ H Q)
    (hE : X.xe = E)
    (hend : ∀ (D C : Addr) (H' : Hp) (s' : Shared) (m : Str → Option Value), Inv X pins σ H' s' → Q (.ref D) H' → s'.heap.Ns C m → H' C = none → C ≠ X.env.locals → X.s₀.heap.objs.size ≤ C → (∀ x c, X.env.cells.lookup x = some c → c ≠ C) → (∀ p ∈ X.pn ++ pins, p.1 ≠ C) →
      compPost (model X.prog X.w) X.A E use QQ (.ref D) C (.ok .next) s')
    (hs : ∀ x, foldedSetIterable iter X.env x = pure x := by intro _; rfl) :
    wpAny (model X.prog X.w) X.A (comprehension (.ListComp elt [⟨.Name x px, iter, ifs, 0⟩] scope pos) scope X.env newpos (newList []) false (eval iter X.env) use) QQ E s := by
  subst hE
  refine wpAny_comprehension_free (use := use) rfl hs S.clos S.kind S.names (thn (hi pins s σ H _ I h) fun xv s1 h1 => thn h1 fun itv s2 h2 => ?_)
  obtain ⟨it, fp, tn, J, H2, rfl, I2, T, st2, f2, hQ⟩ := h2
  refine wpAny_newObj_type (wpAny_newFunctionEnv S.cell (by intro y hy; simp at hy) (fun h₁ hns₁ hsb₁ => ?_) S.kind)
  dsimp only at hns₁ hsb₁ ⊢
  generalize hH2 : s2.heap.push { cls := .type "list", dict := none, data := .seq ([] : List Value).toArray } = hp3 at hns₁ hsb₁ ⊢
  have hC : hp3.objs.size = s2.heap.objs.size + 1 := by rw [← hH2, Heap.size_push]
  have keep3 : ∀ b o, s2.heap.get? b = some o → hp3.get? b = some o := fun b o e => hH2 ▸ Heap.get?_push_of_some _ e
  have hDf : H2 s2.heap.objs.size = none := I2.hok.fresh (Nat.le_refl _)
  have I3 : Inv X pins σ (upd H2 s2.heap.objs.size (.lst [])) { s2 with heap := hp3 } :=
    I2.laid (t' := s2.toks) keep3 (Nat.le_refl _) ⟨Nat.zero_le _, [], _, .nil, hH2 ▸ Heap.get?_push_size _ rfl⟩
  have hDk : X.K.lookup s2.heap.objs.size = none := by
    cases q : X.K.lookup s2.heap.objs.size with
    | none => rfl
    | some o => exact absurd (Heap.lt_size (I2.kIn _ o q)) (Nat.lt_irrefl _)
  obtain ⟨W, ⟨m0, w0⟩, turn⟩ := hQ _ hDf hDk
  generalize hDd : s2.heap.objs.size = D at *
  generalize hCc : hp3.objs.size = C at *
  have ltC : ∀ b o, hp3.get? b = some o → b ≠ C := fun b o e => by rw [← hCc]; exact Nat.ne_of_lt (Heap.lt_size e)
  have keep4 : ∀ b o, hp3.get? b = some o → h₁.get? b = some o := fun b o e => hsb₁.extBut b o (ltC b o e) (Heap.get?_push_of_some _ e)
  have s3sz : ({ s2 with heap := hp3 } : Shared).heap.objs.size = C := hCc
  have clE : ∀ y c, cl.lookup y = some c → X.env.cells.lookup y = some c := fun y c e => S.cls.mem (PySem.mem_of_lookup e)
  have fpLt : ∀ b ∈ fp, ∃ o, s2.heap.get? b = some o := fun b hb => let ⟨o, e, _⟩ := T.obj _ _ st2 b hb; ⟨o, e⟩
  have fpC : ∀ b ∈ fp, b ≠ C := fun b hb => let ⟨o, e⟩ := fpLt b hb; ltC b o (keep3 b o e)
  have fpD : ∀ b ∈ fp, b ≠ D := fun b hb => let ⟨o, e⟩ := fpLt b hb; by rw [← hDd]; exact Nat.ne_of_lt (Heap.lt_size e)
  have fr3 : ∀ b ∈ fp, (upd H2 D (.lst [])) b = none := fun b hb => by rw [upd_ne (fpD b hb)]; exact (f2 b hb).1
  have cellLt : ∀ y c, X.env.cells.lookup y = some c → c ≠ C := fun y c e => let ⟨v, o, ho, _⟩ := I3.cell y c e; ltC c o ho
  have fpStk : ∀ b ∈ fp, b ∉ frs X.stack := fun b hb z => (List.mem_cons.mp (I2.stkSub b z)).elim (f2 b hb).2.1 (f2 b hb).2.2.1
  let X' := cxComp X scope cl C (x :: caps) { s2 with heap := hp3 } (upd H2 D (.lst [])) fp
  have ok' : X'.Ok := by
    refine ⟨I3.ok.mod, by show (relabel scope X.env).kind = _; exact S.kind, I3.ok.glob, I3.ok.blt, by show hp3.objs.size ≤ C; rw [hCc]; exact Nat.le_refl _, fun y z c h1 h2 => I3.ok.inj y z c (clE y c h1) (clE z c h2), fun y hy => ?_,
      fun y c z => (by cases z), I3.ok.hd, I3.ok.frames, .inl rfl, fun b hb => ⟨fpC b hb, fun y c e => (f2 b hb).2.2.2.2.1 y c (clE y c e)⟩, I3.bs, Nat.le_trans I3.ok.bsz I3.sz,
      fun b o e hb => ?_, fun b hb => fpStk b hb, I3.stack, I3.stkFree⟩
    · have hy' : (relabel scope X.env).names.lookup y = some .cell ∨ (relabel scope X.env).names.lookup y = some .free := hy
      have q := S.has
      rw [List.all_eq_true] at q
      have : (cl.lookup y).isSome = true := by
        rcases hy' with z | z
        · have q := q _ (PySem.mem_of_lookup z); simpa using q
        · have q := q _ (PySem.mem_of_lookup z); simpa using q
      exact Option.isSome_iff_exists.mp this
    · have := (f2 b hb).2.2.2.1
      have e3 := (I2.ok.bs b o e).1
      rcases this with z | z
      · exact I2.ok.noex b o e z
      · exact absurd (Nat.lt_of_lt_of_le (Heap.lt_size e3) z) (Nat.lt_irrefl _)
  have capsLen := S.cps.length
  have I4 : Inv X' [] (cσ idx σ none) (upd H2 D (.lst [])) { s2 with heap := h₁, toks := s2.toks + ([] : List (Str × Value)).length } := by
    refine ⟨ok', rfl, I3.bare, Un.kept keep4, ⟨_, hns₁, fun i y v e1 e2 e3 => ?_⟩, fun y c e => ?_, ?_, fun y c e => I3.freeC y c (clE y c e), fun p hp => absurd (show p ∈ ([] : List (Addr × Obj)) from hp) (by simp), I3.hok.kept keep4, ?_⟩
    · cases i with
      | zero => exact absurd e2 (by simp [cσ])
      | succ j =>
        obtain ⟨k, h1, h2, h3, ⟨c, h4⟩, h5⟩ := S.cps.get (show caps[j]? = some y by have e1' : (x :: caps)[j + 1]? = some y := e1; simpa using e1')
        have e2' : (σ[k]?).join = some v := by simpa [cσ, h1] using e2
        have e2'' : σ[k]? = some (some v) := by
          cases q : σ[k]? with
          | none => rw [q] at e2'; cases e2'
          | some z => rw [q] at e2'; exact congrArg some e2'
        obtain ⟨mL, hnL, hl⟩ := I3.loc
        have vis : Vis X.env.scope y := by rcases h3 with z | z; exact .inr (.inl z); exact .inr (.inr z)
        obtain ⟨u, r, l⟩ := hl k y v h2 e2'' vis
        refine ⟨u, r, .inr ⟨?_, c, h4, ?_⟩⟩
        · have e3' : (relabel scope X.env).names.lookup y = some .local ∨ (relabel scope X.env).names.lookup y = some .cell ∨ (relabel scope X.env).names.lookup y = some .free := e3
          rcases e3' with z | z | z
          · exact absurd z h5
          · exact .inl z
          · exact .inr z
        · rcases l with ⟨z, _⟩ | ⟨_, c', e, z⟩
          · rcases h3 with q | q <;> · rw [q] at z; cases z
          · rw [clE y c h4] at e; cases e
            obtain ⟨o, ho, hd⟩ := z
            exact ⟨o, keep4 _ _ ho, hd⟩
    · obtain ⟨v, o, ho, hd⟩ := I3.cell y c (clE y c e)
      exact ⟨v, o, keep4 _ _ ho, hd⟩
    · exact I3.hok.fresh (by show hp3.objs.size ≤ C; rw [hCc]; exact Nat.le_refl _)
    · simp [cσ, X', cxComp, capsLen]
  have st4 : tn 0 h₁ := T.keep _ _ _ st2 fun b _ o e => keep4 b o (keep3 b o e)
  have fpX : ∀ {H' : Hp} {pins' : List (Addr × Obj)}, (∀ b ∈ fp, H' b = none) → (pins' = []) → ∀ b ∈ fp, FpOk X' pins' H' b := fun hn e b hb => by
    subst e
    exact ⟨hn b hb, fpC b hb, fpStk b hb, .inl hb, fun y c e => (f2 b hb).2.2.2.2.1 y c (clE y c e), fun p hp => absurd (show p ∈ ([] : List (Addr × Obj)) from hp) (by simp)⟩
  have loop : ∀ s₃ : Shared, s₃ = { s2 with heap := h₁, toks := s2.toks + ([] : List (Str × Value)).length } →
      codeAny (model X.prog X.w) X.A (.compLoop (.ListComp elt [⟨.Name x px, iter, ifs, 0⟩] scope pos) 0 (.ref it) (.ref D) (compEnvC scope cl C X.env)) (compPost (model X.prog X.w) X.A X.xe use QQ (.ref D) C) s₃ := by
    rintro s₃ rfl
    refine compLoop_any (fun n s' => ∃ i o H' ys, Inv X' [] (cσ idx σ o) H' s' ∧ tn i s'.heap ∧ (∀ b ∈ fp, H' b = none) ∧ W i n ys H') ?_ m0 ⟨0, none, _, [], I4, st4, fr3, w0⟩
    rintro n s5 ⟨i, o, H5, ys, I5, st5, fr5, w5⟩
    obtain ⟨hD, tw⟩ := turn i n ys H5 w5
    rcases tw with ⟨stop, q⟩ | ⟨go, step⟩
    · refine thn (T.done X' rfl rfl rfl hc i [] s5 _ H5 _ I5 (fpX fr5 rfl) st5 stop) fun r s6 ⟨hr, I6⟩ => ?_
      subst hr
      obtain ⟨m6, hn6, _⟩ := I6.loc
      have I7 : Inv X pins σ H5 s6 := I3.call' (s' := s6) (ch := fp) I6.os I6.base I6.hok I6.bare fun b hb => ⟨(f2 b hb).2.2.2.1, (f2 b hb).2.1, (f2 b hb).2.2.2.2.1, (f2 b hb).2.2.2.2.2⟩
      refine hend D C H5 s6 m6 I7 q hn6 I6.free ?_ ?_ cellLt fun p hp => ?_
      · rw [← hCc]; exact Nat.ne_of_gt I3.lt
      · rw [← hCc]; exact I3.sz
      · exact ltC p.1 p.2 (I3.pin p hp).1
    · refine thn (T.item X' rfl rfl rfl hc i [] s5 _ H5 _ I5 (fpX fr5 rfl) st5 go) fun r s6 ⟨u, hr, h6⟩ => ?_
      subst hr
      refine thn h6 fun _ s7 ⟨y, H7, I7, r7, y7, st7, fr7⟩ => ?_
      have I7' := I7.pinned (fpX fr7 rfl) (T.obj _ _ st7)
      refine thn (pg_name (X := X') (i := 0) S.nd rfl (.inl (lookup_relabel_local S.hx)) (.inr (lookup_relabel_local S.hx)) _ s7 _ H7 y u (fun σ' H' => σ' = cσ idx σ (some y) ∧ H' = H7) I7' r7 ⟨rfl, rfl⟩) fun _ s8 ⟨σ8, H8, I8, e8, e8'⟩ => ?_
      subst e8
      subst e8'
      have again : ∀ {H9 : Hp} {s9 : Shared} {ys' : List V}, Inv X' ([] ++ pinsAt fp s7.heap) (cσ idx σ (some y)) H9 s9 → (∃ m', m' < n ∧ W (i + 1) m' ys' H9) →
          ∃ m, m < n ∧ ∃ i o H' ys, Inv X' [] (cσ idx σ o) H' s9 ∧ tn i s9.heap ∧ (∀ b ∈ fp, H' b = none) ∧ W i m ys H' := fun {H9 s9 ys'} I9 ⟨m', hm, w9⟩ => by
        refine ⟨m', hm, i + 1, some y, H9, ys', I9.unpinned, T.keep _ _ _ st7 fun b hb o e => (I9.pin (b, o) (List.mem_append_right _ (List.mem_append_right _ (mem_pinsAt hb e)))).1, fun b hb => ?_, w9⟩
        obtain ⟨o, e, d⟩ := T.obj _ _ st7 b hb
        exact (I9.pin (b, o) (List.mem_append_right _ (List.mem_append_right _ (mem_pinsAt hb e)))).2.1
      refine thn (ht _ _ _ _ _ s8 _ H8 _ I8 (step y H8 y7)) fun ok s9 ⟨H9, I9, q9⟩ => ?_
      cases ok with
      | false => exact again I9 (by rw [if_neg Bool.false_ne_true] at q9; exact q9)
      | true =>
        rw [if_pos rfl] at q9 ⊢
        refine thn (he _ _ _ _ _ s9 _ H9 _ I9 q9) fun v s10 ⟨z, H10, I10, r10, hD10, hlen, m', hm, w10⟩ => ?_
        refine thn (mt_append (X := X') _ s10 _ H10 (.ref D) [z] (.ref D) [v] (fun _ H' => H' = upd H10 D (.lst (ys ++ [z]))) I10 rfl (.cons r10 .nil) ⟨D, ys, z, rfl, rfl, hD10, hlen, rfl⟩) fun _ s11 ⟨_, H11, I11, _, e11⟩ => ?_
        subst e11
        exact again I11 ⟨m', hm, w10⟩
  exact codeAny_compStart_list (loop _ rfl) (T.self X.A 0 _ _ _ st4 (loop _ rfl))
end
end L2
namespace L2
open PySem PySem.Spec PyProof.Rows
section
variable {X : Cx} {elt iter : Expr} {x : Str} {px : Pos} {ifs : List Expr} {scope : Scope} {cl : List (Str × Addr)} {pos : Pos} {caps : List Str} {idx : List Nat} {wi : TI} {tt : TT} {te : TE}
theorem pe_comp (S : CompS X x scope cl caps idx) (hc : X.calm = true) (hi : PI X (.Name x px) iter wi)
    (ht : ∀ C s₀ H₀ ex, PTs (cxComp X scope cl C (x :: caps) s₀ H₀ ex) ifs tt) (he : ∀ C s₀ H₀ ex, PE (cxComp X scope cl C (x :: caps) s₀ H₀ ex) elt te)
    (hs : ∀ x, foldedSetIterable iter X.env x = pure x := by intro _; rfl) : PE X (.ListComp elt [⟨.Name x px, iter, ifs, 0⟩] scope pos) (tComp X.K wi tt te idx) := by
  intro pins s σ H Q I h
  rw [eval_ListComp]
  refine comp_run (use := none) S hc hi ht he I h rfl (fun D C H' s' m I' q hn hC h1 h2 h3 h4 => ?_) hs
  show ∃ m, s'.heap.Ns C m ∧ ∀ h', Heap.SameBut C s'.heap h' → EP X pins σ Q (.ref D) { s' with heap := h' }
  exact ⟨m, hn, fun h' hs => ⟨.ref D, H', I'.turned (t' := s'.toks) (fun b o hb e => hs.extBut b o hb e) hC (Ne.symm (Ne.symm h1)) (.inr h2) h3 h4, rfl, q⟩⟩
theorem ps_comp {i : Nat} {y : Str} {py spos : Pos} (S : CompS X x scope cl caps idx) (hc : X.calm = true) (hi : PI X (.Name x px) iter wi)
    (ht : ∀ C s₀ H₀ ex, PTs (cxComp X scope cl C (x :: caps) s₀ H₀ ex) ifs tt) (he : ∀ C s₀ H₀ ex, PE (cxComp X scope cl C (x :: caps) s₀ H₀ ex) elt te)
    (hN : X.N.Nodup) (hy : X.N[i]? = some y) (hx : Loc X.env.scope y) (hsw : swapsWith (.ListComp elt [⟨.Name x px, iter, ifs, 0⟩] scope pos) (some (.Name y py)) spos.line X.env = pure true)
    (hf : X.fn y = true ∨ X.env.scope.names.lookup y = some .local := by first | exact .inl rfl | exact .inr rfl | assumption)
    (hs : ∀ x, foldedSetIterable iter X.env x = pure x := by intro _; rfl) : PS X (.Assign [.Name y py] (.ListComp elt [⟨.Name x px, iter, ifs, 0⟩] scope pos) spos) (tAsg (tComp X.K wi tt te idx) (gName i)) := by
  intro pins s σ H D I h
  rw [exec_Assign_Name_used _ _ _ _ hsw]
  refine wpAny_bind (wpAny_standAt (wpAny_bind ?_))
  show wpAny _ X.A (do let _ ← comprehension (.ListComp elt [⟨.Name x px, iter, ifs, 0⟩] scope pos) scope X.env _ (newList []) false (eval iter X.env) (some (assign (.Name y py) X.env))) _ _ s
  refine wpAny_bind (wpAny_mono (comp_run (use := some (assign (.Name y py) X.env)) (QQ := fun _ s' => SP X pins D .next s') S hc hi ht he I h rfl (fun Da C H' s' m I' q hn hC h1 h2 h3 h4 => ?_) hs) (fun _ s' hq => wpAny_pure (wpAny_pure hq)) fun _ _ e => e)
  show wpAny _ X.A (assign (.Name y py) X.env (.ref Da)) (fun _ s'' => ∃ m, s''.heap.Ns C m ∧ ∀ h', Heap.SameBut C s''.heap h' → SP X pins D .next { s'' with heap := h' }) _ s'
  refine wpAny_assign_Name (store_ok2 I' hN hy hx (v := .ref Da) rfl (fun s'' I'' ⟨a, hs, ha⟩ => ?_) hf)
  refine ⟨m, hn.sameBut hs ?_, fun h' hs' => ⟨_, H', I''.turned (t' := s''.toks) (fun b o hb e => hs'.extBut b o hb e) hC h1 (.inr h2) h3 h4, q⟩⟩
  rcases ha with rfl | ha
  · exact h1
  · exact Ne.symm (h3 _ _ ha)
end
end L2
namespace D
open PySem PySem.Spec PyProof.Rows L2
section
variable {K : PySem.W.Frag} {Z : Ent} {env : En} {σ : St} {ρ ρ' : List Addr} {B B' : Addr → Prop} {hp hp' : Hs} {H H' : Hp}
theorem SOk.set {i : Nat} {d : DV} {v : V} (S : SOk K Z env σ ρ B hp H) (r : RepV K ρ B H d v) : SOk K Z (env.set i (.val d)) (σ.set i (some v)) ρ B hp H where
  gr := S.gr
  zb := S.zb
  wo := S.wo
  slot := fun j e h => by
    by_cases hj : j = i
    · subst hj
      have hl : j < env.length := by have := (List.getElem?_eq_some_iff.mp h).1; simpa using this
      rw [List.getElem?_set_self hl] at h; cases h
      exact ⟨v, List.getElem?_set_self (by rw [S.len]; exact hl), r⟩
    · rw [List.getElem?_set_ne (Ne.symm hj)] at h ⊢
      exact S.slot j e h
  accs := fun j ds h => by
    by_cases hj : j = i
    · subst hj
      have hl : j < env.length := by have := (List.getElem?_eq_some_iff.mp h).1; simpa using this
      rw [List.getElem?_set_self hl] at h; cases h
    · rw [List.getElem?_set_ne (Ne.symm hj)] at h ⊢
      exact S.accs j ds h
  adis := fun j k ds es a h1 h2 h3 h4 => by
    have nj : ∀ {j : Nat} {ds : List DV}, (env.set i (.val d))[j]? = some (.acc ds) → j ≠ i := fun {j ds} h e => by
      subst e
      have hl : j < env.length := by have := (List.getElem?_eq_some_iff.mp h).1; simpa using this
      rw [List.getElem?_set_self hl] at h; cases h
    have hj := nj h1
    have hk := nj h2
    rw [List.getElem?_set_ne (Ne.symm hj)] at h1 h3
    rw [List.getElem?_set_ne (Ne.symm hk)] at h2 h4
    exact S.adis j k ds es a h1 h2 h3 h4
  len := by simp [S.len]
end
section
variable {X : Cx} {e a b c : Expr} {f fa fb : DEx} {ca cb : DTx} {pos : Pos} {st : Stmt} {sts rest : List Stmt} {s s' : DSx}
theorem FolS.after {K : PySem.W.Frag} {Z : Ent} {ρ ρ1 : List Addr} {B B1 : Addr → Prop} {H H1 : Hp} {fl : Fl} {env' : En} {hp' : Hs} {D : Ends} (g : Gs K ρ B H ρ1 B1 H1) (k : FolS K Z ρ B H fl env' hp' D) : FolS K Z ρ1 B1 H1 fl env' hp' D :=
  fun σ' ρ' B' H' g' S => k σ' ρ' B' H' (g.trans g') S
def sNil : DSx := fun env => pure (.nx, env)
def sSeq (f g : DSx) : DSx := fun env => do
  let r ← f env
  match r.1 with
  | .nx => g r.2
  | _ => pure r
def sIf (c : DTx) (f g : DSx) : DSx := fun env => do if ← c env then f env else g env
def sRet (f : DEx) : DSx := fun env => do let d ← f env; pure (.rt d, env)
def sRetN : DSx := fun env => pure (.rt .non, env)
def sDrop (f : DEx) : DSx := fun env => do let _ ← f env; pure (.nx, env)
def sSet (i : Nat) (f : DEx) : DSx := fun env => do let d ← f env; pure (.nx, env.set i (.val d))
theorem dss_nil : DSs X [] sNil := pss_nil.imp fun D σ H ⟨Z, env, ρ, B, hp, fl, env', hp', S, e, k⟩ => by
  obtain ⟨e1, rfl⟩ := pure_some e
  cases e1
  exact k σ ρ B H Gs.refl S
theorem sSeq_imp {K : PySem.W.Frag} {D : Ends} {σ : St} {H : Hp} (h : tDS K (sSeq s s') D σ H) : tSeq (tDS K s) (tDS K s') D σ H := by
  obtain ⟨Z, env, ρ, B, hp, fl, env', hp', S, e, k⟩ := h
  obtain ⟨⟨f1, env1⟩, hp1, e1, e2⟩ := bind_some e
  refine ⟨Z, env, ρ, B, hp, f1, env1, hp1, S, e1, fun σ' ρ' B' H' g S' => ?_⟩
  cases f1 with
  | nx => exact ⟨Z, env1, ρ', B', hp1, fl, env', hp', S', e2, k.after g⟩
  | rt d => obtain ⟨z, rfl⟩ := pure_some e2; cases z; exact k σ' ρ' B' H' g S'
  | bk => obtain ⟨z, rfl⟩ := pure_some e2; cases z; exact k σ' ρ' B' H' g S'
  | ct => obtain ⟨z, rfl⟩ := pure_some e2; cases z; exact k σ' ρ' B' H' g S'
theorem dss_cons (h1 : DS X st s) (h2 : DSs X rest s') : DSs X (st :: rest) (sSeq s s') := (pss_cons h1 h2).imp fun _ _ _ h => sSeq_imp h
theorem dss_one (h1 : DS X st s) : DSs X [st] s := pss_one h1
theorem ds_if {x y : List Stmt} (hc : DT X c ca) (h1 : DSs X x s) (h2 : DSs X y s') : DS X (.If c x y pos) (sIf ca s s') :=
  (ps_if hc h1 h2).imp fun D σ H ⟨Z, env, ρ, B, hp, fl, env', hp', S, e, k⟩ => by
    obtain ⟨x, hp1, e1, e2⟩ := bind_some e
    refine tDT.run S e1 fun ρ1 B1 H1 g1 S1 => ?_
    cases x with
    | true => exact iteT ⟨Z, env, ρ1, B1, hp1, fl, env', hp', S1, e2, k.after (g1.gs S.wo.rb)⟩
    | false => exact iteF ⟨Z, env, ρ1, B1, hp1, fl, env', hp', S1, e2, k.after (g1.gs S.wo.rb)⟩
theorem ds_ret (h : DE X e f) : DS X (.Return (some e) pos) (sRet f) :=
  (ps_ret h).imp fun D σ H ⟨Z, env, ρ, B, hp, fl, env', hp', S, e, k⟩ => by
    obtain ⟨d, hp1, e1, e2⟩ := bind_some e
    obtain ⟨z, rfl⟩ := pure_some e2; cases z
    exact tD.run S e1 fun v ρ1 B1 H1 g1 S1 r1 => k σ ρ1 B1 H1 (g1.gs S.wo.rb) S1 v r1
theorem ds_expr (h : DE X e f) (hs : swapsWith e none pos.line X.env = pure false := by rfl) : DS X (.Expr e pos) (sDrop f) :=
  (ps_expr h hs).imp fun D σ H ⟨Z, env, ρ, B, hp, fl, env', hp', S, e, k⟩ => by
    obtain ⟨d, hp1, e1, e2⟩ := bind_some e
    obtain ⟨z, rfl⟩ := pure_some e2; cases z
    exact tD.run S e1 fun v ρ1 B1 H1 g1 S1 r1 => k σ ρ1 B1 H1 (g1.gs S.wo.rb) S1
theorem sSet_imp {K : PySem.W.Frag} {D : Ends} {σ : St} {H : Hp} {i : Nat} {t : TE} (ht : ∀ σ H Q, tD K f σ H Q → t σ H Q) (h : tDS K (sSet i f) D σ H) : tAsg t (gName i) D σ H := by
  obtain ⟨Z, env, ρ, B, hp, fl, env', hp', S, e, k⟩ := h
  obtain ⟨d, hp1, e1, e2⟩ := bind_some e
  obtain ⟨z, rfl⟩ := pure_some e2; cases z
  exact ht _ _ _ (tD.run S e1 fun v ρ1 B1 H1 g1 S1 r1 => k _ ρ1 B1 H1 (g1.gs S.wo.rb) (S1.set r1))
theorem ds_set (i : Nat) {x : Str} {pos' : Pos} (hN : X.N.Nodup) (he : DE X e f) (hi : X.N[i]? = some x := by rfl) (hx : Loc X.env.scope x := by first | exact Or.inl rfl | exact Or.inr rfl) (hs : swapsWith e (some (.Name x pos')) pos.line X.env = pure false := by rfl)
    (hf : X.fn x = true ∨ X.env.scope.names.lookup x = some .local := by first | exact .inl rfl | exact .inr rfl | assumption) : DS X (.Assign [.Name x pos'] e pos) (sSet i f) :=
  (ps_set hN hi hx he hs hf).imp fun _ _ _ h => sSet_imp (fun _ _ _ q => q) h
abbrev DGx := DV → En → M En
def tDG (K : PySem.W.Frag) (g : DGx) : TG := fun v σ H Q => ∃ Z env ρ B hp d env' hp', SOk K Z env σ ρ B hp H ∧ RepV K ρ B H d v ∧ g d env hp = some (env', hp') ∧ ∀ σ' ρ' B' H', Gs K ρ B H ρ' B' H' → SOk K Z env' σ' ρ' B' hp' H' → Q σ' H'
def gN (i : Nat) : DGx := fun d env => pure (env.set i (.val d))
theorem dg_name (i : Nat) {x : Str} (hN : X.N.Nodup) (hi : X.N[i]? = some x := by rfl) (hx : Loc X.env.scope x := by first | exact Or.inl rfl | exact Or.inr rfl) (hf : X.fn x = true ∨ X.env.scope.names.lookup x = some .local := by first | exact .inl rfl | exact .inr rfl | assumption) : PG X (.Name x pos) (tDG X.K (gN i)) := by
  intro pins s σ H v u Q I r h
  refine pg_name hN hi hx hf pins s σ H v u Q I r ?_
  obtain ⟨Z, env, ρ, B, hp, d, env', hp', S, rd, e, k⟩ := h
  obtain ⟨rfl, rfl⟩ := pure_some e
  exact k _ ρ B H Gs.refl (S.set rd)
def ItOk (K : PySem.W.Frag) (ρ : List Addr) (B : Addr → Prop) (H : Hp) (ds : List DV) (J : It) : Prop :=
  ∀ ρ1 B1 H1, Gs K ρ B H ρ1 B1 H1 → (∀ b ∈ ρ1, B1 b) → (∀ a, B1 a → H1 a ≠ none) → (∀ (i : Nat) (d : DV), ds[i]? = some d → J.go i H1 ∧ ∀ x H', J.yld i H1 x H' → RepV K ρ1 B1 H' d x ∧ (H' = H1 ∨ ∃ p o, H1 p = none ∧ H' = upd H1 p o)) ∧ J.stop ds.length H1
abbrev DIx := En → M (List DV)
def tDI (K : PySem.W.Frag) (f : DIx) : TI := fun σ H R => ∃ Z env ρ B hp ds hp', SOk K Z env σ ρ B hp H ∧ f env hp = some (ds, hp') ∧ ∀ J ρ' B' H', Gr K ρ B H ρ' B' H' → WOk K ρ' B' hp' H' → ItOk K ρ' B' H' ds J → R J H'
def DI (X : Cx) (tg iter : Expr) (f : DIx) : Prop := PI X tg iter (tDI X.K f)
def lstD : DV → M (List DV)
  | .lst ds => pure ds
  | _ => failure
def tupD : DV → M (List DV)
  | .tup ds => pure ds
  | _ => failure
def iLst (f : DEx) : DIx := fun env => do lstD (← f env)
def iTp (f : DEx) : DIx := fun env => do tupD (← f env)
theorem lstD_some {d : DV} {ds : List DV} {hp hp' : Hs} (h : lstD d hp = some (ds, hp')) : d = .lst ds ∧ hp = hp' := by
  cases d with
  | lst xs => obtain ⟨rfl, rfl⟩ := pure_some h; exact ⟨rfl, rfl⟩
  | _ => cases h
theorem tupD_some {d : DV} {ds : List DV} {hp hp' : Hs} (h : tupD d hp = some (ds, hp')) : d = .tup ds ∧ hp = hp' := by
  cases d with
  | tup xs => obtain ⟨rfl, rfl⟩ := pure_some h; exact ⟨rfl, rfl⟩
  | _ => cases h
theorem SqL.uniq {K : PySem.W.Frag} {H : Hp} {a : Addr} {xs ys : List V} (kf : KFree K H) (h : SqL K H a xs) (h' : SqL K H a ys) : xs = ys := by
  rcases h with (h | ⟨o, h⟩) | ⟨o, its, n, h, _, _, hd, _, hv⟩
  · rcases h' with (h' | ⟨o', h'⟩) | ⟨o', _, _, h', _⟩
    · rw [h] at h'; cases h'; rfl
    · rw [h] at h'; cases h'
    · rw [kf _ _ h] at h'; cases h'
  · rcases h' with (h' | ⟨o', h'⟩) | ⟨o', _, _, h', _⟩
    · rw [h] at h'; cases h'
    · rw [h] at h'; cases h'; rfl
    · rw [kf _ _ h] at h'; cases h'
  · rcases h' with (h' | ⟨o', h'⟩) | ⟨o', its', n', h', _, _, hd', _, hv'⟩
    · rw [kf _ _ h'] at h; cases h
    · rw [kf _ _ h'] at h; cases h
    · rw [h] at h'; cases h'
      rw [hd] at hd'; injection hd' with e1 _
      subst e1
      exact hv.inj hv'
theorem it_list {K : PySem.W.Frag} {ρ : List Addr} {B : Addr → Prop} {H : Hp} {ds : List DV} {a : Addr} {xs : List V} (nb : ¬ B a) (sq : SqL K H a xs) (rl : RepL K ρ B H ds xs) : ItOk K ρ B H ds (Itl K a) := fun ρ1 B1 H1 g _ _ => by
  have sq1 := g.sqL nb sq
  have rl1 := RepL.gs g _ _ rl
  refine ⟨fun i d e => ?_, xs, sq1, by rw [rl1.length]; exact Nat.le_refl _⟩
  obtain ⟨x, hx, r⟩ := rl1.get e
  refine ⟨⟨xs, x, sq1, hx⟩, fun y H' ⟨e', q⟩ => ?_⟩
  subst e'
  have := q xs sq1
  rw [hx] at this; cases this
  exact ⟨r, .inl rfl⟩
theorem it_tup {K : PySem.W.Frag} {ρ : List Addr} {B : Addr → Prop} {H : Hp} {ds : List DV} {a : Addr} {xs : List V} (nb : ¬ B a) (sq : SqT K H a xs) (rl : RepL K ρ B H ds xs) : ItOk K ρ B H ds (Itt K a) := fun ρ1 B1 H1 g _ _ => by
  have sq1 := g.sqT nb sq
  have rl1 := RepL.gs g _ _ rl
  refine ⟨fun i d e => ?_, xs, sq1, by rw [rl1.length]; exact Nat.le_refl _⟩
  obtain ⟨x, hx, r⟩ := rl1.get e
  refine ⟨⟨xs, x, sq1, hx⟩, fun y H' ⟨e', q⟩ => ?_⟩
  subst e'
  have := q xs sq1
  rw [hx] at this; cases this
  exact ⟨r, .inl rfl⟩
def rangeL (lo : Int) (n : Nat) : List DV := (List.range n).map fun (i : Nat) => .int (lo + (i : Int))
theorem it_range {K : PySem.W.Frag} {ρ : List Addr} {B : Addr → Prop} {H : Hp} {lo : Int} {n : Nat} : ItOk K ρ B H (rangeL lo n) (Itr lo n) := fun ρ1 B1 H1 g _ _ => by
  refine ⟨fun i d e => ?_, by show n ≤ _; simp [rangeL]⟩
  have hi : i < n := by have := (List.getElem?_eq_some_iff.mp e).1; simpa [rangeL] using this
  refine ⟨hi, fun y H' ⟨e', q⟩ => ?_⟩
  subst e' q
  have : d = .int (lo + i) := by simp [rangeL, hi] at e; exact e.symm
  subst this
  exact ⟨rep_int, .inl rfl⟩
variable {tg iter : Expr}
theorem _root_.L2.PI.imp {wi wi' : TI} (h : PI X tg iter wi) (i : ∀ σ H R, wi' σ H R → wi σ H R) : PI X tg iter wi' := fun pins s σ H R I q => h pins s σ H R I (i σ H R q)
theorem di_list (h : DE X iter f) : DI X tg iter (iLst f) := (pi_list h).imp fun σ H R ⟨Z, env, ρ, B, hp, ds, hp', S, e, k⟩ => by
  obtain ⟨d, hp1, e1, e2⟩ := bind_some e
  obtain ⟨rfl, rfl⟩ := lstD_some e2
  refine tD.run S e1 fun v ρ1 B1 H1 g1 S1 r1 => ?_
  obtain ⟨a, xs, rfl, nb, sq, rl⟩ := r1.lstI
  exact ⟨a, rfl, ⟨xs, sq⟩, k _ ρ1 B1 H1 g1 S1.wo (it_list nb sq rl)⟩
theorem di_tup (h : DE X iter f) : DI X tg iter (iTp f) := (pi_tup h).imp fun σ H R ⟨Z, env, ρ, B, hp, ds, hp', S, e, k⟩ => by
  obtain ⟨d, hp1, e1, e2⟩ := bind_some e
  obtain ⟨rfl, rfl⟩ := tupD_some e2
  refine tD.run S e1 fun v ρ1 B1 H1 g1 S1 r1 => ?_
  obtain ⟨a, xs, rfl, nb, sq, rl⟩ := r1.tupI
  exact ⟨a, rfl, ⟨xs, sq⟩, k _ ρ1 B1 H1 g1 S1.wo (it_tup nb sq rl)⟩
def smallI (j : Int) : Bool := decide (-(2 ^ 62) ≤ j ∧ j < 2 ^ 62)
def rng1 : List DV → M (List DV)
  | [.int j] => do guardM (smallI j); pure (rangeL 0 j.toNat)
  | _ => failure
def rng2 : List DV → M (List DV)
  | [.int i, .int j] => do guardM (smallI i && smallI j); pure (rangeL i (j - i).toNat)
  | _ => failure
def iRg1 (f : DAx) : DIx := fun env => do rng1 (← f env)
theorem rng1_some {ds out : List DV} {hp hp' : Hs} (h : rng1 ds hp = some (out, hp')) : ∃ j : Int, ds = [.int j] ∧ smallI j = true ∧ out = rangeL 0 j.toNat ∧ hp = hp' := by
  unfold rng1 at h
  split at h
  · obtain ⟨u, hp1, e1, e2⟩ := bind_some h
    obtain ⟨h1, rfl⟩ := guardM_some e1
    obtain ⟨rfl, rfl⟩ := pure_some e2
    exact ⟨_, rfl, h1, rfl, rfl⟩
  · cases h
theorem rng2_some {ds out : List DV} {hp hp' : Hs} (h : rng2 ds hp = some (out, hp')) : ∃ i j : Int, ds = [.int i, .int j] ∧ smallI i = true ∧ smallI j = true ∧ out = rangeL i (j - i).toNat ∧ hp = hp' := by
  unfold rng2 at h
  split at h
  · obtain ⟨u, hp1, e1, e2⟩ := bind_some h
    obtain ⟨h1, rfl⟩ := guardM_some e1
    obtain ⟨rfl, rfl⟩ := pure_some e2
    rw [Bool.and_eq_true] at h1
    exact ⟨_, _, rfl, h1.1, h1.2, rfl, rfl⟩
  · cases h
theorem RepL.ints1 {K : PySem.W.Frag} {ρ : List Addr} {B : Addr → Prop} {H : Hp} {j : Int} {vs : List V} (h : RepL K ρ B H [.int j] vs) : vs = [.int j] := by
  unfold RepL at h
  obtain ⟨x, r, rfl, h1, h2⟩ := h
  unfold RepL at h2
  rw [h1.intI, h2]
theorem RepL.ints2 {K : PySem.W.Frag} {ρ : List Addr} {B : Addr → Prop} {H : Hp} {i j : Int} {vs : List V} (h : RepL K ρ B H [.int i, .int j] vs) : vs = [.int i, .int j] := by
  unfold RepL at h
  obtain ⟨x, r, rfl, h1, h2⟩ := h
  rw [h1.intI, h2.ints1]
theorem di_range1 {x : Expr} {p : Pos} {f : DAx} (hg : Gl X "range") (hm : X.mg "range" = none) (ha : DA X [x] f) (hs : starEach [x] X.env = [(false, eval x X.env)] := by rfl) : DI X tg (.Call (.Name "range" p) [x] [] pos) (iRg1 f) :=
  (pi_range1 hg hm ha hs).imp fun σ H R ⟨Z, env, ρ, B, hp, ds, hp', S, e, k⟩ => by
    obtain ⟨d, hp1, e1, e2⟩ := bind_some e
    obtain ⟨j, rfl, h1, rfl, rfl⟩ := rng1_some e2
    refine tDA.run S e1 fun vs ρ1 B1 H1 g1 S1 r1 => ?_
    have h1' := of_decide_eq_true h1
    exact ⟨j, r1.ints1, h1'.1, h1'.2, k _ ρ1 B1 H1 g1 S1.wo it_range⟩
def forL (b : DV → DSx) : List DV → DSx
  | [], env => pure (.nx, env)
  | d :: ds, env => do
    let r ← b d env
    match r.1 with
    | .nx => forL b ds r.2
    | .ct => forL b ds r.2
    | .bk => pure (.nx, r.2)
    | .rt x => pure (.rt x, r.2)
def sFor (f : DIx) (g : DGx) (body : DSx) : DSx := fun env => do let ds ← f env; forL (fun d env => do let env' ← g d env; body env') ds env
theorem upd_gs {K : PySem.W.Frag} {ρ : List Addr} {B : Addr → Prop} {H : Hp} {p : Addr} {o : HO} (rb : ∀ a ∈ ρ, B a) (h : H p = none) : Gs K ρ B H ρ B (upd H p o) := (Gr.laid h).gs rb
theorem ds_for {body : List Stmt} {fi : DIx} {g : DGx} {sb : DSx} (hp : PassesOwn (model X.prog X.w) X.A X.env X.xe) (hc : X.calm = true) (hi : DI X tg iter fi) (hg : PG X tg (tDG X.K g)) (hb : DSs X body sb)
    (hs : ∀ x, foldedSetIterable iter X.env x = pure x := by intro _; rfl) : DS X (.For tg iter body [] pos) (sFor fi g sb) :=
  (ps_for hp hc hi hg hb hs).imp fun D σ H ⟨Z, env, ρ, B, hp, fl, env', hp', S, e, k⟩ => by
    obtain ⟨ds, hp1, e1, e2⟩ := bind_some e
    refine ⟨Z, env, ρ, B, hp, ds, hp1, S, e1, fun J ρ1 B1 H1 g1 W1 it => ?_⟩
    have k1 := k.after (g1.gs S.wo.rb)
    refine ⟨fun i m σ H => m = ds.length - i ∧ i ≤ ds.length ∧ ∃ env ρ B hp, SOk X.K Z env σ ρ B hp H ∧ Gs X.K ρ1 B1 H1 ρ B H ∧ forL (fun d env => do let env' ← g d env; sb env') (ds.drop i) env hp = some ((fl, env'), hp'),
      ⟨ds.length, rfl, Nat.zero_le _, env, ρ1, B1, hp1, S.grow g1 W1, Gs.refl, by simpa using e2⟩, ?_⟩
    rintro i m σ H ⟨rfl, hi, env2, ρ2, B2, hp2, S2, g2, e3⟩
    obtain ⟨itg, its⟩ := it ρ2 B2 H g2 S2.wo.rb S2.wo.bt
    by_cases hlt : i < ds.length
    · have hd : ds[i]? = some ds[i] := List.getElem?_eq_getElem hlt
      obtain ⟨go, yl⟩ := itg i _ hd
      rw [List.drop_eq_getElem_cons hlt] at e3
      obtain ⟨⟨f1, env4⟩, hp4, e4, e5⟩ := bind_some e3
      obtain ⟨env3, hp3, e6, e7⟩ := bind_some e4
      refine .inr ⟨go, fun σ' H' => ∃ env ρ B hp, SOk X.K Z env σ' ρ B hp H' ∧ Gs X.K ρ1 B1 H1 ρ B H' ∧ forL (fun d env => do let env' ← g d env; sb env') (ds.drop (i + 1)) env hp = some ((fl, env'), hp'),
        fun σ' H' q => ⟨ds.length - (i + 1), by omega, rfl, hlt, q⟩, fun x H' y => ?_⟩
      obtain ⟨rx, hx⟩ := yl x H' y
      have S3 : SOk X.K Z env2 σ ρ2 B2 hp2 H' ∧ Gs X.K ρ2 B2 H ρ2 B2 H' := by
        rcases hx with rfl | ⟨p, o, hn, rfl⟩
        · exact ⟨S2, Gs.refl⟩
        · exact ⟨S2.grow (Gr.laid hn) (S2.wo.laid hn), upd_gs S2.wo.rb hn⟩
      refine ⟨Z, env2, ρ2, B2, hp2, ds[i], env3, hp3, S3.1, rx, e6, fun σ5 ρ5 B5 H5 g5 S5 => ⟨Z, env3, ρ5, B5, hp3, f1, env4, hp4, S5, e7, fun σ6 ρ6 B6 H6 g6 S6 => ?_⟩⟩
      have G6 := g2.trans (S3.2.trans (g5.trans g6))
      cases f1 with
      | nx => exact ⟨env4, ρ6, B6, hp4, S6, G6, e5⟩
      | ct => exact ⟨env4, ρ6, B6, hp4, S6, G6, e5⟩
      | bk => obtain ⟨z, rfl⟩ := pure_some e5; cases z; exact k1 σ6 ρ6 B6 H6 G6 S6
      | rt d => obtain ⟨z, rfl⟩ := pure_some e5; cases z; exact k1 σ6 ρ6 B6 H6 G6 S6
    · have e : i = ds.length := by omega
      subst e
      rw [List.drop_length] at e3
      obtain ⟨z, rfl⟩ := pure_some e3; cases z
      exact .inl ⟨its, k1 σ ρ2 B2 H g2 S2⟩
def whileD (c : DTx) (b : DSx) : Nat → DSx
  | 0, _ => failure
  | n + 1, env => do
    if ← c env then
      let r ← b env
      match r.1 with
      | .nx => whileD c b n r.2
      | .ct => whileD c b n r.2
      | .bk => pure (.nx, r.2)
      | .rt x => pure (.rt x, r.2)
    else pure (.nx, env)
theorem ds_while (n : Nat) {body : List Stmt} {sb : DSx} (hp : PassesOwn (model X.prog X.w) X.A X.env X.xe) (hc : DT X c ca) (hb : DSs X body sb) : DS X (.While c body [] pos) (whileD ca sb n) :=
  (ps_while hp hc hb).imp fun D σ H ⟨Z, env, ρ, B, hp, fl, env', hp', S, e, k⟩ => by
    refine ⟨fun m σ H1 => ∃ env1 ρ1 B1 hp1, SOk X.K Z env1 σ ρ1 B1 hp1 H1 ∧ Gs X.K ρ B H ρ1 B1 H1 ∧ whileD ca sb m env1 hp1 = some ((fl, env'), hp'), ⟨n, env, ρ, B, hp, S, Gs.refl, e⟩, ?_⟩
    rintro m σ H1 ⟨env1, ρ1, B1, hp1, S1, g1, e1⟩
    cases m with
    | zero => cases e1
    | succ m =>
      obtain ⟨x, hp2, e2, e3⟩ := bind_some e1
      refine tDT.run S1 e2 fun ρ2 B2 H2 g2 S2 => ?_
      have G2 := g1.trans (g2.gs S1.wo.rb)
      cases x with
      | false =>
        obtain ⟨z, rfl⟩ := pure_some e3; cases z
        exact iteF (k σ ρ2 B2 H2 G2 S2)
      | true =>
        obtain ⟨⟨f1, env4⟩, hp4, e4, e5⟩ := bind_some e3
        refine iteT ⟨fun σ' H' => ∃ env1 ρ1 B1 hp1, SOk X.K Z env1 σ' ρ1 B1 hp1 H' ∧ Gs X.K ρ B H ρ1 B1 H' ∧ whileD ca sb m env1 hp1 = some ((fl, env'), hp'), fun σ' H' q => ⟨m, Nat.lt_succ_self m, q⟩, ?_⟩
        refine ⟨Z, env1, ρ2, B2, hp2, f1, env4, hp4, S2, e4, fun σ6 ρ6 B6 H6 g6 S6 => ?_⟩
        have G6 := G2.trans g6
        cases f1 with
        | nx => exact ⟨env4, ρ6, B6, hp4, S6, G6, e5⟩
        | ct => exact ⟨env4, ρ6, B6, hp4, S6, G6, e5⟩
        | bk => obtain ⟨z, rfl⟩ := pure_some e5; cases z; exact k σ6 ρ6 B6 H6 G6 S6
        | rt d => obtain ⟨z, rfl⟩ := pure_some e5; cases z; exact k σ6 ρ6 B6 H6 G6 S6
end
end D
namespace D
open PySem PySem.Spec PyProof.Rows L2
section
variable {K : PySem.W.Frag} {Z : Ent} {env : En} {σ : St} {ρ ρ' : List Addr} {B B' : Addr → Prop} {hp hp' : Hs} {H H' : Hp}
def banP (B : Addr → Prop) (p : Addr) : Addr → Prop := fun a => B a ∨ a = p
theorem Gr.banned {p : Addr} {o : HO} (h : H p = none) (kf : K.lookup p = none) : Gr K ρ B H ρ (banP B p) (upd H p o) where
  pre := List.prefix_rfl
  ban := fun _ h => .inl h
  new := fun a z => z.elim .inl fun e => .inr (e ▸ ⟨h, kf⟩)
  rnew := fun _ h => .inl h
  keep := fun a u _ q => by rw [upd_ne (ne_of_none q h)]; exact q
  trk := (Gr.laid (K := K) (ρ := ρ) (B := B) h).trk
theorem WOk.banned {p : Addr} {o : HO} (W : WOk K ρ B hp H) (h : H p = none) (kf : K.lookup p = none) : WOk K ρ (banP B p) hp (upd H p o) where
  len := W.len
  nd := W.nd
  obj := fun i a u e q => ORep.gs ((Gr.banned h kf).gs W.rb) (upd_ne (fun z => W.bt a (W.rb a (List.mem_of_getElem? e)) (z ▸ h))) (W.obj i a u e q)
  rb := fun a h => .inl (W.rb a h)
  bt := fun a z q => by
    have q' := (Gr.laid (K := K) (ρ := ρ) (B := B) h).trk a q
    rcases z with z | rfl
    · exact W.bt a z q'
    · rw [upd_same] at q; cases q
  bk := fun a z => z.elim (W.bk a) fun e => e ▸ kf
theorem SOk.newAcc {i : Nat} {p : Addr} {ds : List DV} {xs : List V} (S : SOk K Z env σ ρ B hp H) (h : H p = none) (kf : K.lookup p = none) (r : RepL K ρ B H ds xs) : SOk K Z (env.set i (.acc ds)) (σ.set i (some (.ref p))) ρ (banP B p) hp (upd H p (.lst xs)) := by
  have g : Gr K ρ B H ρ (banP B p) (upd H p (.lst xs)) := Gr.banned h kf
  have W := S.wo.banned (o := .lst xs) h kf
  have S1 := S.grow g W
  have np : p ∉ ρ := fun z => S.wo.bt p (S.wo.rb p z) h
  refine ⟨S1.gr, S.zb, W, fun j e q => ?_, fun j es q => ?_, fun j k es es' a h1 h2 h3 h4 => ?_, by simp [S.len]⟩
  · by_cases hj : j = i
    · subst hj
      have hl : j < env.length := by have := (List.getElem?_eq_some_iff.mp q).1; simpa using this
      rw [List.getElem?_set_self hl] at q; cases q
    · rw [List.getElem?_set_ne (Ne.symm hj)] at q ⊢
      exact S1.slot j e q
  · by_cases hj : j = i
    · subst hj
      have hl : j < env.length := by have := (List.getElem?_eq_some_iff.mp q).1; simpa using this
      rw [List.getElem?_set_self hl] at q; cases q
      exact ⟨p, xs, List.getElem?_set_self (by rw [S.len]; exact hl), upd_same, S.gr.trk p h, .inr rfl, np, RepL.grow S.wo.rb g _ _ r⟩
    · rw [List.getElem?_set_ne (Ne.symm hj)] at q ⊢
      exact S1.accs j es q
  · have at_i : ∀ {j : Nat} {es : List DV}, (env.set i (.acc ds))[j]? = some (.acc es) → j = i ∨ (j ≠ i ∧ env[j]? = some (.acc es)) := fun {j es} q => by
      by_cases hj : j = i
      · exact .inl hj
      · rw [List.getElem?_set_ne (Ne.symm hj)] at q; exact .inr ⟨hj, q⟩
    have ne_p : ∀ {j : Nat} {es : List DV}, j ≠ i → env[j]? = some (.acc es) → (σ.set i (some (.ref p)))[j]? = some (some (.ref a)) → a ≠ p := fun {j es} hj q z => by
      rw [List.getElem?_set_ne (Ne.symm hj)] at z
      obtain ⟨a', xs', e1, e2, _⟩ := S.accs j es q
      rw [z] at e1; cases e1
      exact ne_of_none e2 h
    have is_p : ∀ {j : Nat} {es : List DV}, j = i → (env.set i (.acc ds))[j]? = some (.acc es) → (σ.set i (some (.ref p)))[j]? = some (some (.ref a)) → a = p := fun {j es} e q z => by
      subst e
      have hl : j < env.length := by have := (List.getElem?_eq_some_iff.mp q).1; simpa using this
      rw [List.getElem?_set_self (by rw [S.len]; exact hl)] at z; cases z; rfl
    rcases at_i h1 with e1 | ⟨e1, q1⟩ <;> rcases at_i h2 with e2 | ⟨e2, q2⟩
    · rw [e1, e2]
    · exact absurd (is_p e1 h1 h3) (ne_p e2 q2 h4)
    · exact absurd (is_p e2 h2 h4) (ne_p e1 q1 h3)
    · rw [List.getElem?_set_ne (Ne.symm e1)] at h3
      rw [List.getElem?_set_ne (Ne.symm e2)] at h4
      exact S.adis j k es es' a q1 q2 h3 h4
theorem SOk.setAcc {i : Nat} {a : Addr} {ds ds' : List DV} {xs' : List V} (S : SOk K Z env σ ρ B hp H) (he : env[i]? = some (.acc ds)) (hσ : σ[i]? = some (some (.ref a))) (r : RepL K ρ B H ds' xs') :
    Gs K ρ B H ρ B (upd H a (.lst xs')) ∧ SOk K Z (env.set i (.acc ds')) σ ρ B hp (upd H a (.lst xs')) := by
  obtain ⟨a', xs0, e1, e2, e3, e4, e5, _⟩ := S.accs i ds he
  rw [hσ] at e1; cases e1
  have trk : ∀ b, (upd H a (.lst xs')) b = none → H b = none := fun b q => by
    by_cases e : b = a
    · subst e; rw [upd_same] at q; cases q
    · rw [upd_ne e] at q; exact q
  have g : Gs K ρ B H ρ B (upd H a (.lst xs')) := ⟨List.prefix_rfl, fun _ h => .inl h, fun b o nb h => by rw [upd_ne (show b ≠ a from fun z => nb (by rw [z]; exact e4))]; exact h, trk⟩
  have hl : i < env.length := (List.getElem?_eq_some_iff.mp he).1
  refine ⟨g, ⟨⟨S.gr.pre, S.gr.ban, S.gr.new, S.gr.rnew, fun b o nb h => ?_, fun b q => S.gr.trk b (trk b q)⟩, S.zb, ⟨S.wo.len, S.wo.nd, fun j b o q1 q2 => ?_, S.wo.rb, fun b z q => S.wo.bt b z (trk b q), S.wo.bk⟩, fun j d q => ?_, fun j es q => ?_, fun j k es es' b h1 h2 h3 h4 => ?_, by simp [S.len]⟩⟩
  · have hb : b ≠ a := fun z => by rw [z, e3] at h; cases h
    rw [upd_ne hb]; exact S.gr.keep b o nb h
  · exact ORep.gs g (upd_ne (show b ≠ a from fun z => e5 (by rw [← z]; exact List.mem_of_getElem? q1))) (S.wo.obj j b o q1 q2)
  · have hj : j ≠ i := fun z => by subst z; rw [List.getElem?_set_self hl] at q; cases q
    rw [List.getElem?_set_ne (Ne.symm hj)] at q
    obtain ⟨v, h1, h2⟩ := S.slot j d q
    exact ⟨v, h1, RepV.gs g _ _ h2⟩
  · by_cases hj : j = i
    · subst hj
      rw [List.getElem?_set_self hl] at q; cases q
      exact ⟨a, xs', hσ, upd_same, e3, e4, e5, RepL.gs g _ _ r⟩
    · rw [List.getElem?_set_ne (Ne.symm hj)] at q
      obtain ⟨b, ys, h1, h2, h3, h4, h5, h6⟩ := S.accs j es q
      have hb : b ≠ a := fun z => hj (S.adis j i es ds a q he (z ▸ h1) hσ)
      exact ⟨b, ys, h1, by rw [upd_ne hb]; exact h2, h3, h4, h5, RepL.gs g _ _ h6⟩
  · have old : ∀ {j : Nat} {es : List DV}, (env.set i (.acc ds'))[j]? = some (.acc es) → ∃ es, env[j]? = some (.acc es) := fun {j es} q => by
      by_cases hj : j = i
      · exact ⟨ds, hj ▸ he⟩
      · rw [List.getElem?_set_ne (Ne.symm hj)] at q; exact ⟨es, q⟩
    obtain ⟨_, q1⟩ := old h1
    obtain ⟨_, q2⟩ := old h2
    exact S.adis j k _ _ b q1 q2 h3 h4
theorem SOk.disown {i : Nat} {ds : List DV} (S : SOk K Z env σ ρ B hp H) (he : env[i]? = some (.acc ds)) : ∃ B', Gs K ρ B H ρ B' H ∧ SOk K Z (env.set i (.val (.lst ds))) σ ρ B' hp H := by
  obtain ⟨a, xs, e1, e2, e3, e4, e5, e6⟩ := S.accs i ds he
  have hl : i < env.length := (List.getElem?_eq_some_iff.mp he).1
  have g : Gs K ρ B H ρ (fun b => B b ∧ b ≠ a) H := ⟨List.prefix_rfl, fun _ h => .inl h.1, fun _ _ _ h => h, fun _ h => h⟩
  refine ⟨fun b => B b ∧ b ≠ a, g, ⟨⟨S.gr.pre, fun b z => ⟨S.gr.ban b z, fun q => S.zb b z (q ▸ e3)⟩, fun b z => S.gr.new b z.1, S.gr.rnew, S.gr.keep, S.gr.trk⟩, S.zb,
    ⟨S.wo.len, S.wo.nd, fun j b o q1 q2 => ORep.gs g rfl (S.wo.obj j b o q1 q2), fun b z => ⟨S.wo.rb b z, fun q => e5 (q ▸ z)⟩, fun b z => S.wo.bt b z.1, fun b z => S.wo.bk b z.1⟩, fun j d q => ?_, fun j es q => ?_, fun j k es es' b h1 h2 h3 h4 => ?_, by simp [S.len]⟩⟩
  · by_cases hj : j = i
    · subst hj
      rw [List.getElem?_set_self hl] at q; cases q
      exact ⟨_, e1, rep_lst (fun z => z.2 rfl) (SqL.of e2) (RepL.gs g _ _ e6)⟩
    · rw [List.getElem?_set_ne (Ne.symm hj)] at q
      obtain ⟨v, h1, h2⟩ := S.slot j d q
      exact ⟨v, h1, RepV.gs g _ _ h2⟩
  · have hj : j ≠ i := fun z => by subst z; rw [List.getElem?_set_self hl] at q; cases q
    rw [List.getElem?_set_ne (Ne.symm hj)] at q
    obtain ⟨b, ys, h1, h2, h3, h4, h5, h6⟩ := S.accs j es q
    have hb : b ≠ a := fun z => hj (S.adis j i es ds a q he (z ▸ h1) e1)
    exact ⟨b, ys, h1, h2, h3, ⟨h4, hb⟩, h5, RepL.gs g _ _ h6⟩
  · have nj : ∀ {j : Nat} {es : List DV}, (env.set i (.val (.lst ds)))[j]? = some (.acc es) → env[j]? = some (.acc es) := fun {j es} q => by
      have hj : j ≠ i := fun z => by subst z; rw [List.getElem?_set_self hl] at q; cases q
      rw [List.getElem?_set_ne (Ne.symm hj)] at q; exact q
    exact S.adis j k _ _ b (nj h1) (nj h2) h3 h4
end
section
variable {X : Cx} {e a b c : Expr} {f fa fb : DEx} {ca cb : DTx} {pos : Pos} {st : Stmt} {sts rest : List Stmt} {s s' : DSx}
def sAcc (i : Nat) : DSx := fun env => pure (.nx, env.set i (.acc []))
theorem ds_acc (i : Nat) {x : Str} {pos' pos'' : Pos} (hN : X.N.Nodup) (hi : X.N[i]? = some x := by rfl) (hx : Loc X.env.scope x := by first | exact Or.inl rfl | exact Or.inr rfl) (hs : swapsWith (.List [] pos'') (some (.Name x pos')) pos.line X.env = pure false := by rfl)
    (hf : X.fn x = true ∨ X.env.scope.names.lookup x = some .local := by first | exact .inl rfl | exact .inr rfl | assumption) : DS X (.Assign [.Name x pos'] (.List [] pos'') pos) (sAcc i) :=
  (ps_set hN hi hx (pe_lst pa_nil).kf hs hf).imp fun D σ H ⟨Z, env, ρ, B, hp, fl, env', hp', S, e, k⟩ => by
    obtain ⟨z, rfl⟩ := pure_some e; cases z
    refine ⟨Nat.zero_le _, fun p h kf => ?_⟩
    have kp := kf p _ upd_same
    exact k _ ρ _ _ ((Gr.banned h kp).gs S.wo.rb) (S.newAcc h kp RepL.nil)
def disE (i : Nat) (env : En) : En := match env[i]? with
  | some (.acc ds) => env.set i (.val (.lst ds))
  | _ => env
def sDis (i : Nat) (f : DSx) : DSx := fun env => f (disE i env)
theorem sDis_imp {K : PySem.W.Frag} {i : Nat} {D : Ends} {σ : St} {H : Hp} (h : tDS K (sDis i s) D σ H) : tDS K s D σ H := by
  obtain ⟨Z, env, ρ, B, hp, fl, env', hp', S, e, k⟩ := h
  cases q : env[i]? with
  | none => exact ⟨Z, env, ρ, B, hp, fl, env', hp', S, by simpa [sDis, disE, q] using e, k⟩
  | some z =>
    cases z with
    | un => exact ⟨Z, env, ρ, B, hp, fl, env', hp', S, by simpa [sDis, disE, q] using e, k⟩
    | val d => exact ⟨Z, env, ρ, B, hp, fl, env', hp', S, by simpa [sDis, disE, q] using e, k⟩
    | acc ds =>
      obtain ⟨B', g, S'⟩ := S.disown q
      exact ⟨Z, _, ρ, B', hp, fl, env', hp', S', by simpa [sDis, disE, q] using e, k.after g⟩
theorem ds_dis (i : Nat) (h : DS X st s) : DS X st (sDis i s) := L2.PS.imp h fun _ _ _ q => sDis_imp q
def sApp (i : Nat) (f : DEx) : DSx := fun env => do
  let d ← f env
  match env[i]? with
  | some (.acc ds) => if ds.length < lim then pure (.nx, env.set i (.acc (ds ++ [d]))) else failure
  | _ => failure
theorem ds_app (i : Nat) {x : Str} {p1 p2 : Pos} (he : DE X e f) (hi : X.N[i]? = some x := by rfl) (hv : Vis X.env.scope x := by first | exact Or.inl rfl | exact Or.inr (Or.inl rfl) | exact Or.inr (Or.inr rfl))
    (hd : (x == ("__debug__" : Str)) = false := by decide) (hcd : (x == ("__classdict__" : Str)) = false := by decide)
    (hs : ∀ t, PE X (.Call (.Attribute (.Name x p1) "append" p2) [e] [] pos) t → PS X (.Expr (.Call (.Attribute (.Name x p1) "append" p2) [e] [] pos) pos) (tDrop t) := by intro _ h; exact ps_expr h)
    (hb : ∀ (t : TE) (ta : TA), PE X (.Name x p1) t → PA X [e] ta → PE X (.Call (.Attribute (.Name x p1) "append" p2) [e] [] pos) (tBM X.K "list" rAppend t ta) := by intro _ _ h1 h2; exact pe_bm PySem.F.plainAttrs_list PySem.F.slot_list_append PySem.F.type_list_append mt_append h1 h2)
    (hst : starEach [e] X.env = (false, eval e X.env) :: starEach [] X.env := by rfl) : DS X (.Expr (.Call (.Attribute (.Name x p1) "append" p2) [e] [] pos) pos) (sApp i f) :=
  L2.PS.imp (hs _ (hb _ _ (pe_var hi hv hd hcd) (pa_cons he pa_nil hst))) fun D σ H ⟨Z, env, ρ, B, hp, fl, env', hp', S, e, k⟩ => by
    obtain ⟨d, hp1, e1, e2⟩ := bind_some e
    cases q : env[i]? with
    | none => rw [q] at e2; cases e2
    | some z =>
      rw [q] at e2
      cases z with
      | un => cases e2
      | val _ => cases e2
      | acc ds =>
        by_cases hl : ds.length < lim
        · have e2' : (pure (Fl.nx, env.set i (.acc (ds ++ [d]))) : M (Fl × En)) hp1 = some ((fl, env'), hp') := by
            have : (if ds.length < lim then pure (Fl.nx, env.set i (.acc (ds ++ [d]))) else failure : M (Fl × En)) hp1 = some ((fl, env'), hp') := e2
            rwa [if_pos hl] at this
          obtain ⟨z, rfl⟩ := pure_some e2'; cases z
          obtain ⟨a, xs, h1, h2, _⟩ := S.accs i ds q
          refine ⟨_, h1, .inl ⟨rfl, xs, SqL.of h2⟩, ?_⟩
          refine tD.run S e1 fun v ρ1 B1 H1 g1 S1 r1 => ?_
          obtain ⟨a', xs1, h1', h2', _, _, _, rl⟩ := S1.accs i ds q
          rw [h1] at h1'; cases h1'
          obtain ⟨g2, S2⟩ := S1.setAcc q h1 (RepL.append rl (RepL.one r1))
          exact ⟨a, xs1, v, rfl, rfl, h2', by rw [← rl.length]; exact Nat.lt_of_lt_of_le hl lim_le, k _ ρ1 B1 _ ((g1.gs S.wo.rb).trans g2) S2⟩
        · have : (if ds.length < lim then pure (Fl.nx, env.set i (.acc (ds ++ [d]))) else failure : M (Fl × En)) hp1 = some ((fl, env'), hp') := e2
          rw [if_neg hl] at this; cases this
def compD (g : DV → M Bool) (f : DV → M DV) : List DV → M (List DV)
  | [] => pure []
  | d :: ds => do
    if ← g d then
      let y ← f d
      let ys ← compD g f ds
      pure (y :: ys)
    else compD g f ds
def capS : Sl → Sl
  | .val d => .val d
  | _ => .un
def cE (idx : List Nat) (env : En) (d : DV) : En := .val d :: idx.map fun i => capS ((env[i]?).getD .un)
def eComp (src : DIx) (idx : List Nat) (t : DTx) (f : DEx) : DEx := fun env => do
  let ds ← src env
  guardM (short ds)
  let out ← compD (fun d => t (cE idx env d)) (fun d => f (cE idx env d)) ds
  pure (.lst out)
def tAll : DTx := fun _ => pure true
variable {elt iter : Expr} {x : Str} {px : Pos} {ifs : List Expr} {scope : Scope} {cl : List (Str × Addr)} {caps : List Str} {idx : List Nat} {src : DIx} {te : DTx}
theorem cσ_ok {K : PySem.W.Frag} {Z : Ent} {env : En} {σ : St} {ρ ρ1 : List Addr} {B B1 : Addr → Prop} {hp hp1 : Hs} {H H1 : Hp} {d : DV} {v : V} (S : SOk K Z env σ ρ B hp H) (g : Gs K ρ B H ρ1 B1 H1) (W : WOk K ρ1 B1 hp1 H1) (r : RepV K ρ1 B1 H1 d v) :
    SOk K ⟨ρ1, B1, H1⟩ (cE idx env d) (cσ idx σ (some v)) ρ1 B1 hp1 H1 := by
  refine ⟨Gr.refl, W.bt, W, fun i e h => ?_, fun i es h => ?_, fun i j es es' a h => ?_, by simp [cE, cσ]⟩
  · cases i with
    | zero =>
      have : d = e := by simpa [cE] using h
      subst this
      exact ⟨v, by simp [cσ], r⟩
    | succ i =>
      cases q : idx[i]? with
      | none => simp [cE, q] at h
      | some k =>
        have h' : capS ((env[k]?).getD .un) = .val e := by simpa [cE, q] using h
        cases z : env[k]? with
        | none => rw [z] at h'; cases h'
        | some sl =>
          rw [z] at h'
          cases sl with
          | un => cases h'
          | acc _ => cases h'
          | val e' =>
            have : e' = e := by simpa [capS] using h'
            subst this
            obtain ⟨u, h1, h2⟩ := S.slot k e' z
            exact ⟨u, by simp [cσ, q, h1], RepV.gs g _ _ h2⟩
  · exfalso
    cases i with
    | zero => simp [cE] at h
    | succ i =>
      cases q : idx[i]? with
      | none => simp [cE, q] at h
      | some k =>
        have h' : capS ((env[k]?).getD .un) = .acc es := by simpa [cE, q] using h
        cases z : (env[k]?).getD .un with
        | un => rw [z] at h'; cases h'
        | acc _ => rw [z] at h'; cases h'
        | val _ => rw [z] at h'; cases h'
  · exfalso
    cases i with
    | zero => simp [cE] at h
    | succ i =>
      cases q : idx[i]? with
      | none => simp [cE, q] at h
      | some k =>
        have h' : capS ((env[k]?).getD .un) = .acc es := by simpa [cE, q] using h
        cases z : (env[k]?).getD .un with
        | un => rw [z] at h'; cases h'
        | acc _ => rw [z] at h'; cases h'
        | val _ => rw [z] at h'; cases h'
theorem eComp_imp {K : PySem.W.Frag} {σ : St} {H : Hp} {Q : VK} (h : tD K (eComp src idx te f) σ H Q) : tComp K (tDI K src) (tDT K te) (tD K f) idx σ H Q := by
  obtain ⟨Z, env, ρ, B, hp, d, hp', S, e, k⟩ := h
  obtain ⟨ds, hp1, e1, e2⟩ := bind_some e
  obtain ⟨_, hp2, e3, e4⟩ := bind_some e2
  obtain ⟨hs, rfl⟩ := guardM_some e3
  obtain ⟨out, hp3, e5, e6⟩ := bind_some e4
  obtain ⟨rfl, rfl⟩ := pure_some e6
  refine ⟨Z, env, ρ, B, hp, ds, hp1, S, e1, fun J ρ1 B1 H1 g1 W1 it D hD hK => ?_⟩
  have g1s := g1.gs S.wo.rb
  have dl : ds.length < sizeLine := Nat.lt_of_le_of_lt (of_decide_eq_true hs) (by decide)
  refine ⟨fun i m ys H2 => m = ds.length - i ∧ i ≤ ds.length ∧ H2 D = some (.lst ys) ∧ ∃ ρ2 B2 hp2 don rst, Gr K ρ1 B1 H1 ρ2 B2 H2 ∧ WOk K ρ2 B2 hp2 H2 ∧ B2 D ∧ D ∉ ρ2 ∧ RepL K ρ2 B2 H2 don ys ∧ don.length ≤ i ∧
    compD (fun d => te (cE idx env d)) (fun d => f (cE idx env d)) (ds.drop i) hp2 = some (rst, hp3) ∧ don ++ rst = out, ?_, ?_⟩
  · exact ⟨ds.length, rfl, Nat.zero_le _, upd_same, ρ1, banP B1 D, hp1, [], out, Gr.banned hD hK, W1.banned hD hK, .inr rfl, fun z => W1.bt D (W1.rb D z) hD, RepL.nil, Nat.le_refl _, by simpa using e5, rfl⟩
  · rintro i m ys H2 ⟨rfl, hi, hDs, ρ2, B2, hp2, don, rst, g2, W2, bD, nD, rd, dn, e7, e8⟩
    refine ⟨hDs, ?_⟩
    obtain ⟨itg, its⟩ := it ρ2 B2 H2 (g2.gs W1.rb) W2.rb W2.bt
    by_cases hlt : i < ds.length
    · have hd : ds[i]? = some ds[i] := List.getElem?_eq_getElem hlt
      obtain ⟨go, yl⟩ := itg i _ hd
      rw [List.drop_eq_getElem_cons hlt] at e7
      obtain ⟨b, hp4, e9, e10⟩ := bind_some e7
      refine .inr ⟨go, fun x H3 y => ?_⟩
      obtain ⟨rx, hx⟩ := yl x H3 y
      have S3 : Gr K ρ2 B2 H2 ρ2 B2 H3 ∧ WOk K ρ2 B2 hp2 H3 := by
        rcases hx with rfl | ⟨p, o, hn, rfl⟩
        · exact ⟨Gr.refl, W2⟩
        · exact ⟨Gr.laid hn, W2.laid hn⟩
      have g3 := g2.trans S3.1
      have C3 := cσ_ok (idx := idx) S (g1s.trans (g3.gs W1.rb)) S3.2 rx
      refine tDT.run C3 e9 fun ρ4 B4 H4 g4 S4 => ?_
      have hD4 : H4 D = some (.lst ys) := g4.keep D _ nD (S3.1.keep D _ nD hDs)
      have nD4 : D ∉ ρ4 := fun z => (g4.rnew D z).elim nD fun q => by rw [S3.1.keep D _ nD hDs] at q; cases q
      cases b with
      | false =>
        refine iteF ⟨ds.length - (i + 1), by omega, rfl, hlt, hD4, ρ4, B4, hp4, don, rst, g3.trans g4, S4.wo, g4.ban D bD, nD4, RepL.grow W2.rb (S3.1.trans g4) _ _ rd, by omega, e10, e8⟩
      | true =>
        obtain ⟨z, hp5, e11, e12⟩ := bind_some e10
        obtain ⟨zs, hp6, e13, e14⟩ := bind_some e12
        obtain ⟨rfl, rfl⟩ := pure_some e14
        refine iteT (tD.run S4 e11 fun v ρ5 B5 H5 g5 S5 r5 => ?_)
        have hD5 : H5 D = some (.lst ys) := g5.keep D _ nD4 hD4
        have nD5 : D ∉ ρ5 := fun z => (g5.rnew D z).elim nD4 fun q => by rw [hD4] at q; cases q
        have bD5 : B5 D := g5.ban D (g4.ban D bD)
        have G5 := g3.trans (g4.trans g5)
        have rd5 := RepL.grow W2.rb (S3.1.trans (g4.trans g5)) _ _ rd
        have trk : ∀ b, (upd H5 D (.lst (ys ++ [v]))) b = none → H5 b = none := fun b q => by
          by_cases e : b = D
          · subst e; rw [upd_same] at q; cases q
          · rw [upd_ne e] at q; exact q
        have g6 : Gs K ρ5 B5 H5 ρ5 B5 (upd H5 D (.lst (ys ++ [v]))) := ⟨List.prefix_rfl, fun _ h => .inl h, fun b o nb h => by rw [upd_ne (show b ≠ D from fun z => nb (by rw [z]; exact bD5))]; exact h, trk⟩
        refine ⟨hD5, by have := rd5.length; omega, ds.length - (i + 1), by omega, rfl, hlt, upd_same, ρ5, B5, hp5, don ++ [z], zs, ?_, ?_, bD5, nD5, RepL.gs g6 _ _ (RepL.append rd5 (RepL.one r5)), by simp; omega, e13, by rw [← e8]; simp⟩
        · exact ⟨G5.pre, G5.ban, G5.new, G5.rnew, fun b o nb h => by rw [upd_ne (show b ≠ D from fun q => by rw [q, hD] at h; cases h)]; exact G5.keep b o nb h, fun b q => G5.trk b (trk b q)⟩
        · exact ⟨S5.wo.len, S5.wo.nd, fun j b o q1 q2 => ORep.gs g6 (upd_ne (show b ≠ D from fun z => nD5 (by rw [← z]; exact List.mem_of_getElem? q1))) (S5.wo.obj j b o q1 q2), S5.wo.rb, fun b z q => S5.wo.bt b z (trk b q), S5.wo.bk⟩
    · have e : i = ds.length := by omega
      subst e
      rw [List.drop_length] at e7
      obtain ⟨rfl, rfl⟩ := pure_some e7
      refine .inl ⟨its, ?_⟩
      have gU : Gs K ρ2 B2 H2 ρ2 (fun b => B2 b ∧ b ≠ D) H2 := ⟨List.prefix_rfl, fun _ h => .inl h.1, fun _ _ _ h => h, fun _ h => h⟩
      refine k (.ref D) ρ2 (fun b => B2 b ∧ b ≠ D) H2 (g1.trans ⟨g2.pre, fun b z => ⟨g2.ban b z, fun q => W1.bt b z (q ▸ hD)⟩, fun b z => g2.new b z.1, g2.rnew, g2.keep, g2.trk⟩)
        ⟨W2.len, W2.nd, fun j b o q1 q2 => ORep.gs gU rfl (W2.obj j b o q1 q2), fun b z => ⟨W2.rb b z, fun q => nD (q ▸ z)⟩, fun b z => W2.bt b z.1, fun b z => W2.bk b z.1⟩ (rep_lst (fun z => z.2 rfl) (SqL.of hDs) ?_)
      rw [← e8, List.append_nil]
      exact RepL.gs gU _ _ rd
def DTs (X : Cx) (ifs : List Expr) (t : DTx) : Prop := PTs X ifs (tDT X.K t)
theorem dts_nil : DTs X [] tAll := fun pins s σ H Q I ⟨Z, env, ρ, B, hp, d, hp', S, e, k⟩ => by
  obtain ⟨rfl, rfl⟩ := pure_some e
  exact pts_nil pins s σ H Q I (k ρ B H Gr.refl S.wo)
theorem dts_one {c : Expr} (h : DT X c te) : DTs X [c] te := pts_one h
theorem de_comp (S : CompS X x scope cl caps idx) (hc : X.calm = true) (hi : DI X (.Name x px) iter src)
    (ht : ∀ C s₀ H₀ ex, DTs (cxComp X scope cl C (x :: caps) s₀ H₀ ex) ifs te) (he : ∀ C s₀ H₀ ex, DE (cxComp X scope cl C (x :: caps) s₀ H₀ ex) elt f)
    (hs : ∀ x, foldedSetIterable iter X.env x = pure x := by intro _; rfl) : DE X (.ListComp elt [⟨.Name x px, iter, ifs, 0⟩] scope pos) (eComp src idx te f) :=
  L2.PE.imp (pe_comp (tt := tDT X.K te) (te := tD X.K f) S hc hi ht he hs) fun _ _ _ h => eComp_imp h
theorem ds_comp (i : Nat) {y : Str} {py spos : Pos} (hN : X.N.Nodup) (S : CompS X x scope cl caps idx) (hc : X.calm = true) (hi : DI X (.Name x px) iter src)
    (ht : ∀ C s₀ H₀ ex, DTs (cxComp X scope cl C (x :: caps) s₀ H₀ ex) ifs te) (he : ∀ C s₀ H₀ ex, DE (cxComp X scope cl C (x :: caps) s₀ H₀ ex) elt f)
    (hy : X.N[i]? = some y := by rfl) (hx : Loc X.env.scope y := by first | exact Or.inl rfl | exact Or.inr rfl)
    (hsw : swapsWith (.ListComp elt [⟨.Name x px, iter, ifs, 0⟩] scope pos) (some (.Name y py)) spos.line X.env = pure true := by with_unfolding_all rfl)
    (hf : X.fn y = true ∨ X.env.scope.names.lookup y = some .local := by first | exact .inl rfl | exact .inr rfl | assumption)
    (hs : ∀ x, foldedSetIterable iter X.env x = pure x := by intro _; rfl) : DS X (.Assign [.Name y py] (.ListComp elt [⟨.Name x px, iter, ifs, 0⟩] scope pos) spos) (sSet i (eComp src idx te f)) :=
  L2.PS.imp (ps_comp (tt := tDT X.K te) (te := tD X.K f) S hc hi ht he hN hy hx hsw hf hs) fun _ _ _ h => sSet_imp (fun _ _ _ q => eComp_imp q) h
def runF (n : Nat) (body : DSx) : List DV → M DV := fun ds => do
  let r ← body (ds.map .val ++ List.replicate (n - ds.length) .un)
  match r.1 with
  | .nx => pure .non
  | .rt d => pure d
  | _ => failure
def spD (K : PySem.W.Frag) (n : Nat) (F : List DV → M DV) : Sp := fun vs H Q _ => vs.length = n ∧ ∃ ρ B hp ds d hp', WOk K ρ B hp H ∧ RepL K ρ B H ds vs ∧ F ds hp = some (d, hp') ∧ Fol K ρ B H d hp' Q
structure Has (P : Program) (w : World) (K : PySem.W.Frag) (mg : Str → Option Value) (base : Heap) (x : Str) (k n : Nat) (F : List DV → M DV) : Prop where
  ex : ∃ (g : Addr) (fd : FuncData) (ps : List Str), FnOk P w K mg base CX0 k g fd ps (spD K n F) ∧ Binds K fd ps [] ∧ PySem.W.keepIn K (.ref g) = true ∧ mg x = some (.ref g)
theorem sOk_start {K : PySem.W.Frag} {ρ : List Addr} {B : Addr → Prop} {hp : Hs} {H : Hp} {ds : List DV} {vs : List V} {N : List Str} (W : WOk K ρ B hp H) (r : RepL K ρ B H ds vs) :
    SOk K ⟨ρ, B, H⟩ (ds.map .val ++ List.replicate (N.length - ds.length) .un) (L2.start N vs) ρ B hp H := by
  have hl := r.length
  have at_ : ∀ {i : Nat} {z : Sl}, (ds.map Sl.val ++ List.replicate (N.length - ds.length) Sl.un)[i]? = some z → z = .un ∨ ∃ d, ds[i]? = some d ∧ z = .val d := fun {i z} h => by
    by_cases hi : i < ds.length
    · rw [List.getElem?_append_left (by simpa using hi), List.getElem?_map, List.getElem?_eq_getElem hi] at h
      cases h
      exact .inr ⟨_, List.getElem?_eq_getElem hi, rfl⟩
    · rw [List.getElem?_append_right (by simpa using hi), List.getElem?_replicate] at h
      split at h
      · cases h; exact .inl rfl
      · cases h
  refine ⟨Gr.refl, W.bt, W, fun i d h => ?_, fun i es h => ?_, fun i j es es' a h => ?_, by unfold L2.start; simp; omega⟩
  · rcases at_ h with z | ⟨d', q, z⟩
    · cases z
    · cases z
      obtain ⟨v, h1, h2⟩ := r.get q
      refine ⟨v, ?_, h2⟩
      unfold L2.start
      have hi : i < vs.length := (List.getElem?_eq_some_iff.mp h1).1
      rw [List.getElem?_append_left (by simpa using hi), List.getElem?_map, h1]
      rfl
  · rcases at_ h with z | ⟨d', q, z⟩ <;> cases z
  · rcases at_ h with z | ⟨d', q, z⟩ <;> cases z
theorem fn_has {P : Program} {w : World} {K : PySem.W.Frag} {mg : Str → Option Value} {base : Heap} {x : Str} {stm : Stmt} {g : Addr} {fd : FuncData} {N ps : List Str} {k : Nat} {body : DSx} (F : Fun K x x stm g fd) (Sc : FnScope N ps (defScope stm)) (hm : mg x = some (.ref g))
    (hb : ∀ (kV doc pm : Value) (an : Option Addr) (cdv ct : Value) (us : List Value), us.length = ps.length → bindArgs (PySem.W.fnOf x x (defArgs stm) (defBody stm) (defScope stm) .none kV doc pm an cdv ct) ⟨us, []⟩ = pure (ps.zip us))
    (h : ∀ (cdv : Value) (A : Around) (outer : List Env) (s : Shared) (H : Hp) (E : XK), Room k (A.deeper (envOfC x (defScope stm) s.heap.objs.size g cdv)) → DSs (cxOf CX0 P w K mg base N x (defScope stm) g cdv A outer s H E).nox (defBody stm) body) :
    Has P w K mg base x (k + 1) ps.length (runF N.length body) := by
  refine ⟨g, fd, ps, F.ok Sc (fun vs H Q E h => h.1) (fun cdv A outer s H vs Q E hr sp => ?_), F.binds hb, F.kp, hm⟩
  obtain ⟨hn, ρ, B, hp, ds, d, hp', W, r, e, k⟩ := sp
  obtain ⟨⟨fl, env'⟩, hp1, e1, e2⟩ := bind_some e
  refine ⟨_, h cdv A outer s H E hr, ⟨ρ, B, H⟩, _, ρ, B, hp, fl, env', hp1, sOk_start W r, e1, fun σ' ρ' B' H' g' S' => ?_⟩
  cases fl with
  | nx => obtain ⟨rfl, rfl⟩ := pure_some e2; exact k .non ρ' B' H' S'.gr S'.wo rep_non
  | rt x => obtain ⟨rfl, rfl⟩ := pure_some e2; exact fun v rv => k v ρ' B' H' S'.gr S'.wo rv
  | bk => cases e2
  | ct => cases e2
def eCall (n : Nat) (F : List DV → M DV) (a : DAx) : DEx := fun env => do
  let ds ← a env
  guardM (decide (ds.length = n))
  F ds
theorem de_call {y : Str} {k j n : Nat} {F : List DV → M DV} {e : Expr} {es : List Expr} {fa : DAx} {p : Pos} (h : Has X.prog X.w X.K X.mg X.base y j n F) (hr : Room k X.A) (hj : j ≤ k) (hx : Passes CX0 X E0) (ha : DA X (e :: es) fa) (hg : Gl X y := by rfl)
    (hdb : (y == ("__debug__" : Str)) = false := by decide) (he : starEach (e :: es) X.env = (false, eval e X.env) :: starEach es X.env := by rfl) (hpl : (backTo pos (starEach es X.env)).any (·.1) = false := by rfl) : DE X (.Call (.Name y p) (e :: es) [] pos) (eCall n F fa) := by
  obtain ⟨g, fd, ps, F', hb, hk, hm⟩ := h.ex
  refine L2.PE.imp (pe_call F' (hr.mono hj) hg hm hk hb .nil hx ha hdb he hpl) fun σ H Q ⟨Z, env, ρ, B, hp, d, hp', S, e, k⟩ => ?_
  obtain ⟨ds, hp1, e1, e2⟩ := bind_some e
  obtain ⟨_, hp2, e3, e4⟩ := bind_some e2
  obtain ⟨hl, rfl⟩ := guardM_some e3
  refine tDA.run S e1 fun vs ρ1 B1 H1 g1 S1 r1 => ?_
  refine ⟨by rw [List.append_nil, ← r1.length]; exact of_decide_eq_true hl, ρ1, B1, hp1, ds, d, hp', S1.wo, by rw [List.append_nil]; exact r1, e4, k.after g1⟩
end
end D
namespace D
open PySem PySem.Spec PyProof.Rows L2
section
variable {X : Cx} {e a b c : Expr} {f fa fb fc : DEx} {ca cb : DTx} {pos : Pos}
def int2 (C : Int → Int → Bool) (g : Int → Int → DV) : DV → DV → M DV
  | .int i, .int j => if C i j then pure (g i j) else failure
  | _, _ => failure
theorem int2_some {C : Int → Int → Bool} {g : Int → Int → DV} {x y d : DV} {hp hp' : Hs} (h : int2 C g x y hp = some (d, hp')) : ∃ i j, x = .int i ∧ y = .int j ∧ C i j = true ∧ d = g i j ∧ hp = hp' := by
  unfold int2 at h
  split at h
  · rename_i i j
    by_cases hc : C i j = true
    · rw [if_pos hc] at h
      obtain ⟨rfl, rfl⟩ := pure_some h
      exact ⟨i, j, rfl, rfl, hc, rfl, rfl⟩
    · rw [if_neg hc] at h; cases h
  · cases h
theorem p2_int {g : Value → Value → Sem Value} {C : Int → Int → Bool} {P : Int → Int → Prop} {q : Int → Int → Int} (ho : OpR X g (rI P fun i j => .int (q i j))) (hC : ∀ i j, C i j = true → P i j) : P2 X g (int2 C fun i j => .int (q i j)) := by
  intro pins s σ H x y v u Q I rx ry h
  refine ho pins s σ H x y v u Q I rx ry ?_
  obtain ⟨ρ, B, hp, dx, dy, d, hp', W, r1, r2, e, k⟩ := h
  obtain ⟨i, j, rfl, rfl, hc, rfl, rfl⟩ := int2_some e
  exact ⟨i, j, r1.intI, r2.intI, hC i j hc, k _ ρ B H Gr.refl W rep_int⟩
theorem p2_int0 {g : Value → Value → Sem Value} {q : Int → Int → Int} (ho : OpR X g (rI0 fun i j => .int (q i j))) : P2 X g (int2 (fun _ _ => true) fun i j => .int (q i j)) := by
  intro pins s σ H x y v u Q I rx ry h
  refine ho pins s σ H x y v u Q I rx ry ?_
  obtain ⟨ρ, B, hp, dx, dy, d, hp', W, r1, r2, e, k⟩ := h
  obtain ⟨i, j, rfl, rfl, hc, rfl, rfl⟩ := int2_some e
  exact ⟨i, j, r1.intI, r2.intI, k _ ρ B H Gr.refl W rep_int⟩
theorem p2_cmp0 {g : Value → Value → Sem Value} {q : Int → Int → Bool} (ho : OpR X g (rI0 fun i j => .bl (q i j))) : P2 X g (int2 (fun _ _ => true) fun i j => .bl (q i j)) := by
  intro pins s σ H x y v u Q I rx ry h
  refine ho pins s σ H x y v u Q I rx ry ?_
  obtain ⟨ρ, B, hp, dx, dy, d, hp', W, r1, r2, e, k⟩ := h
  obtain ⟨i, j, rfl, rfl, hc, rfl, rfl⟩ := int2_some e
  exact ⟨i, j, r1.intI, r2.intI, k _ ρ B H Gr.refl W rep_bl⟩
def cMul (i j : Int) : Bool := decide ((-(2 ^ 64) < i ∧ i < 2 ^ 64) ∨ (-(2 ^ 64) < j ∧ j < 2 ^ 64))
def cDiv (_ j : Int) : Bool := decide (0 < j ∧ j < 1073741824)
def cMod (_ j : Int) : Bool := decide (0 < j)
def cPow (i j : Int) : Bool := decide (0 ≤ j ∧ j ≤ 1000000 ∧ i.natAbs < 2 ^ 64)
def subD : DV → DV → M DV := int2 (fun _ _ => true) fun i j => .int (i - j)
def mulD : DV → DV → M DV := int2 cMul fun i j => .int (i * j)
def divD : DV → DV → M DV := int2 cDiv fun i j => .int (i / j)
def modD : DV → DV → M DV := int2 cMod fun i j => .int (i % j)
def powD : DV → DV → M DV := int2 cPow fun i j => .int (i ^ j.toNat)
def ltD : DV → DV → M DV := int2 (fun _ _ => true) fun i j => .bl (decide (i < j))
def leD : DV → DV → M DV := int2 (fun _ _ => true) fun i j => .bl (decide (i ≤ j))
def gtD : DV → DV → M DV := int2 (fun _ _ => true) fun i j => .bl (decide (j < i))
def geD : DV → DV → M DV := int2 (fun _ _ => true) fun i j => .bl (decide (j ≤ i))
theorem p_sub : P2 X (binaryOp .Sub) subD := p2_int0 op_sub
theorem p_mul : P2 X (binaryOp .Mult) mulD := p2_int op_mul fun i j h => of_decide_eq_true (p := (-(2 ^ 64) < i ∧ i < 2 ^ 64) ∨ (-(2 ^ 64) < j ∧ j < 2 ^ 64)) h
theorem p_div : P2 X (binaryOp .FloorDiv) divD := p2_int op_fdiv fun i j h => of_decide_eq_true (p := 0 < j ∧ j < 1073741824) h
theorem p_mod : P2 X (binaryOp .Mod) modD := p2_int op_mod fun _ _ h => of_decide_eq_true h
theorem p_pow : P2 X (binaryOp .Pow) powD := p2_int op_pow fun i j h => of_decide_eq_true (p := 0 ≤ j ∧ j ≤ 1000000 ∧ i.natAbs < 2 ^ 64) h
theorem p_lt : P2 X (compareOp .Lt) ltD := p2_cmp0 op_lt
theorem p_le : P2 X (compareOp .LtE) leD := p2_cmp0 op_le
theorem p_gt : P2 X (compareOp .Gt) gtD := p2_cmp0 op_gt
theorem p_ge : P2 X (compareOp .GtE) geD := p2_cmp0 op_ge
def negD : DV → M DV
  | .int i => pure (.int (-i))
  | _ => failure
def eNeg (f : DEx) : DEx := fun env => do negD (← f env)
theorem de_neg (h : DE X a f) : DE X (.UnaryOp .USub a pos) (eNeg f) := L2.PE.imp (pe_un un_neg h) fun σ H Q ⟨Z, env, ρ, B, hp, d, hp', S, e, k⟩ => by
  obtain ⟨x, hp1, e1, e2⟩ := bind_some e
  refine tD.run S e1 fun v ρ1 B1 H1 g1 S1 r1 => ?_
  cases x with
  | int i => obtain ⟨rfl, rfl⟩ := pure_some e2; exact ⟨i, r1.intI, k _ ρ1 B1 H1 g1 S1.wo rep_int⟩
  | _ => cases e2
theorem op_catT0 : OpR X (binaryOp .Add) (fun x y H Q => ∃ a b ys, x = .ref a ∧ y = .ref b ∧ SqT X.K H a [] ∧ SqT X.K H b ys ∧ ys.length ≤ sizeLine ∧ Q (.ref b) H) := by
  intro pins s σ H x y v u Q I rx ry h
  obtain ⟨a, b, ys, rfl, rfl, ha, hb, hz, q⟩ := h
  cases rx
  cases ry
  obtain ⟨its, r1, p1, _⟩ := I.tuple ha
  obtain ⟨its2, r2, p2, _⟩ := I.tuple hb
  obtain ⟨m, F⟩ := I.fr
  have z : its = [] := by cases r1; rfl
  subst z
  exact add_tuples F (news_all (g := X.base) (L := X.env.locals)) p1 p2 (fun _ => ⟨.ref b, H, I, rfl, q⟩) (fun n => absurd rfl n) (fun n => absurd rfl n) (by have := r2.length; simp; omega)
def addD : DV → DV → M DV
  | .int i, .int j => pure (.int (i + j))
  | .tup xs, .tup ys => do guardM (short (xs ++ ys)); pure (.tup (xs ++ ys))
  | .lst xs, .lst ys => do guardM (short (xs ++ ys)); pure (.lst (xs ++ ys))
  | _, _ => failure
theorem rd_catL : OpR X (binaryOp .Add) (fun x y H Q => ∃ l b xs zs, x = .ref l ∧ y = .ref b ∧ SqL X.K H l xs ∧ SqL X.K H b zs ∧ xs.length + zs.length ≤ sizeLine ∧ ∀ p, H p = none → Q (.ref p) (upd H p (.lst (xs ++ zs)))) := by
  intro pins s σ H x y v u Q I rx ry h
  obtain ⟨l, b, xs, zs, rfl, rfl, hl, hb, hz, q⟩ := h
  cases rx
  cases ry
  obtain ⟨its, r1, ⟨⟨k1, dd1, da1, sl1⟩, n1, e1, c1, d1, s1⟩, _⟩ := I.list hl
  obtain ⟨its2, r2, ⟨⟨k2, dd2, da2, sl2⟩, n2, e2, c2, d2, s2⟩, _⟩ := I.list hb
  simp only at c1 d1 s1 c2 d2 s2
  subst c1 d1 s1 c2 d2 s2
  have ea : its.toArray ++ its2.toArray = (its ++ its2).toArray := by simp
  have hz' : its.length + its2.length ≤ sizeLine := by rw [← r1.length, ← r2.length]; exact hz
  refine concat_meets (T := "list") ⟨_, e1, rfl⟩ ⟨_, e2, rfl⟩ noFill_list_add seq_list_add PySem.F.slot_list_add PySem.F.entry_list_add (PySem.F.args_list_add_2 _ _) (list_addW l b its.toArray its2.toArray n1 n2 none none sl1 sl2 (by simpa using hz')) ⟨e1, e2, ?_⟩
  rw [ea]
  exact ⟨.ref _, _, I.lnew (t' := s.toks) (r1.append r2) (by rw [List.length_append]; exact hz), rfl, q _ I.fresh⟩
theorem p_add : P2 X (binaryOp .Add) addD := by
  intro pins s σ H x y v u Q I rx ry h
  obtain ⟨ρ, B, hp, dx, dy, d, hp', W, r1, r2, e, k⟩ := h
  unfold addD at e
  split at e
  · obtain ⟨rfl, rfl⟩ := pure_some e
    exact op_add pins s σ H x y v u Q I rx ry ⟨_, _, r1.intI, r2.intI, k _ ρ B H Gr.refl W rep_int⟩
  · rename_i xs ys
    obtain ⟨_, hp1, e1, e2⟩ := bind_some e
    obtain ⟨hs, rfl⟩ := guardM_some e1
    obtain ⟨rfl, rfl⟩ := pure_some e2
    obtain ⟨a, vs, rfl, n1, q1, l1⟩ := r1.tupI
    obtain ⟨b, ws, rfl, n2, q2, l2⟩ := r2.tupI
    have hz : vs.length + ws.length ≤ sizeLine := by
      have := short_ok hs
      rw [List.length_append] at this
      rw [← l1.length, ← l2.length]; exact this
    by_cases hv : vs = []
    · subst hv
      have : xs = [] := by have := l1.length; cases xs with | nil => rfl | cons _ _ => simp at this
      subst this
      exact op_catT0 pins s σ H _ _ v u Q I rx ry ⟨a, b, ws, rfl, rfl, q1, q2, by simp at hz; exact hz, k _ ρ B H Gr.refl W (rep_tup n2 q2 l2)⟩
    · refine op_catT pins s σ H _ _ v u Q I rx ry ⟨a, b, vs, ws, rfl, rfl, q1, q2, hv, hz, fun hw => ?_, fun hw => fol_tup W (RepL.append l1 l2) k⟩
      subst hw
      have : ys = [] := by have := l2.length; cases ys with | nil => rfl | cons _ _ => simp at this
      subst this
      rw [List.append_nil] at k
      exact k _ ρ B H Gr.refl W (rep_tup n1 q1 l1)
  · rename_i xs ys
    obtain ⟨_, hp1, e1, e2⟩ := bind_some e
    obtain ⟨hs, rfl⟩ := guardM_some e1
    obtain ⟨rfl, rfl⟩ := pure_some e2
    obtain ⟨a, vs, rfl, n1, q1, l1⟩ := r1.lstI
    obtain ⟨b, ws, rfl, n2, q2, l2⟩ := r2.lstI
    have hz : vs.length + ws.length ≤ sizeLine := by
      have := short_ok hs
      rw [List.length_append] at this
      rw [← l1.length, ← l2.length]; exact this
    exact rd_catL pins s σ H _ _ v u Q I rx ry ⟨a, b, vs, ws, rfl, rfl, q1, q2, hz, fol_lst W (RepL.append l1 l2) k⟩
  · cases e
def isN : DV → Bool
  | .non => true
  | _ => false
theorem isN_rep {K : PySem.W.Frag} {ρ : List Addr} {B : Addr → Prop} {H : Hp} {d : DV} {v : V} (r : RepV K ρ B H d v) : decide (v = .non) = isN d := by
  cases d with
  | non => rw [r.nonI]; rfl
  | bl b => rw [r.blI]; rfl
  | int b => rw [r.intI]; rfl
  | str b => rw [r.strI]; rfl
  | tup b => obtain ⟨a, xs, rfl, _⟩ := r.tupI; rfl
  | lst b => obtain ⟨a, xs, rfl, _⟩ := r.lstI; rfl
  | ref b => obtain ⟨a, rfl, _⟩ := r.refI; rfl
def isD : DV → DV → M DV
  | x, .non => pure (.bl (isN x))
  | .bl p, .bl q => pure (.bl (p == q))
  | _, _ => failure
def isnD : DV → DV → M DV
  | x, .non => pure (.bl (!isN x))
  | .bl p, .bl q => pure (.bl (p != q))
  | _, _ => failure
theorem p_is : P2 X (compareOp .Is) isD := by
  intro pins s σ H x y v u Q I rx ry h
  obtain ⟨ρ, B, hp, dx, dy, d, hp', W, r1, r2, e, k⟩ := h
  unfold isD at e
  split at e
  · obtain ⟨rfl, rfl⟩ := pure_some e
    refine op_isN pins s σ H x y v u Q I rx ry ⟨r2.nonI, ?_⟩
    rw [isN_rep r1]
    exact k _ ρ B H Gr.refl W rep_bl
  · obtain ⟨rfl, rfl⟩ := pure_some e
    obtain rfl := r1.blI
    obtain rfl := r2.blI
    cases rx; cases ry
    exact is_bool ⟨.bl _, H, I, rfl, k _ ρ B H Gr.refl W rep_bl⟩
  · cases e
theorem p_isn : P2 X (compareOp .IsNot) isnD := by
  intro pins s σ H x y v u Q I rx ry h
  obtain ⟨ρ, B, hp, dx, dy, d, hp', W, r1, r2, e, k⟩ := h
  unfold isnD at e
  split at e
  · obtain ⟨rfl, rfl⟩ := pure_some e
    refine op_notN pins s σ H x y v u Q I rx ry ⟨r2.nonI, ?_⟩
    rw [isN_rep r1]
    exact k _ ρ B H Gr.refl W rep_bl
  · obtain ⟨rfl, rfl⟩ := pure_some e
    obtain rfl := r1.blI
    obtain rfl := r2.blI
    cases rx; cases ry
    exact isnot_bool ⟨.bl _, H, I, rfl, k _ ρ B H Gr.refl W rep_bl⟩
  · cases e
theorem atI_rep {K : PySem.W.Frag} {ρ : List Addr} {B : Addr → Prop} {H : Hp} {ds : List DV} {xs : List V} {i : Int} {d : DV} (r : RepL K ρ B H ds xs) (h : atI ds i = some d) : ∃ x, atI xs i = some x ∧ RepV K ρ B H d x := by
  unfold atI at h ⊢
  rw [← r.length]
  cases q : ixN ds.length i with
  | none => rw [q] at h; cases h
  | some j =>
    rw [q] at h
    exact r.get h
def ixD : DV → DV → M DV
  | .tup ds, .int i => match atI ds i with
    | some d => pure d
    | none => failure
  | .lst ds, .int i => match atI ds i with
    | some d => pure d
    | none => failure
  | _, _ => failure
theorem p_ix : IxR X (tP2 X.K ixD) := by
  intro value slice pins s σ H x y v u Q I rx ry h hsub
  obtain ⟨ρ, B, hp, dx, dy, d, hp', W, r1, r2, e, k⟩ := h
  unfold ixD at e
  split at e
  · rename_i ds i
    cases q : atI ds i with
    | none => rw [q] at e; cases e
    | some d' =>
      rw [q] at e
      obtain ⟨rfl, rfl⟩ := pure_some e
      obtain ⟨a, xs, rfl, n1, q1, l1⟩ := r1.tupI
      obtain ⟨z, hz, rz⟩ := atI_rep l1 q
      exact ix_tup value slice pins s σ H _ _ v u Q I rx ry ⟨a, xs, i, z, rfl, r2.intI, q1, hz, k _ ρ B H Gr.refl W rz⟩ hsub
  · rename_i ds i
    cases q : atI ds i with
    | none => rw [q] at e; cases e
    | some d' =>
      rw [q] at e
      obtain ⟨rfl, rfl⟩ := pure_some e
      obtain ⟨a, xs, rfl, n1, q1, l1⟩ := r1.lstI
      obtain ⟨z, hz, rz⟩ := atI_rep l1 q
      exact ix_list value slice pins s σ H _ _ v u Q I rx ry ⟨a, xs, i, z, rfl, r2.intI, q1, hz, k _ ρ B H Gr.refl W rz⟩ hsub
  · cases e
theorem de_ix (ha : DE X a fa) (hb : DE X b fb) (hs : PlainIx b := by intro _ _; rfl) : DE X (.Subscript a b pos) (eBin ixD fa fb) := L2.PE.imp (pe_ix p_ix ha hb hs) fun _ _ _ h => eBin_imp h
end
end D
namespace D
open PySem PySem.Spec PyProof.Rows L2
mutual
def toP : DV → PyData
  | .non => .none
  | .bl b => .bool b
  | .int i => .int i
  | .str x => .str x
  | .tup xs => .tuple (toPs xs)
  | .lst xs => .list (toPs xs)
  | .ref _ => .none
def toPs : List DV → List PyData
  | [] => []
  | d :: ds => toP d :: toPs ds
end
mutual
def noRef : DV → Bool
  | .ref _ => false
  | .tup xs => noRefs xs
  | .lst xs => noRefs xs
  | _ => true
def noRefs : List DV → Bool
  | [] => true
  | d :: ds => noRef d && noRefs ds
end
section
variable {X : Cx} {pins : List (Addr × Obj)} {σ : St} {H : Hp} {s : Shared} {ρ : List Addr} {B : Addr → Prop}
mutual
theorem reads_of (I : Inv X pins σ H s) : ∀ (d : DV) (v : V) (u : Value), RepV X.K ρ B H d v → RelV v u → noRef d = true → ∃ as, Reads s.heap u (toP d) as
  | .non, _, _, r, ru, _ => by obtain rfl := r.nonI; cases ru; exact ⟨[], by unfold toP; exact .none⟩
  | .bl b, _, _, r, ru, _ => by obtain rfl := r.blI; cases ru; exact ⟨[], by unfold toP; exact .bool b⟩
  | .int i, _, _, r, ru, _ => by obtain rfl := r.intI; obtain ⟨t, rfl⟩ := ru; exact ⟨[], by unfold toP; exact .int i t⟩
  | .str x, _, _, r, ru, _ => by obtain rfl := r.strI; obtain ⟨t, rfl⟩ := ru; exact ⟨[], by unfold toP; exact .str x t⟩
  | .ref _, _, _, _, _, n => by cases n
  | .tup ds, _, _, r, ru, n => by
    obtain ⟨a, xs, rfl, _, sq, rl⟩ := r.tupI
    cases ru
    obtain ⟨its, rv, ⟨o, e, hc, k, hd⟩, _⟩ := I.tuple sq
    obtain ⟨as, q⟩ := reads_all I ds xs its rl rv (by unfold noRef at n; exact n)
    exact ⟨_, by unfold toP; exact reads_tuple_at e hc hd (by simpa using q)⟩
  | .lst ds, _, _, r, ru, n => by
    obtain ⟨a, xs, rfl, _, sq, rl⟩ := r.lstI
    cases ru
    obtain ⟨its, rv, ⟨o, k, e, hc, _, hd⟩, _⟩ := I.list sq
    obtain ⟨as, q⟩ := reads_all I ds xs its rl rv (by unfold noRef at n; exact n)
    exact ⟨_, by unfold toP; exact reads_list_at e hc hd (by simpa using q)⟩
theorem reads_all (I : Inv X pins σ H s) : ∀ (ds : List DV) (xs : List V) (us : List Value), RepL X.K ρ B H ds xs → Vals xs us → noRefs ds = true → ∃ as, ReadsAll s.heap us (toPs ds) as
  | [], _, _, r, ru, _ => by unfold RepL at r; subst r; cases ru; exact ⟨[], by unfold toPs; exact .nil⟩
  | d :: ds, _, _, r, ru, n => by
    unfold RepL at r
    obtain ⟨x, xs, rfl, r1, r2⟩ := r
    cases ru with
    | cons q1 q2 =>
      unfold noRefs at n
      rw [Bool.and_eq_true] at n
      obtain ⟨as, h1⟩ := reads_of I d x _ r1 q1 n.1
      obtain ⟨bs, h2⟩ := reads_all I ds xs _ r2 q2 n.2
      exact ⟨_, by unfold toPs; exact .cons h1 h2⟩
end
end
def okP (d : DV) : Bool := noRef d && SeqAt.shaped (toP d)
def eqD : DV → DV → M DV := fun x y => do guardM (okP x && okP y); pure (.bl (PyData.eqv (toP x) (toP y)))
def neD : DV → DV → M DV := fun x y => do guardM (okP x && okP y); pure (.bl (!PyData.eqv (toP x) (toP y)))
section
variable {X : Cx} {e a b c : Expr} {f fa fb fc : DEx} {ca cb : DTx} {pos : Pos}
theorem p_eq (hu : X.A.units + 64 < cLine) : P2 X (compareOp .Eq) eqD := by
  intro pins s σ H x y v u Q I rx ry h
  obtain ⟨ρ, B, hp, dx, dy, d, hp', W, r1, r2, e, k⟩ := h
  obtain ⟨_, hp1, e1, e2⟩ := bind_some e
  obtain ⟨hs, rfl⟩ := guardM_some e1
  obtain ⟨rfl, rfl⟩ := pure_some e2
  simp only [okP, Bool.and_eq_true] at hs
  obtain ⟨as, q1⟩ := reads_of I dx x v r1 rx hs.1.1
  obtain ⟨bs, q2⟩ := reads_of I dy y u r2 ry hs.2.1
  exact eq_dataH q1 q2 hs.1.2 hs.2.2 hu ⟨.bl _, H, I, rfl, k _ ρ B H Gr.refl W rep_bl⟩
def tPn (K : PySem.W.Frag) (g : List DV → M DV) : List V → Hp → VK → Prop := fun xs H Q => ∃ ρ B hp ds d hp', WOk K ρ B hp H ∧ RepL K ρ B H ds xs ∧ g ds hp = some (d, hp') ∧ Fol K ρ B H d hp' Q
def eBlt (g : List DV → M DV) (a : DAx) : DEx := fun env => do g (← a env)
theorem eBlt_imp {K : PySem.W.Frag} {g : List DV → M DV} {fa : DAx} {σ : St} {H : Hp} {Q : VK} (h : tD K (eBlt g fa) σ H Q) : tCB (tPn K g) (tDA K fa) σ H Q := by
  obtain ⟨Z, env, ρ, B, hp, d, hp', S, e, k⟩ := h
  obtain ⟨ds, hp1, e1, e2⟩ := bind_some e
  exact tDA.run S e1 fun vs ρ1 B1 H1 g1 S1 r1 => ⟨ρ1, B1, hp1, ds, d, hp', S1.wo, r1, e2, k.after g1⟩
theorem de_blt {x : Str} {id : String} {g : List DV → M DV} {e : Expr} {es : List Expr} {fa : DAx} {p : Pos} (hc : CallR X (.builtin id) (tPn X.K g)) (hm : X.mg x = none) (hv : bootBuiltins x = some (.builtin id)) (ha : DA X (e :: es) fa) (hg : Gl X x := by rfl) (hn : x ≠ "__name__" := by decide) (hdb : (x == ("__debug__" : Str)) = false := by decide)
    (he : starEach (e :: es) X.env = (false, eval e X.env) :: starEach es X.env := by rfl) (hpl : (backTo pos (starEach es X.env)).any (·.1) = false := by rfl) : DE X (.Call (.Name x p) (e :: es) [] pos) (eBlt g fa) :=
  L2.PE.imp (pe_callB hc hg hm hv ha hn hdb he hpl) fun _ _ _ h => eBlt_imp h
theorem de_ty {x : Str} {T : String} {g : List DV → M DV} {e : Expr} {es : List Expr} {fa : DAx} {p : Pos} (hc : CallR X (.type T) (tPn X.K g)) (hm : X.mg x = none) (hv : bootBuiltins x = some (.type T)) (ha : DA X (e :: es) fa) (hg : Gl X x := by rfl) (hn : x ≠ "__name__" := by decide) (hdb : (x == ("__debug__" : Str)) = false := by decide)
    (he : starEach (e :: es) X.env = (false, eval e X.env) :: starEach es X.env := by rfl) (hpl : (backTo pos (starEach es X.env)).any (·.1) = false := by rfl) : DE X (.Call (.Name x p) (e :: es) [] pos) (eBlt g fa) :=
  L2.PE.imp (pe_callTy hc hg hm hv ha hn hdb he hpl) fun _ _ _ h => eBlt_imp h
theorem RepL.oneI {K : PySem.W.Frag} {ρ : List Addr} {B : Addr → Prop} {H : Hp} {d : DV} {vs : List V} (h : RepL K ρ B H [d] vs) : ∃ v, vs = [v] ∧ RepV K ρ B H d v := by
  unfold RepL at h
  obtain ⟨x, r, rfl, h1, h2⟩ := h
  unfold RepL at h2; subst h2
  exact ⟨x, rfl, h1⟩
def lenF : List DV → M DV
  | [.tup ds] => pure (.int ds.length)
  | [.lst ds] => pure (.int ds.length)
  | _ => failure
theorem c_len : CallR X (.builtin "len") (tPn X.K lenF) := by
  intro pins s σ H xs us Q I r h
  obtain ⟨ρ, B, hp, ds, d, hp', W, rl, e, k⟩ := h
  unfold lenF at e
  split at e
  · obtain ⟨rfl, rfl⟩ := pure_some e
    obtain ⟨v, rfl, rv⟩ := rl.oneI
    obtain ⟨a, ys, rfl, _, sq, l⟩ := rv.tupI
    exact call_len_seq pins s σ H _ us Q I r ⟨a, ys, rfl, .inr sq, by rw [← l.length]; exact k _ ρ B H Gr.refl W rep_int⟩
  · obtain ⟨rfl, rfl⟩ := pure_some e
    obtain ⟨v, rfl, rv⟩ := rl.oneI
    obtain ⟨a, ys, rfl, _, sq, l⟩ := rv.lstI
    exact call_len_seq pins s σ H _ us Q I r ⟨a, ys, rfl, .inl sq, by rw [← l.length]; exact k _ ρ B H Gr.refl W rep_int⟩
  · cases e
def minF : List DV → M DV
  | [.int i, .int j] => pure (.int (if j < i then j else i))
  | _ => failure
def maxF : List DV → M DV
  | [.int i, .int j] => pure (.int (if j > i then j else i))
  | _ => failure
theorem c_min (hc : X.calm = true) : CallR X (.builtin "min") (tPn X.K minF) := by
  intro pins s σ H xs us Q I r h
  obtain ⟨ρ, B, hp, ds, d, hp', W, rl, e, k⟩ := h
  unfold minF at e
  split at e
  · obtain ⟨rfl, rfl⟩ := pure_some e
    exact call_min2 hc pins s σ H xs us Q I r ⟨_, _, rl.ints2, k _ ρ B H Gr.refl W rep_int⟩
  · cases e
theorem c_max (hc : X.calm = true) : CallR X (.builtin "max") (tPn X.K maxF) := by
  intro pins s σ H xs us Q I r h
  obtain ⟨ρ, B, hp, ds, d, hp', W, rl, e, k⟩ := h
  unfold maxF at e
  split at e
  · obtain ⟨rfl, rfl⟩ := pure_some e
    exact call_max2 hc pins s σ H xs us Q I r ⟨_, _, rl.ints2, k _ ρ B H Gr.refl W rep_int⟩
  · cases e
def tupF : List DV → M DV
  | [.lst ds] => pure (.tup ds)
  | [.tup ds] => pure (.tup ds)
  | _ => failure
theorem c_tuple : CallR X (.type "tuple") (tPn X.K tupF) := by
  intro pins s σ H xs us Q I r h
  obtain ⟨ρ, B, hp, ds, d, hp', W, rl, e, k⟩ := h
  unfold tupF at e
  split at e
  · obtain ⟨rfl, rfl⟩ := pure_some e
    obtain ⟨v, rfl, rv⟩ := rl.oneI
    obtain ⟨a, ys, rfl, _, sq, l⟩ := rv.lstI
    exact call_tuple_of pins s σ H _ us Q I r ⟨a, ys, rfl, .inl ⟨sq, fol_tup W l k⟩⟩
  · obtain ⟨rfl, rfl⟩ := pure_some e
    obtain ⟨v, rfl, rv⟩ := rl.oneI
    obtain ⟨a, ys, rfl, nb, sq, l⟩ := rv.tupI
    exact call_tuple_of pins s σ H _ us Q I r ⟨a, ys, rfl, .inr ⟨sq, k _ ρ B H Gr.refl W (rep_tup nb sq l)⟩⟩
  · cases e
def eChain (g g' : DV → DV → M DV) (fa fb fc : DEx) : DEx := fun env => do
  let x ← fa env
  let y ← fb env
  let z ← g x y
  if ← asB z then
    let u ← fc env
    g' y u
  else pure (.bl false)
end
end D
namespace D
open PySem PySem.Spec PyProof.Rows L2
section
variable {X : Cx} {e a b c : Expr} {f fa fb fc : DEx} {ca cb : DTx} {pos : Pos}
theorem eChain_imp {K : PySem.W.Frag} {g g' : DV → DV → M DV} {σ : St} {H : Hp} {Q : VK} (h : tD K (eChain g g' fa fb fc) σ H Q) : tChain (tP2 K g) (tP2 K g') (tD K fa) (tD K fb) (tD K fc) σ H Q := by
  obtain ⟨Z, env, ρ, B, hp, d, hp', S, e, k⟩ := h
  obtain ⟨x, hp1, e1, e⟩ := bind_some e
  obtain ⟨y, hp2, e2, e⟩ := bind_some e
  obtain ⟨z, hp3, e3, e⟩ := bind_some e
  obtain ⟨t, hp4, e4, e⟩ := bind_some e
  obtain ⟨rfl, rfl⟩ := asB_some e4
  refine tD.run S e1 fun v ρ1 B1 H1 g1 S1 r1 => tD.run S1 e2 fun u ρ2 B2 H2 g2 S2 r2 => ?_
  refine ⟨ρ2, B2, hp2, x, y, _, _, S2.wo, RepV.grow S1.wo.rb g2 _ _ r1, r2, e3, fun w ρ3 B3 H3 g3 W3 r3 => ⟨t, r3.blI, ?_⟩⟩
  have S3 := S2.grow g3 W3
  cases t with
  | false =>
    obtain ⟨rfl, rfl⟩ := pure_some e
    exact iteF (k _ ρ3 B3 H3 (g1.trans (g2.trans g3)) W3 rep_bl)
  | true =>
    obtain ⟨q, hp5, e5, e6⟩ := bind_some e
    refine iteT (tD.run S3 e5 fun p ρ4 B4 H4 g4 S4 r4 => ?_)
    exact ⟨ρ4, B4, hp5, y, q, d, hp', S4.wo, RepV.grow S3.wo.rb g4 _ _ (RepV.grow S2.wo.rb g3 _ _ r2), r4, e6, k.after (g1.trans (g2.trans (g3.trans g4)))⟩
theorem dt_chain {op op' : CmpOp} {g g' : DV → DV → M DV} (ho : P2 X (compareOp op) g) (ho' : P2 X (compareOp op') g') (ha : DE X a fa) (hb : DE X b fb) (hc : DE X c fc) (hm : lastMarks [op, op'] [b, c] = false := by with_unfolding_all rfl) : DT X (.Compare a [op, op'] [b, c] pos) (eB (eChain g g' fa fb fc)) :=
  L2.PT.imp (pt_chain ho ho' ha hb hc hm) fun σ H Q ⟨Z, env, ρ, B, hp, d, hp', S, e, k⟩ => by
    obtain ⟨x, hp1, e1, e2⟩ := bind_some e
    obtain ⟨rfl, rfl⟩ := asB_some e2
    exact eChain_imp (tD.run S e1 fun v ρ1 B1 H1 g1 S1 r1 => ⟨d, r1.blI, k ρ1 B1 H1 g1 S1.wo⟩)
abbrev DOx := En → M (Option Int)
def tDO (K : PySem.W.Frag) (f : DOx) : TO := fun σ H Q => ∃ Z env ρ B hp d hp', SOk K Z env σ ρ B hp H ∧ f env hp = some (d, hp') ∧ FolB K ρ B H hp' (Q d)
def DO (X : Cx) (e : Option Expr) (f : DOx) : Prop := PO X e (tDO X.K f)
def oNone : DOx := fun _ => pure none
def asI : DV → M Int
  | .int i => pure i
  | _ => failure
theorem asI_some {d : DV} {c : Int} {hp hp' : Hs} (h : asI d hp = some (c, hp')) : d = .int c ∧ hp = hp' := by
  cases d with
  | int b => obtain ⟨rfl, rfl⟩ := pure_some h; exact ⟨rfl, rfl⟩
  | _ => cases h
def oSome (f : DEx) : DOx := fun env => do let i ← asI (← f env); pure (some i)
theorem do_none : DO X none oNone := fun pins s σ H Q I ⟨Z, env, ρ, B, hp, d, hp', S, e, k⟩ => by
  obtain ⟨rfl, rfl⟩ := pure_some e
  exact po_none pins s σ H Q I (k ρ B H Gr.refl S.wo)
theorem do_some (h : DE X e f) : DO X (some e) (oSome f) := fun pins s σ H Q I ⟨Z, env, ρ, B, hp, d, hp', S, e, k⟩ => by
  obtain ⟨x, hp1, e1, e2⟩ := bind_some e
  obtain ⟨i, hp2, e3, e4⟩ := bind_some e2
  obtain ⟨rfl, rfl⟩ := asI_some e3
  obtain ⟨rfl, rfl⟩ := pure_some e4
  exact po_some h pins s σ H Q I (tD.run S e1 fun v ρ1 B1 H1 g1 S1 r1 => ⟨i, r1.intI, k ρ1 B1 H1 g1 S1.wo⟩)
theorem tDO.run {K : PySem.W.Frag} {f : DOx} {Z : Ent} {env : En} {σ : St} {ρ : List Addr} {B : Addr → Prop} {hp hp1 : Hs} {H : Hp} {d : Option Int} {Q : Option Int → Hp → Prop} (S : SOk K Z env σ ρ B hp H) (e : f env hp = some (d, hp1))
    (k : ∀ ρ' B' H', Gr K ρ B H ρ' B' H' → SOk K Z env σ ρ' B' hp1 H' → Q d H') : tDO K f σ H Q :=
  ⟨Z, env, ρ, B, hp, d, hp1, S, e, fun ρ' B' H' g W => k ρ' B' H' g (S.grow g W)⟩
def cutD (ds : List DV) (lo hi : Option Int) : List DV := (ds.drop (HT.sIx ds.length 0 lo)).take (HT.sIx ds.length ds.length hi - HT.sIx ds.length 0 lo)
theorem cutD_rep {K : PySem.W.Frag} {ρ : List Addr} {B : Addr → Prop} {H : Hp} {ds : List DV} {xs : List V} {lo hi : Option Int} (r : RepL K ρ B H ds xs) : RepL K ρ B H (cutD ds lo hi) (cutV xs lo hi) := by
  unfold cutD cutV
  rw [r.length]
  exact RepL.take _ (RepL.drop _ r)
def slD (d : DV) (lo hi : Option Int) : M DV := match d with
  | .lst ds => pure (.lst (cutD ds lo hi))
  | .tup ds => pure (.tup (cutD ds lo hi))
  | _ => failure
def eSl (f : DEx) (lo hi : DOx) : DEx := fun env => do let d ← f env; let l ← lo env; let h ← hi env; slD d l h
def tPs (K : PySem.W.Frag) : V → Option Int → Option Int → Hp → VK → Prop := fun x lo hi H Q => ∃ ρ B hp d r hp', WOk K ρ B hp H ∧ RepV K ρ B H d x ∧ slD d lo hi hp = some (r, hp') ∧ Fol K ρ B H r hp' Q
theorem tuple_whole {prog : Program} {w : World} {A : Around} {E : Value → Shared → Prop} {s : Shared} {t sl : Addr} {items : Array Value} {vl vu : Value} {lo hi : Option Int} {Q : Value → Shared → Prop} (ht : IsTup s.heap t items) (hs : s.heap.IsSliceOf sl vl vu .none) (pl : IsPart vl lo) (pu : IsPart vu hi)
    (h0 : HT.sIx items.size 0 lo = 0) (h1 : HT.sIx items.size items.size hi = items.size) (h : Q (.ref t) s) : wpAny (model prog w) A (getItem (.ref t) (.ref sl)) Q E s := by
  obtain ⟨os, hos, hcs, hds⟩ := id hs
  have hTs : s.TypeIs (.ref sl) "slice" := ⟨os, hos, hcs⟩
  unfold getItem
  try with_reducible refine wpAny_holding ?_
  first | refine wpAny_bind (wpAny_pure ?_) | skip
  refine wpAny_bind (wpAny_sequenceKey ht.typeIs (by decide) ?_)
  refine wpAny_bind (wpAny_callSpecial?_slot (name := Str.ofString "__getitem__") ht.typeIs PyProof.Rows.slot_tuple_getitem (wpAny_call_entry PyProof.Rows.slot_tuple_getitem ht.typeIs entry_tuple_getitem ?_ (args_tuple_getitem _ _)))
  show wpAny _ _ (Builtin.Tuple.tupleItemsOf (.ref t) >>= _) _ _ s
  refine wpAny_bind (tupleItemsOf_ ht ?_)
  refine wpAny_bind (wpAny_typeOf hTs ?_)
  rw [if_pos (by decide)]
  refine wpAny_bind (HT.sliceApplied_gen hs pl pu ?_)
  have yes : (((HT.sIx items.size 0 lo : Nat) : Int) == 0 && (1 : Int) == 1 && (HT.sIx items.size items.size hi - HT.sIx items.size 0 lo) == items.size) = true := by rw [h0, h1]; simp
  show wpAny _ _ (if (((HT.sIx items.size 0 lo : Nat) : Int) == 0 && (1 : Int) == 1 && (HT.sIx items.size items.size hi - HT.sIx items.size 0 lo) == items.size) = true then _ else _) _ _ s
  rw [if_pos yes]
  have ex : ∀ {Q' : Bool → Shared → Prop} {A' : Around} {E' : Value → Shared → Prop}, Q' true s → wpAny (model prog w) A' (Builtin.Tuple.tupleIsExact (.ref t)) Q' E' s := fun {Q' A' E'} q => by
    unfold Builtin.Tuple.tupleIsExact
    exact wpAny_bind (wpAny_typeOf ht.typeIs (wpAny_pure (by rw [show (Value.type "tuple" == Value.type "tuple") = true from beq_self_eq_true _]; exact q)))
  refine wpAny_bind (ex ?_)
  rw [if_pos rfl]
  first
    | exact wpAny_bind (wpAny_rule (wpAny_pure ⟨_, rfl, wpAny_pure h⟩))
    | exact wpAny_bind (wpAny_rule (wpAny_bind (wpAny_pure (wpAny_pure ⟨_, rfl, wpAny_pure h⟩))))
theorem sl_tupW : SlR X (fun x lo hi H Q => ∃ a xs, x = .ref a ∧ SqT X.K H a xs ∧ (HT.sIx xs.length 0 lo = 0 ∧ HT.sIx xs.length xs.length hi = xs.length) ∧ Q (.ref a) H) := by
  intro pins s σ H x v vl vu lo hi sl Q I rx hs pl pu h
  obtain ⟨a, xs, rfl, hx, ⟨h0, h1⟩, q⟩ := h
  cases rx
  obtain ⟨its, r, ht, hz⟩ := I.tuple hx
  have hlen : its.toArray.size = xs.length := by rw [List.size_toArray]; exact r.length.symm
  exact ⟨"tuple", _, PyProof.Rows.slot_tuple_getitem.lookup, ht.typeIs, tuple_whole ht hs pl pu (by rw [hlen]; exact h0) (by rw [hlen]; exact h1) ⟨.ref a, H, I, rfl, q⟩⟩
theorem cut_whole {α : Type} (ds : List α) (i j : Nat) (h0 : i = 0) (h1 : j = ds.length) : (ds.drop i).take (j - i) = ds := by subst h0 h1; simp
theorem p_sl : SlR X (tPs X.K) := by
  intro pins s σ H x v vl vu lo hi sl Q I rx hs pl pu h
  obtain ⟨ρ, B, hp, d, r, hp', W, rv, e, k⟩ := h
  cases d with
  | lst ds =>
    obtain ⟨rfl, rfl⟩ := pure_some e
    obtain ⟨a, xs, rfl, nb, sq, rl⟩ := rv.lstI
    exact sl_list pins s σ H _ v vl vu lo hi sl Q I rx hs pl pu ⟨a, xs, rfl, sq, fol_lst W (cutD_rep rl) k⟩
  | tup ds =>
    obtain ⟨rfl, rfl⟩ := pure_some e
    obtain ⟨a, xs, rfl, nb, sq, rl⟩ := rv.tupI
    by_cases hw : HT.sIx xs.length 0 lo = 0 ∧ HT.sIx xs.length xs.length hi = xs.length
    · refine sl_tupW pins s σ H _ v vl vu lo hi sl Q I rx hs pl pu ⟨a, xs, rfl, sq, hw, ?_⟩
      have : cutD ds lo hi = ds := by unfold cutD; exact cut_whole ds _ _ (by rw [rl.length]; exact hw.1) (by rw [rl.length]; exact hw.2)
      rw [this] at k
      exact k _ ρ B H Gr.refl W (rep_tup nb sq rl)
    · exact sl_tup pins s σ H _ v vl vu lo hi sl Q I rx hs pl pu ⟨a, xs, rfl, sq, hw, fol_tup W (cutD_rep rl) k⟩
  | non => cases e
  | bl _ => cases e
  | int _ => cases e
  | str _ => cases e
  | ref _ => cases e
theorem de_sl {lo hi : Option Expr} {ol oh : DOx} {p2 : Pos} (h : DE X e f) (hl : DO X lo ol) (hh : DO X hi oh) : DE X (.Subscript e (.Slice lo hi none p2) pos) (eSl f ol oh) :=
  L2.PE.imp (pe_slice p_sl h hl hh) fun σ H Q ⟨Z, env, ρ, B, hp, d, hp', S, e, k⟩ => by
    obtain ⟨x, hp1, e1, e⟩ := bind_some e
    obtain ⟨l, hp2, e2, e⟩ := bind_some e
    obtain ⟨u, hp3, e3, e⟩ := bind_some e
    refine tD.run S e1 fun v ρ1 B1 H1 g1 S1 r1 => tDO.run S1 e2 fun ρ2 B2 H2 g2 S2 => tDO.run S2 e3 fun ρ3 B3 H3 g3 S3 => ?_
    exact ⟨ρ3, B3, hp3, x, d, hp', S3.wo, RepV.grow S1.wo.rb (g2.trans g3) _ _ r1, e, k.after (g1.trans (g2.trans g3))⟩
theorem fn_ok {P : Program} {w : World} {K : PySem.W.Frag} {mg : Str → Option Value} {base : Heap} {x : Str} {stm : Stmt} {g : Addr} {fd : FuncData} {N ps : List Str} {k : Nat} {body : DSx} (F : Fun K x x stm g fd) (Sc : FnScope N ps (defScope stm))
    (h : ∀ (cdv : Value) (A : Around) (outer : List Env) (s : Shared) (H : Hp) (E : XK), Room k (A.deeper (envOfC x (defScope stm) s.heap.objs.size g cdv)) → DSs (cxOf CX0 P w K mg base N x (defScope stm) g cdv A outer s H E).nox (defBody stm) body) :
    FnOk P w K mg base CX0 (k + 1) g fd ps (spD K ps.length (runF N.length body)) := by
  refine F.ok Sc (fun vs H Q E h => h.1) (fun cdv A outer s H vs Q E hr sp => ?_)
  obtain ⟨hn, ρ, B, hp, ds, d, hp', W, r, e, k⟩ := sp
  obtain ⟨⟨fl, env'⟩, hp1, e1, e2⟩ := bind_some e
  refine ⟨_, h cdv A outer s H E hr, ⟨ρ, B, H⟩, _, ρ, B, hp, fl, env', hp1, sOk_start W r, e1, fun σ' ρ' B' H' g' S' => ?_⟩
  cases fl with
  | nx => obtain ⟨rfl, rfl⟩ := pure_some e2; exact k .non ρ' B' H' S'.gr S'.wo rep_non
  | rt x => obtain ⟨rfl, rfl⟩ := pure_some e2; exact fun v rv => k v ρ' B' H' S'.gr S'.wo rv
  | bk => cases e2
  | ct => cases e2
theorem rep_ints {K : PySem.W.Frag} {ρ : List Addr} {B : Addr → Prop} {H : Hp} : ∀ ns : List Int, RepL K ρ B H (ns.map DV.int) (ns.map V.int)
  | [] => RepL.nil
  | _ :: r => RepL.cons rep_int (rep_ints r)
theorem law_sp {K : PySem.W.Frag} {F : List DV → M DV} {H : Hp} {a : Addr} {ns : List Int} {E : XK} (h : ∃ hp', F [.lst (ns.map .int)] [] = some (.bl true, hp')) (hS : SqL K H a (ns.map V.int)) : spD K 1 F [.ref a] H (fun v _ => v = .bl true) E := by
  obtain ⟨hp', h⟩ := h
  refine ⟨rfl, [], fun _ => False, [], [.lst (ns.map .int)], .bl true, hp', ⟨rfl, List.nodup_nil, fun i a o h => by simp at h, fun a h => absurd h (by simp), fun a h => absurd h (fun z => z), fun a h => h.elim⟩, RepL.one (rep_lst (fun z => z) hS (rep_ints ns)), h, fun v _ _ _ _ _ r => r.blI⟩
end
end D
namespace L2
open PySem PySem.Spec PyProof.Rows
section
variable {prog : Program} {w : World} {A : Around} {E : Value → Shared → Prop} {s : Shared}
theorem zt_item {p q : Addr} {n : Nat} {xs : Array Value} {v : Value} {Q : Value → Shared → Prop} (a1 : s.heap.IsTupleIter p q n) (a2 : s.heap.IsTuple q xs) (a3 : xs[n]? = some v)
    (k : ∀ g, g.IsTupleIter p q (n + 1) → Heap.SameBut p s.heap g → Q v { s with heap := g }) : wpAny (model prog w) A (Builtin.SmallTypes.nextOf (.ref p)) Q E s := by
  obtain ⟨ob, b1, b2, b3⟩ := id a1
  obtain ⟨oq, b4, _, m, b5⟩ := a2
  unfold Builtin.SmallTypes.nextOf
  refine wpAny_bind (wpAny_callSpecial?_slot (name := Str.ofString "__next__") a1.typeIs F.slot_tuple_iterator_next (wpAny_call_entry F.slot_tuple_iterator_next a1.typeIs F.entry_tuple_iterator_next ?_ (F.args_tuple_iterator_next_1 _)))
  show wpAny _ _ (field (.ref p) 0 >>= _) _ _ s
  refine wpAny_bind (wpAny_field b1 b3 (x := .ref q) rfl ?_)
  show wpAny _ _ (if (Value.ref q == Value.none) = true then _ else _) _ _ s
  rw [if_neg (show ¬ ((Value.ref q == Value.none) = true) from Bool.false_ne_true)]
  show wpAny _ _ (field (.ref p) 1 >>= _) _ _ s
  refine wpAny_bind (wpAny_field b1 b3 (x := .int n 0) rfl ?_)
  show wpAny _ _ (seqItems? (.ref q) >>= _) _ _ s
  refine wpAny_bind (wpAny_seqItems b4 b5 ?_)
  simp only [Int.toNat_natCast, a3]
  refine wpAny_bind (wpAny_setField b1 b3 (by simp) (wpAny_pure ⟨v, rfl, wpAny_pure (k _ ?_ (Heap.SameBut.update ..))⟩))
  exact ⟨_, Heap.get?_update_self _ b1 (Obj.isFreed_of_fields (Obj.data_mapFields b3 _)), (Obj.cls_mapFields ..).trans b2, by rw [Obj.data_mapFields b3]; simp [rawInt]⟩
theorem zt_end {p q : Addr} {n : Nat} {xs : Array Value} {Q : Value → Shared → Prop} (hh : A.handled = none) (a1 : s.heap.IsTupleIter p q n) (a2 : s.heap.IsTuple q xs) (a3 : xs[n]? = none)
    (k : ∀ g x, Heap.ExtBut p s.heap g → (∃ o, g.get? x = some o ∧ o.cls = .type "StopIteration") → E (.ref x) { s with heap := g }) : wpAny (model prog w) A (Builtin.SmallTypes.nextOf (.ref p)) Q E s := by
  obtain ⟨ob, b1, b2, b3⟩ := id a1
  obtain ⟨oq, b4, _, m, b5⟩ := a2
  unfold Builtin.SmallTypes.nextOf
  refine wpAny_bind (wpAny_callSpecial?_slot (name := Str.ofString "__next__") a1.typeIs F.slot_tuple_iterator_next (wpAny_call_entry F.slot_tuple_iterator_next a1.typeIs F.entry_tuple_iterator_next ?_ (F.args_tuple_iterator_next_1 _)))
  show wpAny _ _ (field (.ref p) 0 >>= _) _ _ s
  refine wpAny_bind (wpAny_field b1 b3 (x := .ref q) rfl ?_)
  show wpAny _ _ (if (Value.ref q == Value.none) = true then _ else _) _ _ s
  rw [if_neg (show ¬ ((Value.ref q == Value.none) = true) from Bool.false_ne_true)]
  show wpAny _ _ (field (.ref p) 1 >>= _) _ _ s
  refine wpAny_bind (wpAny_field b1 b3 (x := .int n 0) rfl ?_)
  show wpAny _ _ (seqItems? (.ref q) >>= _) _ _ s
  refine wpAny_bind (wpAny_seqItems b4 b5 ?_)
  simp only [Int.toNat_natCast, a3]
  refine wpAny_bind (wpAny_rule (wpAny_bind (wpAny_setField b1 b3 (by simp) ?_)))
  show wpAny _ _ (newExc (.type "StopIteration") [] >>= _) _ _ _
  refine wpAny_bind ?_
  simp only [newExc, newTuple]
  refine wpAny_bind (wpAny_newObj_type ?_ (by size_fits))
  refine wpAny_bind (m := firstArgMember _ _) (wpAny_of_eq (a := Value.none) (by first | rfl | (simp only [firstArgMember]; rfl)) ?_)
  refine wpAny_newObj_type ?_ (by size_fits)
  simp only [raiseNew]
  refine wpAny_bind (wpAny_handled ?_)
  first | rw [show A.in1.handled = none from hh] | rw [hh]
  refine wpAny_bind (wpAny_pure (wpAny_throw ?_))
  exact k _ _ (((Heap.SameBut.update ..).extBut.push _).push _) ⟨_, Heap.get?_push_size _ rfl, rfl⟩
structure ZA (z p o i j a b : Addr) : Prop where
  pz : p ≠ z
  oz : o ≠ z
  iz : i ≠ z
  jz : j ≠ z
  po : p ≠ o
  pi : p ≠ i
  pj : p ≠ j
  oi : o ≠ i
  oj : o ≠ j
  ij : i ≠ j
  az : a ≠ z
  ao : a ≠ o
  ai : a ≠ i
  aj : a ≠ j
  bz : b ≠ z
  bo : b ≠ o
  bi : b ≠ i
  bj : b ≠ j
structure ZS (h : Heap) (z p o i j a b : Addr) (n : Nat) (f : Value) : Prop where
  zz : IsZip h z p o f
  pp : IsPair h p (.ref i) (.ref j)
  oo : ∃ x y, IsPair h o x y
  ii : h.IsTupleIter i a n
  jj : h.IsTupleIter j b n
theorem zt_next {z p o i j a b : Addr} {n : Nat} {xs ys : Array Value} {x y : Value} {Q : Value → Shared → Prop} (D : ZA z p o i j a b) (S : ZS s.heap z p o i j a b n .none) (ha : s.heap.IsTuple a xs) (hb : s.heap.IsTuple b ys) (hx : xs[n]? = some x) (hy : ys[n]? = some y)
    (k : ∀ g, ZS g z p o i j a b (n + 1) (rawInt s.heap.objs.size) → IsPair g s.heap.objs.size x y → g.objs.size = s.heap.objs.size + 1 → (∀ c u, c ≠ z → c ≠ o → c ≠ i → c ≠ j → s.heap.get? c = some u → g.get? c = some u) → Q (.ref s.heap.objs.size) { s with heap := g }) :
    wpAny (model prog w) A (Builtin.«zip.__next__» ⟨[.ref z], []⟩) (fun fin s' => ∃ v, fin = .done (.ret v) ∧ Q v s') E s := by
  obtain ⟨zz, pp, ⟨u1, u2, oo⟩, ii, jj⟩ := S
  show wpAny _ _ (field (.ref z) 2 >>= _) _ _ _
  refine wpAny_bind (wpAny_field zz rfl (x := .bool false) rfl ?_)
  show wpAny _ _ (field (.ref z) 3 >>= _) _ _ _
  refine wpAny_bind (wpAny_field zz rfl (x := .ref p) rfl ?_)
  refine wpAny_bind (wpAny_seqItems pp rfl ?_)
  show wpAny _ _ (Builtin.SmallTypes.ownedTupleIsFree (.ref z) >>= _) _ _ _
  refine wpAny_bind ?_
  unfold Builtin.SmallTypes.ownedTupleIsFree
  refine wpAny_bind (wpAny_field zz rfl (x := .none) rfl (wpAny_pure ?_))
  simp only [if_true]
  refine wpAny_bind (wpAny_rule ?_)
  refine wpAny_bind (wpAny_field zz rfl (x := .ref o) rfl ?_)
  refine wpAny_bind (wpAny_setField_rec zz (by simp) fun g1 z1 k1 => ?_)
  replace z1 : IsZip g1 z p o .ellipsis := z1
  refine wpAny_bind ?_
  simp only [List.zipIdx_cons, List.zipIdx_nil, List.forIn_cons, List.forIn_nil]
  refine wpAny_bind (wpAny_bind (wpAny_onRaise ?_))
  show wpAny _ _ (Builtin.SmallTypes.nextOf (.ref i) >>= _) _ _ _
  have ht : ∀ {g g' : Heap} {q c : Addr} {vs : Array Value}, Heap.SameBut q g g' → c ≠ q → g.IsTuple c vs → g'.IsTuple c vs := fun {g g' q c vs} sb hc ⟨ob, e, r⟩ => ⟨ob, sb.extBut _ _ hc e, r⟩
  refine wpAny_bind (zt_item (ii.extBut k1.extBut D.iz) (ht k1 D.az ha) hx fun g2 i2 k2 => wpAny_pure ?_)
  have o2 : IsPair g2 o u1 u2 := k2.extBut _ _ D.oi (k1.extBut _ _ D.oz oo)
  refine wpAny_bind (wpAny_seqItems o2 rfl ?_)
  refine wpAny_bind (wpAny_updateSeq_pair o2 fun g3 o3 k3 => ?_)
  replace o3 : IsPair g3 o x u2 := o3
  refine wpAny_bind (wpAny_letGo (wpAny_pure ?_))
  refine wpAny_bind (wpAny_bind (wpAny_onRaise ?_))
  show wpAny _ _ (Builtin.SmallTypes.nextOf (.ref j) >>= _) _ _ _
  refine wpAny_bind (zt_item (((jj.extBut k1.extBut D.jz).extBut k2.extBut D.ij.symm).extBut k3.extBut D.oj.symm) (ht k3 D.bo (ht k2 D.bi (ht k1 D.bz hb))) hy fun g4 j4 k4 => wpAny_pure ?_)
  have o4 : IsPair g4 o x u2 := k4.extBut _ _ D.oj o3
  refine wpAny_bind (wpAny_seqItems o4 rfl ?_)
  refine wpAny_bind (wpAny_updateSeq_pair o4 fun g5 o5 k5 => ?_)
  replace o5 : IsPair g5 o x y := o5
  refine wpAny_bind (wpAny_letGo (wpAny_pure (wpAny_pure ?_)))
  refine wpAny_bind (wpAny_seqItems o5 rfl ?_)
  refine wpAny_bind (wpAny_newTuple ?_)
  have sz : g5.objs.size = s.heap.objs.size := by rw [k5.1, k4.1, k3.1, k2.1, k1.1]
  have z5 : IsZip g5 z p o .ellipsis := k5.extBut _ _ D.oz.symm (k4.extBut _ _ D.jz.symm (k3.extBut _ _ D.oz.symm (k2.extBut _ _ D.iz.symm z1)))
  have kk : ∀ c u, c ≠ z → c ≠ o → c ≠ i → c ≠ j → s.heap.get? c = some u → g5.get? c = some u := fun c u c1 c2 c3 c4 e => k5.extBut _ _ c2 (k4.extBut _ _ c4 (k3.extBut _ _ c2 (k2.extBut _ _ c3 (k1.extBut _ _ c1 e))))
  have i5 : g5.IsTupleIter i a (n + 1) := ((i2.extBut k3.extBut D.oi.symm).extBut k4.extBut D.ij).extBut k5.extBut D.oi.symm
  have j5 : g5.IsTupleIter j b (n + 1) := j4.extBut k5.extBut D.oj.symm
  have zl : z < g5.objs.size := Heap.lt_size z5
  show wpAny _ _ (Builtin.SmallTypes.ownedTupleHandOut (.ref z) (.ref g5.objs.size) >>= _) _ _ _
  refine wpAny_bind ?_
  unfold Builtin.SmallTypes.ownedTupleHandOut
  have z6 : IsZip (g5.push { cls := .type "tuple", data := .seq #[x, y] }) z p o .ellipsis := Heap.get?_push_of_some _ z5
  refine wpAny_bind (wpAny_setField_rec z6 (by simp) fun g7 z7 k7 => ?_)
  replace z7 : IsZip g7 z p o (rawInt g5.objs.size) := z7
  refine wpAny_setField_rec z7 (by simp) fun g8 z8 k8 => ?_
  replace z8 : IsZip g8 z p o (rawInt g5.objs.size) := z8
  have up : ∀ c u, c ≠ z → g5.get? c = some u → g8.get? c = some u := fun c u c1 e => k8.extBut _ _ c1 (k7.extBut _ _ c1 (Heap.get?_push_of_some _ e))
  have t8 : IsPair g8 g5.objs.size x y := k8.extBut _ _ (Nat.ne_of_gt zl) (k7.extBut _ _ (Nat.ne_of_gt zl) (Heap.get?_push_size _ rfl))
  have s8 : g8.objs.size = g5.objs.size + 1 := by rw [k8.1, k7.1, Heap.size_push]
  rw [sz] at z8 t8 s8
  refine wpAny_pure ⟨_, rfl, ?_⟩
  show Q (.ref g5.objs.size) _
  rw [sz]
  exact k g8 ⟨z8, up _ _ D.pz (kk _ _ D.pz D.po D.pi D.pj pp), ⟨x, y, up _ _ D.oz o5⟩, i5.at fun u e => up _ u D.iz e, j5.at fun u e => up _ u D.jz e⟩ t8 s8 fun c u c1 c2 c3 c4 e => up c u c1 (kk c u c1 c2 c3 c4 e)
theorem zt_stop {z p o i j a b : Addr} {n : Nat} {xs ys : Array Value} {Q : PySem.Fin → Shared → Prop} (hh : A.handled = none) (D : ZA z p o i j a b) (S : ZS s.heap z p o i j a b n .none) (ha : s.heap.IsTuple a xs) (hb : s.heap.IsTuple b ys) (he : xs[n]? = none ∨ ys[n]? = none)
    (k : ∀ g x, (∀ c u, c ≠ z → c ≠ o → c ≠ i → c ≠ j → s.heap.get? c = some u → g.get? c = some u) → (∃ u, g.get? x = some u ∧ u.cls = .type "StopIteration") → E (.ref x) { s with heap := g }) :
    wpAny (model prog w) A (Builtin.«zip.__next__» ⟨[.ref z], []⟩) Q E s := by
  obtain ⟨zz, pp, ⟨u1, u2, oo⟩, ii, jj⟩ := S
  have ht : ∀ {g g' : Heap} {q c : Addr} {vs : Array Value}, Heap.SameBut q g g' → c ≠ q → g.IsTuple c vs → g'.IsTuple c vs := fun {g g' q c vs} sb hc ⟨ob, e, r⟩ => ⟨ob, sb.extBut _ _ hc e, r⟩
  show wpAny _ _ (field (.ref z) 2 >>= _) _ _ _
  refine wpAny_bind (wpAny_field zz rfl (x := .bool false) rfl ?_)
  show wpAny _ _ (field (.ref z) 3 >>= _) _ _ _
  refine wpAny_bind (wpAny_field zz rfl (x := .ref p) rfl ?_)
  refine wpAny_bind (wpAny_seqItems pp rfl ?_)
  show wpAny _ _ (Builtin.SmallTypes.ownedTupleIsFree (.ref z) >>= _) _ _ _
  refine wpAny_bind ?_
  unfold Builtin.SmallTypes.ownedTupleIsFree
  refine wpAny_bind (wpAny_field zz rfl (x := .none) rfl (wpAny_pure ?_))
  simp only [if_true]
  refine wpAny_bind (wpAny_rule ?_)
  refine wpAny_bind (wpAny_field zz rfl (x := .ref o) rfl ?_)
  refine wpAny_bind (wpAny_setField_rec zz (by simp) fun g1 z1 k1 => ?_)
  replace z1 : IsZip g1 z p o .ellipsis := z1
  refine wpAny_bind ?_
  simp only [List.zipIdx_cons, List.zipIdx_nil, List.forIn_cons, List.forIn_nil]
  refine wpAny_bind (wpAny_bind (wpAny_onRaise ?_))
  show wpAny _ _ (Builtin.SmallTypes.nextOf (.ref i) >>= _) _ _ _
  cases hx : xs[n]? with
  | none =>
    refine wpAny_bind (zt_end hh (ii.extBut k1.extBut D.iz) (ht k1 D.az ha) hx fun g2 x k2 h2 => ?_)
    obtain ⟨oe, h3, h4⟩ := h2
    have z2 : IsZip g2 z p o .ellipsis := k2 _ _ D.iz.symm z1
    have xz : x ≠ z := fun q => by subst q; rw [z2] at h3; cases h3; simp at h4
    exact wpAny_setField_rec z2 (by simp) fun g3 _ k3 => k g3 x (fun c u c1 _ c3 _ e => k3.extBut _ _ c1 (k2 _ _ c3 (k1.extBut _ _ c1 e))) ⟨oe, k3.extBut _ _ xz h3, h4⟩
  | some x0 =>
    have hy : ys[n]? = none := by rcases he with h | h; rw [hx] at h; cases h; exact h
    refine wpAny_bind (zt_item (ii.extBut k1.extBut D.iz) (ht k1 D.az ha) hx fun g2 i2 k2 => wpAny_pure ?_)
    have o2 : IsPair g2 o u1 u2 := k2.extBut _ _ D.oi (k1.extBut _ _ D.oz oo)
    refine wpAny_bind (wpAny_seqItems o2 rfl ?_)
    refine wpAny_bind (wpAny_updateSeq_pair o2 fun g3 o3 k3 => ?_)
    refine wpAny_bind (wpAny_letGo (wpAny_pure ?_))
    refine wpAny_bind (wpAny_bind (wpAny_onRaise ?_))
    show wpAny _ _ (Builtin.SmallTypes.nextOf (.ref j) >>= _) _ _ _
    refine wpAny_bind (zt_end hh (((jj.extBut k1.extBut D.jz).extBut k2.extBut D.ij.symm).extBut k3.extBut D.oj.symm) (ht k3 D.bo (ht k2 D.bi (ht k1 D.bz hb))) hy fun g4 x k4 h2 => ?_)
    obtain ⟨oe, h3, h4⟩ := h2
    have z4 : IsZip g4 z p o .ellipsis := k4 _ _ D.jz.symm (k3.extBut _ _ D.oz.symm (k2.extBut _ _ D.iz.symm z1))
    have xz : x ≠ z := fun q => by subst q; rw [z4] at h3; cases h3; simp at h4
    exact wpAny_setField_rec z4 (by simp) fun g5 _ k5 => k g5 x (fun c u c1 c2 c3 c4 e => k5.extBut _ _ c1 (k4 _ _ c4 (k3.extBut _ _ c2 (k2.extBut _ _ c3 (k1.extBut _ _ c1 e))))) ⟨oe, k5.extBut _ _ xz h3, h4⟩
end
end L2
namespace L2
open PySem PySem.Spec PyProof.Rows
section
variable {X : Cx} {pins : List (Addr × Obj)} {σ : L2.St} {H : Hp} {s : Shared} {h' : Heap}
theorem Inv.turnL {t' : Nat} {fp : List Addr} (I : Inv X pins σ H s) (hf : ∀ b ∈ fp, FpOk X pins H b) (k : ∀ b o, b ∉ fp → s.heap.get? b = some o → h'.get? b = some o) : Inv X pins σ H { s with heap := h', toks := t' } := by
  refine I.step (g' := s.gens) (d' := s.drawn) (ch := fp) (fun b hb => ⟨(hf b hb).2.2.2.1, (hf b hb).2.1, (hf b hb).2.2.2.2.1, (hf b hb).2.2.2.2.2⟩) (fun b o _ _ hc e _ => k b o hc e) (fun b o _ _ hc e _ => ⟨o.slots, k b o hc e⟩) (fun _ _ _ _ n => n)
    (fun b o hc e => ⟨o, k b o hc e⟩) (fun _ _ e => e) (fun _ _ _ e => e) (fun b ps e => ⟨#[], by rw [e]; simp⟩) (fun m hm => ?_) (fun b u e => ?_) I.bare
  · obtain ⟨o, es, ep, ho, r⟩ := hm
    exact ⟨o, es, ep, k _ o (fun z => (hf _ z).2.1 rfl) ho, r⟩
  · have nf : ∀ c u, H c = some u → c ∉ fp := fun c u q z => by rw [(hf c z).1] at q; cases q
    refine (I.hok b u e).stay (fun c v hc q => k c v ?_ q) (fun _ q => q) fun _ _ q => q
    rcases hc with z | z
    · rw [z]; exact nf b u e
    · exact nf c _ z
theorem Inv.turnNew {t' : Nat} {fp : List Addr} {vs : List V} {us : List Value} (I : Inv X pins σ H s) (hf : ∀ b ∈ fp, FpOk X pins H b) (k : ∀ b o, b ∉ fp → s.heap.get? b = some o → h'.get? b = some o)
    (hv : Vals vs us) (hz : vs.length ≤ sizeLine) (hT : IsTup h' s.heap.objs.size us.toArray) : Inv X pins σ (upd H s.heap.objs.size (.tup vs)) { s with heap := h', toks := t' } := by
  have hn : H s.heap.objs.size = none := I.hok.fresh (Nat.le_refl _)
  refine I.step (g' := s.gens) (d' := s.drawn) (ch := fp) (fun b hb => ⟨(hf b hb).2.2.2.1, (hf b hb).2.1, (hf b hb).2.2.2.2.1, (hf b hb).2.2.2.2.2⟩) (fun b o _ _ hc e _ => k b o hc e) (fun b o _ _ hc e _ => ⟨o.slots, k b o hc e⟩)
    (fun b o _ e n => by rw [upd_ne (Nat.ne_of_lt (Heap.lt_size e))]; exact n) (fun b o hc e => ⟨o, k b o hc e⟩) (fun b xs e => by rw [upd_ne (ne_of_none e hn)]; exact e) (fun b o u e => by rw [upd_ne (ne_of_none e hn)]; exact e) (fun b ps e => ⟨#[], by rw [upd_ne (ne_of_none e hn), e]; simp⟩) (fun m hm => ?_) (fun b u e => ?_) I.bare
  · obtain ⟨o, es, ep, ho, r⟩ := hm
    exact ⟨o, es, ep, k _ o (fun z => (hf _ z).2.1 rfl) ho, r⟩
  · by_cases hb : b = s.heap.objs.size
    · subst hb
      rw [upd_same] at e; cases e
      exact ⟨hz, us, hv, hT⟩
    · rw [upd_ne hb] at e
      have nf : ∀ c u, H c = some u → c ∉ fp := fun c u q z => by rw [(hf c z).1] at q; cases q
      refine (I.hok b u e).stay (fun c v hc q => k c v ?_ q) (fun c q => by rw [upd_ne (ne_of_none q hn)]; exact q) fun c xs q => by rw [upd_ne (ne_of_none q hn)]; exact q
      rcases hc with z | z
      · rw [z]; exact nf b u e
      · exact nf c _ z
end
def Itz (K : PySem.W.Frag) (a b : Addr) : It :=
  ⟨fun i H => ∃ xs ys x y, SqT K H a xs ∧ SqT K H b ys ∧ xs[i]? = some x ∧ ys[i]? = some y,
   fun i H v H' => ∃ p x y, H p = none ∧ (∀ xs, SqT K H a xs → xs[i]? = some x) ∧ (∀ ys, SqT K H b ys → ys[i]? = some y) ∧ v = .ref p ∧ H' = upd H p (.tup [x, y]),
   fun i H => ∃ xs ys, SqT K H a xs ∧ SqT K H b ys ∧ (xs.length ≤ i ∨ ys.length ≤ i)⟩
theorem ZS.at {h h' : Heap} {z p o i j a b : Addr} {n : Nat} {f : Value} (S : ZS h z p o i j a b n f) (k : ∀ c ∈ [z, p, o, i, j], ∀ u, h.get? c = some u → h'.get? c = some u) : ZS h' z p o i j a b n f := by
  obtain ⟨zz, pp, ⟨u1, u2, oo⟩, ii, jj⟩ := S
  exact ⟨k z (by simp) _ zz, k p (by simp) _ pp, ⟨u1, u2, k o (by simp) _ oo⟩, ii.at fun u e => k i (by simp) u e, jj.at fun u e => k j (by simp) u e⟩
theorem turn_zip {P : Program} {w : World} {K : PySem.W.Frag} {elts : List Expr} {kt : Nat} {pos : Pos} {z p o i j a b : Addr} (D : ZA z p o i j a b) : Turn P w K (.Tuple elts kt pos) (Itz K a b) [z, p, o, i, j] z (fun n h => ZS h z p o i j a b n .none) where
  mem := by simp
  obj := fun n h S c hc => by
    obtain ⟨zz, pp, ⟨u1, u2, oo⟩, ⟨oi, ei, ci, di⟩, ⟨oj, ej, cj, dj⟩⟩ := S
    simp only [List.mem_cons, List.not_mem_nil, or_false] at hc
    rcases hc with rfl | rfl | rfl | rfl | rfl
    · exact ⟨_, zz, fun v q => by have q' : Data.fields _ = Data.cell v := q; cases q'⟩
    · exact ⟨_, pp, fun v q => by have q' : Data.seq _ _ = Data.cell v := q; cases q'⟩
    · exact ⟨_, oo, fun v q => by have q' : Data.seq _ _ = Data.cell v := q; cases q'⟩
    · exact ⟨oi, ei, fun v q => by rw [di] at q; cases q⟩
    · exact ⟨oj, ej, fun v q => by rw [dj] at q; cases q⟩
  keep := fun n h h' S k => S.at k
  item := by
    intro X hP hw hK hc n pins s σ H E I hf S hg
    subst hP hw hK
    obtain ⟨xs, ys, x, y, qa, qb, hx, hy⟩ := hg
    obtain ⟨ia, ra, pa, _⟩ := I.tuple qa
    obtain ⟨ib, rb, pb, _⟩ := I.tuple qb
    obtain ⟨u, hu, ru⟩ := ra.get hx
    obtain ⟨v, hv, rv⟩ := rb.get hy
    have hT : s.TypeIs (.ref z) "zip" := ⟨_, S.zz, rfl⟩
    unfold pyNext
    refine wpAny_bind (wpAny_attempt (wpAny_callSpecial?_slot (name := Str.ofString "__next__") hT F.slot_zip_next (wpAny_call_entry F.slot_zip_next hT F.entry_zip_next
      (zt_next D S (show s.heap.IsTuple a ia.toArray from pa) (show s.heap.IsTuple b ib.toArray from pb) (by simpa using hu) (by simpa using hv) fun g S' tp sz kp => wpAny_pure ?_) (F.args_zip_next_1 _))))
    refine ⟨_, rfl, wpAny_letOwnedTupleGo_zip S'.zz fun g' z' sb => ?_⟩
    have kp' : ∀ c q, c ∉ [z, p, o, i, j] → s.heap.get? c = some q → g'.get? c = some q := fun c q hc e => by
      simp only [List.mem_cons, List.not_mem_nil, or_false, not_or] at hc
      exact sb.extBut _ _ hc.1 (kp c q hc.1 hc.2.2.1 hc.2.2.2.1 hc.2.2.2.2 e)
    have zl : z < s.heap.objs.size := Heap.lt_size S.zz
    have tp' : IsPair g' s.heap.objs.size u v := sb.extBut _ _ (Nat.ne_of_gt zl) tp
    have ne : ∀ c ∈ [z, p, o, i, j], c ≠ s.heap.objs.size := fun c hc e => by
      have q := (hf c hc)
      obtain ⟨zz, pp, ⟨u1, u2, oo⟩, ⟨oi, ei, _⟩, ⟨oj, ej, _⟩⟩ := S
      simp only [List.mem_cons, List.not_mem_nil, or_false] at hc
      rcases hc with rfl | rfl | rfl | rfl | rfl
      · exact Nat.ne_of_lt (Heap.lt_size zz) e
      · exact Nat.ne_of_lt (Heap.lt_size pp) e
      · exact Nat.ne_of_lt (Heap.lt_size oo) e
      · exact Nat.ne_of_lt (Heap.lt_size ei) e
      · exact Nat.ne_of_lt (Heap.lt_size ej) e
    refine ⟨.ref s.heap.objs.size, upd H s.heap.objs.size (.tup [x, y]), I.turnNew (t' := s.toks) hf kp' (us := [u, v]) (.cons ru (.cons rv .nil)) (show 2 ≤ sizeLine by decide) ⟨_, tp', rfl, _, rfl⟩, rfl,
      ⟨_, x, y, I.hok.fresh (Nat.le_refl _), fun xs' h => by rw [I.tuple_inj h qa]; exact hx, fun ys' h => by rw [I.tuple_inj h qb]; exact hy, rfl, rfl⟩, ?_, fun c hc => ?_⟩
    · obtain ⟨_, pp, ⟨u1, u2, oo⟩, ii, jj⟩ := S'
      exact ⟨z', sb.extBut _ _ D.pz pp, ⟨u1, u2, sb.extBut _ _ D.oz oo⟩, ii.extBut sb.extBut D.iz, jj.extBut sb.extBut D.jz⟩
    · rw [upd_ne (ne c hc)]; exact (hf c hc).1
  done := by
    intro X hP hw hK hc n pins s σ H E I hf S hg
    subst hP hw hK
    obtain ⟨xs, ys, qa, qb, hs⟩ := hg
    obtain ⟨ia, ra, pa, _⟩ := I.tuple qa
    obtain ⟨ib, rb, pb, _⟩ := I.tuple qb
    have l1 := ra.length
    have l2 := rb.length
    have hT : s.TypeIs (.ref z) "zip" := ⟨_, S.zz, rfl⟩
    unfold pyNext
    refine wpAny_bind (wpAny_attempt (wpAny_callSpecial?_slot (name := Str.ofString "__next__") hT F.slot_zip_next (wpAny_call_entry F.slot_zip_next hT F.entry_zip_next
      (zt_stop (I.ok.hd hc) D S (show s.heap.IsTuple a ia.toArray from pa) (show s.heap.IsTuple b ib.toArray from pb) (by rcases hs with q | q; exact .inl (by simp; omega); exact .inr (by simp; omega)) fun g x kp hx => ?_) (F.args_zip_next_1 _))))
    obtain ⟨ox, h1, h2⟩ := hx
    refine wpAny_bind (wpAny_isInstance (T := "StopIteration") (b := true) ⟨ox, h1, h2⟩ isSubtype_stop ?_)
    refine wpAny_pure ⟨rfl, I.turnL (t' := s.toks) hf fun c q hc e => ?_⟩
    simp only [List.mem_cons, List.not_mem_nil, or_false, not_or] at hc
    exact kp c q hc.1 hc.2.2.1 hc.2.2.2.1 hc.2.2.2.2 e
  self := fun _ _ _ _ _ S h => wpAny_pyIter_zip S.zz h
abbrev zt1 (h : Heap) (a : Addr) : Heap := h.push { cls := .type "tuple_iterator", data := .fields #[.ref a, .int 0 0] }
abbrev zt2 (h : Heap) (a b : Addr) : Heap := (zt1 h a).push { cls := .type "tuple_iterator", data := .fields #[.ref b, .int 0 0] }
abbrev zt3 (h : Heap) (a b : Addr) : Heap := (zt2 h a b).push { cls := .type "tuple", data := .seq #[.ref h.objs.size, .ref (zt1 h a).objs.size] }
abbrev zt4 (h : Heap) (a b : Addr) : Heap := (zt3 h a b).push { cls := .type "tuple", data := .seq #[.none, .none] }
abbrev zt5 (h : Heap) (a b : Addr) : Heap := (zt4 h a b).push { cls := .type "zip", data := .fields #[.none, .bool false, .bool false, .ref (zt2 h a b).objs.size, .ref (zt3 h a b).objs.size] }
theorem zt_made (a b : Addr) (xs ys : Array Value) : Meets (Builtin.«zip.__new__» ⟨[.type "zip", .ref a, .ref b], []⟩) (fun _ R s => s.heap.IsTuple a xs ∧ s.heap.IsTuple b ys ∧ R (.ok (.ret (.ref (zt4 s.heap a b).objs.size))) { s with heap := zt5 s.heap a b }) :=
  .of_wp fun prog w A R s h => by
    obtain ⟨hp, g, d, tk, os⟩ := s; obtain ⟨q1, q2, h⟩ := h
    have hsub := sub_zip
    have t1 : Heap.IsTuple (Shared.heap ⟨hp, g, d, tk, os⟩) a xs := q1
    have t2 : Heap.IsTuple (Shared.heap ⟨hp.push { cls := .type "tuple_iterator", data := .fields #[.ref a, .int 0 0] }, g, d, tk, os⟩) b ys := let ⟨ob, e, r⟩ := q2; ⟨ob, Heap.get?_push_of_some _ e, r⟩
    wp_walk using wpAny_pyIter_tuple t1, wpAny_pyIter_tuple t2
    exact ⟨_, rfl, h⟩
section
variable {X : Cx} {elts : List Expr} {kt : Nat} {p2 : Pos}
def iZipT (K : PySem.W.Frag) (ta : TA) : TI := fun σ H R => ta σ H fun vs H1 => ∃ a b xs ys, vs = [.ref a, .ref b] ∧ SqT K H1 a xs ∧ SqT K H1 b ys ∧ R (Itz K a b) H1
theorem zip_it {pins : List (Addr × Obj)} {σ : L2.St} {H : Hp} {s : Shared} {R : It → Hp → Prop} {E : Value → Shared → Prop} {a b : Addr} {xs ys : List V} (I : Inv X pins σ H s) (qa : SqT X.K H a xs) (qb : SqT X.K H b ys) (q : R (Itz X.K a b) H) :
    wpAny (model X.prog X.w) X.A (call (.type "zip") [.ref a, .ref b]) (fun v s1 => wpAny (model X.prog X.w) X.A (pyIter v) (PIE X pins σ (.Tuple elts kt p2) R) E s1) E s := by
  obtain ⟨ia, ra, pa, _⟩ := I.tuple qa
  obtain ⟨ib, rb, pb, _⟩ := I.tuple qb
  refine callType_new F.called_zip (by decide) (F.typeCall_zip_2 _ _) (F.newCall_zip_2 _ _) (fun obj => F.args_object_init_3 obj _ _) F.entry_zip_new (zt_made a b ia.toArray ib.toArray) ⟨show s.heap.IsTuple a ia.toArray from pa, show s.heap.IsTuple b ib.toArray from pb, ?_⟩
  have z1 : (zt1 s.heap a).objs.size = s.heap.objs.size + 1 := Heap.size_push ..
  have z2 : (zt2 s.heap a b).objs.size = s.heap.objs.size + 2 := by rw [Heap.size_push, z1]
  have z3 : (zt3 s.heap a b).objs.size = s.heap.objs.size + 3 := by rw [Heap.size_push, z2]
  have z4 : (zt4 s.heap a b).objs.size = s.heap.objs.size + 4 := by rw [Heap.size_push, z3]
  have g5 : (zt5 s.heap a b).get? (zt4 s.heap a b).objs.size = some _ := Heap.get?_push_size _ rfl
  have g4 : (zt5 s.heap a b).get? (zt3 s.heap a b).objs.size = some _ := Heap.get?_push_of_some _ (Heap.get?_push_size _ rfl)
  have g3 : (zt5 s.heap a b).get? (zt2 s.heap a b).objs.size = some _ := Heap.get?_push_of_some _ (Heap.get?_push_of_some _ (Heap.get?_push_size _ rfl))
  have g2 : (zt5 s.heap a b).get? (zt1 s.heap a).objs.size = some _ := Heap.get?_push_of_some _ (Heap.get?_push_of_some _ (Heap.get?_push_of_some _ (Heap.get?_push_size _ rfl)))
  have g1 : (zt5 s.heap a b).get? s.heap.objs.size = some _ := Heap.get?_push_of_some _ (Heap.get?_push_of_some _ (Heap.get?_push_of_some _ (Heap.get?_push_of_some _ (Heap.get?_push_size _ rfl))))
  show _ ∧ _
  have kp : ∀ c o, s.heap.get? c = some o → (zt5 s.heap a b).get? c = some o := fun c o e => Heap.get?_push_of_some _ (Heap.get?_push_of_some _ (Heap.get?_push_of_some _ (Heap.get?_push_of_some _ (Heap.get?_push_of_some _ e))))
  refine ⟨⟨_, g5, rfl⟩, ?_⟩
  rw [z2, z3, z4] at g5
  rw [z1, z2] at g3
  rw [z3] at g4
  rw [z1] at g2
  rw [z4]
  have la : a < s.heap.objs.size := by obtain ⟨o, e, _⟩ := pa; exact Heap.lt_size e
  have lb : b < s.heap.objs.size := by obtain ⟨o, e, _⟩ := pb; exact Heap.lt_size e
  have D : ZA (s.heap.objs.size + 4) (s.heap.objs.size + 2) (s.heap.objs.size + 3) s.heap.objs.size (s.heap.objs.size + 1) a b := by constructor <;> first | exact Nat.ne_of_lt la | exact Nat.ne_of_lt lb | exact Nat.ne_of_lt (Nat.lt_of_lt_of_le la (Nat.le_add_right _ _)) | exact Nat.ne_of_lt (Nat.lt_of_lt_of_le lb (Nat.le_add_right _ _)) | exact Nat.ne_of_lt (by omega) | exact Nat.ne_of_gt (by omega)
  have I1 : Inv X pins σ H { s with heap := zt5 s.heap a b } := I.kept (t' := s.toks) kp
  have S : ZS (zt5 s.heap a b) (s.heap.objs.size + 4) (s.heap.objs.size + 2) (s.heap.objs.size + 3) s.heap.objs.size (s.heap.objs.size + 1) a b 0 .none := ⟨g5, g3, ⟨_, _, g4⟩, ⟨_, g1, rfl, rfl⟩, ⟨_, g2, rfl, rfl⟩⟩
  refine wpAny_pyIter_zip (s := { s with heap := zt5 s.heap a b }) S.zz ⟨_, [s.heap.objs.size + 4, s.heap.objs.size + 2, s.heap.objs.size + 3, s.heap.objs.size, s.heap.objs.size + 1], _, Itz X.K a b, H, rfl, I1, turn_zip D, S, fun c hc => ?_, q⟩
  have hc' : s.heap.objs.size ≤ c := by
    simp only [List.mem_cons, List.not_mem_nil, or_false] at hc
    rcases hc with rfl | rfl | rfl | rfl | rfl <;> first | exact Nat.le_refl _ | exact Nat.le_add_right _ _
  exact I.fpOk hc' (I.hok.fresh hc')
theorem pi_zip {x y : Expr} {ta : TA} {p pos : Pos} (hg : Gl X "zip") (hm : X.mg "zip" = none) (ha : PA X [x, y] ta) (hs : starEach [x, y] X.env = [(false, eval x X.env), (false, eval y X.env)] := by rfl) (hs2 : starEach [y] X.env = [(false, eval y X.env)] := by rfl) :
    PI X (.Tuple elts kt p2) (.Call (.Name "zip" p) [x, y] [] pos) (iZipT X.K ta) := by
  intro pins s σ H R I h
  refine Call_ (ld_blt I hg hm boot_zip (PyProof.Rows.callWith_type1 (thn (ha pos pins s σ H _ I h) fun us s1 ⟨vs, H1, I1, r1, q1⟩ => ?_) (by rw [hs, hs2]) (by rw [hs2]; rfl)))
  obtain ⟨a, b, xs, ys, e, qa, qb, q⟩ := q1
  subst e
  cases r1 with
  | cons r rr =>
    cases rr with
    | cons r' rr =>
      cases rr
      cases r
      cases r'
      exact zip_it I1 qa qb q
end
end L2
namespace D
open PySem PySem.Spec PyProof.Rows L2
def zipL : List DV → List DV → List DV
  | x :: xs, y :: ys => .tup [x, y] :: zipL xs ys
  | _, _ => []
theorem zipL_get : ∀ {xs ys : List DV} {i : Nat} {d : DV}, (zipL xs ys)[i]? = some d → ∃ x y, xs[i]? = some x ∧ ys[i]? = some y ∧ d = .tup [x, y]
  | x :: xs, y :: ys, 0, d, h => by simp [zipL] at h; exact ⟨x, y, rfl, rfl, h.symm⟩
  | x :: xs, y :: ys, i + 1, d, h => by
    obtain ⟨a, b, h1, h2, h3⟩ := zipL_get (xs := xs) (ys := ys) (i := i) (by simpa [zipL] using h)
    exact ⟨a, b, by simpa using h1, by simpa using h2, h3⟩
  | [], _, _, _, h => by simp [zipL] at h
  | _ :: _, [], _, _, h => by simp [zipL] at h
theorem zipL_len : ∀ (xs ys : List DV), (zipL xs ys).length = min xs.length ys.length
  | x :: xs, y :: ys => by simp only [zipL, List.length_cons, zipL_len xs ys]; omega
  | [], _ => by simp [zipL]
  | _ :: _, [] => by simp [zipL]
def iZip (f g : DEx) : DIx := fun env => do
  let x ← f env
  let xs ← tupD x
  let y ← g env
  let ys ← tupD y
  pure (zipL xs ys)
theorem it_zip {K : PySem.W.Frag} {ρ : List Addr} {B : Addr → Prop} {H : Hp} {ds es : List DV} {a b : Addr} {xs ys : List V} (na : ¬ B a) (qa : SqT K H a xs) (ra : RepL K ρ B H ds xs) (nb : ¬ B b) (qb : SqT K H b ys) (rb : RepL K ρ B H es ys) : ItOk K ρ B H (zipL ds es) (Itz K a b) := fun ρ1 B1 H1 g r1 t1 => by
  have qa1 := g.sqT na qa
  have qb1 := g.sqT nb qb
  have ra1 := RepL.gs g _ _ ra
  have rb1 := RepL.gs g _ _ rb
  refine ⟨fun i d e => ?_, xs, ys, qa1, qb1, ?_⟩
  · obtain ⟨x, y, h1, h2, rfl⟩ := zipL_get e
    obtain ⟨u, hu, ru⟩ := ra1.get h1
    obtain ⟨v, hv, rv⟩ := rb1.get h2
    refine ⟨⟨xs, ys, u, v, qa1, qb1, hu, hv⟩, fun z H' ⟨p, u', v', hn, h3, h4, e1, e2⟩ => ?_⟩
    subst e1 e2
    have e3 := h3 xs qa1
    have e4 := h4 ys qb1
    rw [hu] at e3; cases e3
    rw [hv] at e4; cases e4
    refine ⟨rep_tup (fun z => t1 p z hn) (SqT.of upd_same) (RepL.gs (upd_gs r1 hn) _ _ (RepL.cons ru (RepL.one rv))), .inr ⟨p, _, hn, rfl⟩⟩
  · rw [zipL_len, ra1.length, rb1.length]
    rcases Nat.le_total xs.length ys.length with q | q
    · exact .inl (by rw [Nat.min_eq_left q]; exact Nat.le_refl _)
    · exact .inr (by rw [Nat.min_eq_right q]; exact Nat.le_refl _)
section
variable {X : Cx} {elts : List Expr} {kt : Nat} {p2 : Pos} {f g : DEx}
theorem di_zip {x y : Expr} {p pos : Pos} (hg : Gl X "zip") (hm : X.mg "zip" = none) (hx : DE X x f) (hy : DE X y g) (hs : starEach [x, y] X.env = [(false, eval x X.env), (false, eval y X.env)] := by rfl) (hs2 : starEach [y] X.env = [(false, eval y X.env)] := by rfl) :
    DI X (.Tuple elts kt p2) (.Call (.Name "zip" p) [x, y] [] pos) (iZip f g) :=
  L2.PI.imp (pi_zip hg hm (pa_cons hx (pa_cons hy pa_nil (by rw [hs2]; rfl)) (by rw [hs, hs2])) hs hs2) fun σ H R ⟨Z, env, ρ, B, hp, ds, hp', S, e, k⟩ => by
    obtain ⟨d1, hp1, e1, e⟩ := bind_some e
    obtain ⟨xs, hp2, e2, e⟩ := bind_some e
    obtain ⟨rfl, rfl⟩ := tupD_some e2
    obtain ⟨d2, hp3, e3, e⟩ := bind_some e
    obtain ⟨ys, hp4, e4, e⟩ := bind_some e
    obtain ⟨rfl, rfl⟩ := tupD_some e4
    obtain ⟨rfl, rfl⟩ := pure_some e
    refine tD.run S e1 fun v ρ1 B1 H1 g1 S1 r1 => tD.run S1 e3 fun u ρ2 B2 H2 g2 S2 r2 => ?_
    obtain ⟨a, vs, rfl, na, qa, la⟩ := (RepV.grow S1.wo.rb g2 _ _ r1).tupI
    obtain ⟨b, us, rfl, nb, qb, lb⟩ := r2.tupI
    exact ⟨a, b, vs, us, rfl, qa, qb, k _ ρ2 B2 H2 (g1.trans g2) S2.wo (it_zip na qa la nb qb lb)⟩
def gT (ix : List Nat) : DGx := fun d env => do
  let ds ← tupD d
  guardM (decide (ds.length = ix.length))
  pure ((ix.zip ds).foldl (fun en q => en.set q.1 (.val q.2)) env)
def NamesAt (X : Cx) : List Nat → List Expr → Prop
  | [], [] => True
  | i :: is, .Name x _ :: es => X.N[i]? = some x ∧ Loc X.env.scope x ∧ (X.fn x = true ∨ X.env.scope.names.lookup x = some .local) ∧ NamesAt X is es
  | _, _ => False
theorem pgs_names (hN : X.N.Nodup) : ∀ (ix : List Nat) (es : List Expr), NamesAt X ix es → (∀ es' x p, (assignEach (.Name x p :: es') X.env).map (·.2) = assign (.Name x p) X.env :: (assignEach es' X.env).map (·.2)) →
    PGs X es (fun vs σ H Q => vs.length = ix.length ∧ Q ((ix.zip vs).foldl (fun s q => s.set q.1 (some q.2)) σ) H)
  | [], [], _, _ => by
    intro pins s σ H vs us Q I r h
    obtain ⟨h1, h2⟩ := h
    have : vs = [] := by cases vs with | nil => rfl | cons _ _ => simp at h1
    subst this
    exact pgs_nil pins s σ H [] us Q I r ⟨rfl, by simpa using h2⟩
  | i :: is, .Name x p :: es, ⟨h1, h2, h3, h4⟩, ha => by
    intro pins s σ H vs us Q I r h
    obtain ⟨h5, h6⟩ := h
    cases vs with
    | nil => simp at h5
    | cons v vs =>
      exact pgs_cons (pg_name hN h1 h2 h3) (pgs_names hN is es h4 ha) (ha _ _ _) pins s σ H (v :: vs) us Q I r ⟨v, vs, rfl, by simpa using h5, by simpa using h6⟩
theorem fold_ok {K : PySem.W.Frag} {Z : Ent} {ρ : List Addr} {B : Addr → Prop} {hp : Hs} {H : Hp} : ∀ (ix : List Nat) (ds : List DV) (vs : List V) {env : En} {σ : L2.St}, RepL K ρ B H ds vs → SOk K Z env σ ρ B hp H →
    SOk K Z ((ix.zip ds).foldl (fun en q => en.set q.1 (.val q.2)) env) ((ix.zip vs).foldl (fun s q => s.set q.1 (some q.2)) σ) ρ B hp H
  | [], _, _, _, _, _, S => by simpa using S
  | i :: is, [], _, _, _, r, S => by unfold RepL at r; subst r; simpa using S
  | i :: is, d :: ds, _, _, _, r, S => by
    unfold RepL at r
    obtain ⟨v, vs, rfl, r1, r2⟩ := r
    simpa using fold_ok is ds vs r2 (S.set (i := i) r1)
theorem dg_tup (ix : List Nat) (hN : X.N.Nodup) (hn : NamesAt X ix elts) (hc : X.calm = true) (ha : ∀ es' x p, (assignEach (.Name x p :: es') X.env).map (·.2) = assign (.Name x p) X.env :: (assignEach es' X.env).map (·.2))
    (hl : (assignEach elts X.env).length = ix.length := by rfl) (hst : (assignEach elts X.env).findIdx? (·.1) = none := by rfl) : PG X (.Tuple elts kt p2) (tDG X.K (gT ix)) := by
  intro pins s σ H v u Q I r h
  refine pg_tup hc (pgs_names hN ix elts hn ha) hl hst pins s σ H v u Q I r ?_
  obtain ⟨Z, env, ρ, B, hp, d, env', hp', S, rd, e, k⟩ := h
  obtain ⟨ds, hp1, e1, e⟩ := bind_some e
  obtain ⟨rfl, rfl⟩ := tupD_some e1
  obtain ⟨_, hp2, e2, e⟩ := bind_some e
  obtain ⟨hs, rfl⟩ := guardM_some e2
  obtain ⟨rfl, rfl⟩ := pure_some e
  obtain ⟨a, xs, rfl, na, qa, la⟩ := rd.tupI
  have hl' : xs.length = ix.length := by rw [← la.length]; exact of_decide_eq_true hs
  exact ⟨a, xs, rfl, qa, hl', hl', k _ ρ B H Gs.refl (fold_ok ix ds xs la S)⟩
def sAsg (f : DEx) (g : DGx) : DSx := fun env => do let d ← f env; let env' ← g d env; pure (.nx, env')
theorem ds_asg {tg e : Expr} {g : DGx} {pos : Pos} (he : DE X e f) (hg : PG X tg (tDG X.K g)) (hs : swapsWithSole [tg] e pos.line X.env = pure false := by rfl) (hw : swappedStores [tg] e X.env = pure none := by rfl)
    (h1 : (assignEach [tg] X.env).map (·.2) = [assign tg X.env] := by rfl) : DS X (.Assign [tg] e pos) (sAsg f g) :=
  L2.PS.imp (ps_asg he hg hs hw h1) fun D σ H ⟨Z, env, ρ, B, hp, fl, env', hp', S, e, k⟩ => by
    obtain ⟨d, hp1, e1, e⟩ := bind_some e
    obtain ⟨env1, hp2, e2, e⟩ := bind_some e
    obtain ⟨z, rfl⟩ := pure_some e; cases z
    exact tD.run S e1 fun v ρ1 B1 H1 g1 S1 r1 => ⟨Z, env, ρ1, B1, hp1, d, env', hp2, S1, r1, e2, fun σ' ρ' B' H' g' S' => k σ' ρ' B' H' ((g1.gs S.wo.rb).trans g') S'⟩
end
end D
namespace D
open PySem PySem.Spec PyProof.Rows L2
theorem forL_nth {b : DV → DSx} (I : Nat → En → Prop) : ∀ (ds : List DV) (k : Nat) (env : En), I k env → (∀ (i : Nat) d, ds[i]? = some d → ∀ env, I (k + i) env → ∃ env', b d env = pure (.nx, env') ∧ I (k + i + 1) env') → ∃ env', forL b ds env = pure (.nx, env') ∧ I (k + ds.length) env'
  | [], k, env, h, _ => ⟨env, rfl, h⟩
  | d :: ds, k, env, h, hs => by
    obtain ⟨env1, e1, h1⟩ := hs 0 d rfl env h
    obtain ⟨env2, e2, h2⟩ := forL_nth I ds (k + 1) env1 h1 fun i d' hd env' h' => by
      have := hs (i + 1) d' (by simpa using hd) env' (by rw [show k + (i + 1) = k + 1 + i by omega]; exact h')
      rw [show k + (i + 1) + 1 = k + 1 + i + 1 by omega] at this
      exact this
    refine ⟨env2, ?_, by rw [List.length_cons, show k + (ds.length + 1) = k + 1 + ds.length by omega]; exact h2⟩
    rw [forL, e1, pure_bind]
    exact e2
theorem rangeL_get {lo : Int} {n i : Nat} {d : DV} (h : (rangeL lo n)[i]? = some d) : i < n ∧ d = .int (lo + i) := by
  have hi : i < n := by have := (List.getElem?_eq_some_iff.mp h).1; simpa [rangeL] using this
  refine ⟨hi, ?_⟩
  simp [rangeL, hi] at h
  exact h.symm
theorem rangeL_len (lo : Int) (n : Nat) : (rangeL lo n).length = n := by simp [rangeL]
theorem forL_range {b : DV → DSx} (I : Nat → En → Prop) (lo : Int) (n : Nat) (env : En) (h : I 0 env) (hs : ∀ (i : Nat), i < n → ∀ env, I i env → ∃ env', b (.int (lo + i)) env = pure (.nx, env') ∧ I (i + 1) env') : ∃ env', forL b (rangeL lo n) env = pure (.nx, env') ∧ I n env' := by
  obtain ⟨env', e, h'⟩ := forL_nth I (rangeL lo n) 0 env h fun i d hd env hi => by
    obtain ⟨h1, rfl⟩ := rangeL_get hd
    rw [Nat.zero_add] at hi ⊢
    exact hs i h1 env hi
  exact ⟨env', e, by rw [rangeL_len, Nat.zero_add] at h'; exact h'⟩
theorem comp_ints {t : DV → M Bool} {f : DV → M DV} {p : Int → Bool} {g : Int → Int} (ht : ∀ x, t (.int x) = pure (p x)) (hf : ∀ x, f (.int x) = pure (.int (g x))) : ∀ ns : List Int, compD t f (ns.map .int) = pure (((ns.filter p).map g).map .int)
  | [] => rfl
  | n :: ns => by
    rw [List.map_cons, compD, ht, pure_bind]
    cases q : p n with
    | false =>
      rw [List.filter_cons_of_neg (by rw [q]; decide)]
      exact comp_ints ht hf ns
    | true =>
      rw [List.filter_cons_of_pos q]
      simp only [if_true, hf, pure_bind, comp_ints ht hf ns, List.map_cons]
theorem noRefs_ints : ∀ ns : List Int, noRefs (ns.map .int) = true
  | [] => rfl
  | _ :: r => by simp [noRefs, noRef, noRefs_ints r]
theorem toPs_ints : ∀ ns : List Int, toPs (ns.map .int) = ns.map .int
  | [] => rfl
  | _ :: r => by simp [toPs, toP, toPs_ints r]
theorem okP_int (i : Int) : okP (.int i) = true := by rfl
theorem okP_lstI (ns : List Int) : okP (.lst (ns.map .int)) = true := by
  simp only [okP, noRef, noRefs_ints, Bool.true_and, toP, toPs_ints]
  exact PySem.W.ke_shaped_ints ns
theorem eqv_int (i j : Int) : PyData.eqv (.int i) (.int j) = (i == j) := rfl
theorem eqvAll_ints : ∀ ns ms : List Int, PyData.eqvAll (ns.map .int) (ms.map .int) = decide (ns = ms)
  | [], [] => by simp [PyData.eqvAll]
  | [], _ :: _ => by simp [PyData.eqvAll]
  | _ :: _, [] => by simp [PyData.eqvAll]
  | a :: r, b :: t => by
    simp only [List.map_cons, PyData.eqvAll, PyData.eqv, eqvAll_ints r t]
    by_cases h : a = b <;> by_cases h' : r = t <;> simp [h, h']
theorem eqD_int (i j : Int) : eqD (.int i) (.int j) = pure (.bl (i == j)) := by
  simp only [eqD, okP_int, Bool.and_self, guardM, if_true, pure_bind, toP, eqv_int]
theorem neD_int (i j : Int) : neD (.int i) (.int j) = pure (.bl (!(i == j))) := by
  simp only [neD, okP_int, Bool.and_self, guardM, if_true, pure_bind, toP, eqv_int]
theorem atI_lt {α : Type} {xs : List α} {i : Int} (h0 : 0 ≤ i) (h1 : i < xs.length) : atI xs i = xs[i.toNat]? := by
  unfold atI ixN
  rw [if_pos h0, if_pos h1]; rfl
theorem atI_int (ns : List Int) {i : Int} (h0 : 0 ≤ i) (h1 : i < ns.length) : atI (ns.map DV.int) i = some (.int (ns.getD i.toNat 0)) := by
  have hl : i.toNat < ns.length := by omega
  rw [atI_lt h0 (by simpa using h1), List.getElem?_map, List.getElem?_eq_getElem hl]
  simp [List.getD_eq_getElem?_getD, hl]
def opt : Option Int → DV
  | none => .non
  | some i => .int i
end D
namespace D
open PySem PySem.Spec PyProof.Rows L2
theorem forL_range0 {b : DV → DSx} (I : Nat → En → Prop) (n : Nat) (env : En) (h : I 0 env) (hs : ∀ (i : Nat), i < n → ∀ env, I i env → ∃ env', b (.int (i : Int)) env = pure (.nx, env') ∧ I (i + 1) env') : ∃ env', forL b (rangeL 0 n) env = pure (.nx, env') ∧ I n env' :=
  forL_range I 0 n env h fun i hi env h' => by rw [Int.zero_add]; exact hs i hi env h'
theorem modD_pos (x y : Int) (h : 0 < y) : modD (.int x) (.int y) = pure (.int (x % y)) := by simp [modD, int2, cMod, h]
theorem divD_pos (x y : Int) (h : 0 < y) (h' : y < 1073741824) : divD (.int x) (.int y) = pure (.int (x / y)) := by simp [divD, int2, cDiv, h, h']
theorem mulD_l (x y : Int) (h : -(2 ^ 64) < x) (h' : x < 2 ^ 64) : mulD (.int x) (.int y) = pure (.int (x * y)) := by
  simp only [mulD, int2, cMul, decide_eq_true (Or.inl (b := (-(2 ^ 64) < y ∧ y < 2 ^ 64)) (And.intro h h')), if_true]
theorem mulD_r (x y : Int) (h : -(2 ^ 64) < y) (h' : y < 2 ^ 64) : mulD (.int x) (.int y) = pure (.int (x * y)) := by
  simp only [mulD, int2, cMul, decide_eq_true (Or.inr (a := (-(2 ^ 64) < x ∧ x < 2 ^ 64)) (And.intro h h')), if_true]
theorem addD_int (x y : Int) : addD (.int x) (.int y) = pure (.int (x + y)) := rfl
theorem subD_int (x y : Int) : subD (.int x) (.int y) = pure (.int (x - y)) := rfl
theorem gtD_int (x y : Int) : gtD (.int x) (.int y) = pure (.bl (decide (y < x))) := rfl
theorem ltD_int (x y : Int) : ltD (.int x) (.int y) = pure (.bl (decide (x < y))) := rfl
theorem leD_int (x y : Int) : leD (.int x) (.int y) = pure (.bl (decide (x ≤ y))) := rfl
theorem geD_int (x y : Int) : geD (.int x) (.int y) = pure (.bl (decide (y ≤ x))) := rfl
theorem negD_int (x : Int) : negD (.int x) = pure (.int (-x)) := rfl
theorem pow30 : powD (.int 10) (.int 30) = pure (.int 1000000000000000000000000000000) := rfl
theorem pow21 : powD (.int 10) (.int 21) = pure (.int 1000000000000000000000) := rfl
theorem pow9 : powD (.int 10) (.int 9) = pure (.int 1000000000) := rfl
theorem small_ok {m : Int} (h0 : 0 ≤ m) (h1 : m ≤ 1000000) : smallI m = true := decide_eq_true ⟨by omega, by omega⟩
theorem lenF_lst (ds : List DV) : lenF [.lst ds] = pure (.int ds.length) := rfl
theorem mod_rng (x y : Int) (h : 0 < y) : 0 ≤ x % y ∧ x % y < y := ⟨Int.emod_nonneg _ (by omega), Int.emod_lt_of_pos _ h⟩
end D
namespace D
open PySem PySem.Spec PyProof.Rows L2
theorem sFor_range {f : DAx} {g : DGx} {body : DSx} {env : En} {m : Int} (hf : f env = pure [.int m]) (h0 : 0 ≤ m) (h1 : m ≤ 1000000) : sFor (iRg1 f) g body env = forL (fun d env => do let env' ← g d env; body env') (rangeL 0 m.toNat) env := by
  simp only [sFor, iRg1, hf, pure_bind, rng1, small_ok h0 h1, guardM, if_true]
theorem sFor_list {f : DEx} {g : DGx} {body : DSx} {env : En} {ds : List DV} (hf : f env = pure (.lst ds)) : sFor (iLst f) g body env = forL (fun d env => do let env' ← g d env; body env') ds env := by
  simp only [sFor, iLst, hf, pure_bind, lstD]
theorem short_ok' {ds : List DV} (h : ds.length ≤ 100000) : short ds = true := decide_eq_true h
theorem eComp_ints {src : DIx} {idx : List Nat} {t : DTx} {f : DEx} {env : En} {ns : List Int} {p : Int → Bool} {g : Int → Int} (hs : src env = pure (ns.map .int)) (hl : ns.length ≤ 100000) (ht : ∀ x, t (cE idx env (.int x)) = pure (p x)) (hf : ∀ x, f (cE idx env (.int x)) = pure (.int (g x))) :
    eComp src idx t f env = pure (.lst (((ns.filter p).map g).map .int)) := by
  simp only [eComp, hs, pure_bind, short_ok' (show (ns.map DV.int).length ≤ 100000 by rw [List.length_map]; exact hl), guardM, if_true, comp_ints (t := fun d => t (cE idx env d)) (f := fun d => f (cE idx env d)) ht hf ns]
theorem sSeq_nx {f g : DSx} {env env1 : En} (h : f env = pure (.nx, env1)) : sSeq f g env = g env1 := by simp only [sSeq, h, pure_bind]
theorem sSeq_rt {f g : DSx} {env env1 : En} {d : DV} (h : f env = pure (.rt d, env1)) : sSeq f g env = pure (.rt d, env1) := by simp only [sSeq, h, pure_bind]
theorem sSet_eq {i : Nat} {f : DEx} {env : En} {d : DV} (h : f env = pure d) : sSet i f env = pure (.nx, env.set i (.val d)) := by simp only [sSet, h, pure_bind]
theorem sIf_t {c : DTx} {f g : DSx} {env : En} (h : c env = pure true) : sIf c f g env = f env := by simp only [sIf, h, pure_bind, if_true]
theorem sIf_f {c : DTx} {f g : DSx} {env : En} (h : c env = pure false) : sIf c f g env = g env := by simp only [sIf, h, pure_bind, Bool.false_eq_true, if_false]
theorem sRet_eq {f : DEx} {env : En} {d : DV} (h : f env = pure d) : sRet f env = pure (.rt d, env) := by simp only [sRet, h, pure_bind]
theorem runF_rt {n : Nat} {body : DSx} {ds : List DV} {d : DV} {env : En} (h : body (ds.map .val ++ List.replicate (n - ds.length) .un) = pure (.rt d, env)) : runF n body ds = pure d := by simp only [runF, h, pure_bind]
theorem eB_eq {f : DEx} {env : En} {b : Bool} (h : f env = pure (.bl b)) : eB f env = pure b := by simp only [eB, h, pure_bind, asB]
theorem eBin_eq {g : DV → DV → M DV} {f f' : DEx} {env : En} {x y d : DV} (h : f env = pure x) (h' : f' env = pure y) (hg : g x y = pure d) : eBin g f f' env = pure d := by simp only [eBin, h, h', pure_bind, hg]
theorem eCall2 {F : List DV → M DV} {f f' : DEx} {env : En} {x y d : DV} (h : f env = pure x) (h' : f' env = pure y) (hF : F [x, y] = pure d) : eCall 2 F (aCons f (aCons f' aNil)) env = pure d := by simp [eCall, aCons, aNil, h, h', guardM, hF]
end D
namespace D
open PySem PySem.Spec PyProof.Rows L2
section
variable {K : PySem.W.Frag} {ρ : List Addr} {B : Addr → Prop} {hp : Hs} {H : Hp}
theorem Gr.wnew {p : Addr} {o : HO} (h : H p = none) (kf : K.lookup p = none) : Gr K ρ B H (ρ ++ [p]) (banP B p) (upd H p o) where
  pre := List.prefix_append _ _
  ban := fun _ h => .inl h
  new := fun a z => z.elim .inl fun e => .inr (e ▸ ⟨h, kf⟩)
  rnew := fun a z => (List.mem_append.mp z).elim .inl fun q => .inr (by rw [List.mem_singleton.mp q]; exact h)
  keep := fun a u _ q => by rw [upd_ne (ne_of_none q h)]; exact q
  trk := (Gr.laid (K := K) (ρ := ρ) (B := B) h).trk
theorem WOk.wnew {p : Addr} {o : HO} {v : OV} (W : WOk K ρ B hp H) (h : H p = none) (kf : K.lookup p = none) (hv : ORep K (ρ ++ [p]) (banP B p) (upd H p o) p v) : WOk K (ρ ++ [p]) (banP B p) (hp ++ [v]) (upd H p o) where
  len := by simp [W.len]
  nd := List.nodup_append.mpr ⟨W.nd, by simp, fun a ha b hb => by rw [List.mem_singleton.mp hb]; exact fun z => W.bt a (W.rb a ha) (z ▸ h)⟩
  obj := fun i a u e q => by
    by_cases hi : i < ρ.length
    · rw [List.getElem?_append_left hi] at e
      rw [List.getElem?_append_left (by rw [← W.len]; exact hi)] at q
      exact ORep.gs ((Gr.wnew h kf).gs W.rb) (upd_ne (fun z => W.bt a (W.rb a (List.mem_of_getElem? e)) (z ▸ h))) (W.obj i a u e q)
    · rw [List.getElem?_append_right (by omega)] at e
      rw [List.getElem?_append_right (by rw [← W.len]; omega)] at q
      have hi0 : i - ρ.length = 0 := by
        have := (List.getElem?_eq_some_iff.mp e).1
        simp at this; omega
      rw [hi0] at e
      rw [← W.len, hi0] at q
      simp at e q
      subst e q
      exact hv
  rb := fun a z => (List.mem_append.mp z).elim (fun q => .inl (W.rb a q)) fun q => .inr (List.mem_singleton.mp q)
  bt := fun a z q => by
    have q' := (Gr.laid (K := K) (ρ := ρ) (B := B) h).trk a q
    rcases z with z | rfl
    · exact W.bt a z q'
    · rw [upd_same] at q; cases q
  bk := fun a z => z.elim (W.bk a) fun e => e ▸ kf
theorem Gr.wset {i : Nat} {a : Addr} {o o' : HO} (ha : ρ[i]? = some a) (h : H a = some o) : Gr K ρ B H ρ B (upd H a o') where
  pre := List.prefix_rfl
  ban := fun _ h => h
  new := fun _ h => .inl h
  rnew := fun _ h => .inl h
  keep := fun b u nb q => by rw [upd_ne (show b ≠ a from fun z => nb (by rw [z]; exact List.mem_of_getElem? ha))]; exact q
  trk := fun b q => by
    by_cases e : b = a
    · subst e; rw [upd_same] at q; cases q
    · rw [upd_ne e] at q; exact q
theorem WOk.wset {i : Nat} {a : Addr} {o o' : HO} {v : OV} (W : WOk K ρ B hp H) (ha : ρ[i]? = some a) (h : H a = some o) (hv : ORep K ρ B (upd H a o') a v) : WOk K ρ B (hp.set i v) (upd H a o') where
  len := by simp [W.len]
  nd := W.nd
  obj := fun j b u e q => by
    by_cases hj : j = i
    · subst hj
      rw [ha] at e; cases e
      have hl : j < hp.length := by rw [← W.len]; exact (List.getElem?_eq_some_iff.mp ha).1
      rw [List.getElem?_set_self hl] at q; cases q
      exact hv
    · rw [List.getElem?_set_ne (Ne.symm hj)] at q
      have hb : b ≠ a := fun z => hj (by
        subst z
        exact (List.getElem?_inj (List.getElem?_eq_some_iff.mp e).1 W.nd).mp (e.trans ha.symm))
      exact ORep.gs ((Gr.wset ha h).gs W.rb) (upd_ne hb) (W.obj j b u e q)
  rb := W.rb
  bt := fun b z q => W.bt b z ((Gr.wset (K := K) (B := B) ha h).trk b q)
  bk := W.bk
end
section
variable {X : Cx} {e a b c : Expr} {f fa fb fc : DEx} {pos : Pos}
def allocW (o : OV) : M DV := fun h => some (.ref h.length, h ++ [o])
def getW (i : Nat) : M OV := fun h => match h[i]? with
  | some o => some (o, h)
  | none => none
def setW (i : Nat) (o : OV) : M Unit := fun h => some ((), h.set i o)
theorem getW_some {i : Nat} {o : OV} {hp hp' : Hs} (h : getW i hp = some (o, hp')) : hp[i]? = some o ∧ hp = hp' := by
  unfold getW at h
  cases q : hp[i]? with
  | none => rw [q] at h; cases h
  | some z => rw [q] at h; cases h; exact ⟨rfl, rfl⟩
def eNewL (f : DAx) : DEx := fun env => do let ds ← f env; guardM (short ds); allocW (.lst ds)
theorem fol_new {K : PySem.W.Frag} {ρ : List Addr} {B : Addr → Prop} {H : Hp} {hp : Hs} {ds : List DV} {xs : List V} {Q : VK} (W : WOk K ρ B hp H) (r : RepL K ρ B H ds xs) (k : Fol K ρ B H (.ref hp.length) (hp ++ [.lst ds]) Q) : ∀ p, H p = none → KFree K (upd H p (.lst xs)) → Q (.ref p) (upd H p (.lst xs)) := fun p hp' kf => by
  have kp := kf p _ upd_same
  have g : Gr K ρ B H (ρ ++ [p]) (banP B p) (upd H p (.lst xs)) := Gr.wnew hp' kp
  refine k _ _ _ _ g (W.wnew hp' kp ⟨xs, upd_same, RepL.grow W.rb g _ _ r⟩) ?_
  unfold RepV
  exact ⟨p, rfl, by rw [← W.len]; simp⟩
theorem de_newL {es : List Expr} {f : DAx} (h : DA X es f) : DE X (.List es pos) (eNewL f) :=
  L2.PE.imp (pe_lst h).kf fun σ H Q ⟨Z, env, ρ, B, hp, d, hp', S, e, k⟩ => by
    obtain ⟨xs, hp1, e1, e2⟩ := bind_some e
    obtain ⟨_, hp2, e3, e4⟩ := bind_some e2
    obtain ⟨hs, rfl⟩ := guardM_some e3
    cases e4
    exact tDA.run S e1 fun vs ρ1 B1 H1 g1 S1 r1 => ⟨by rw [← r1.length]; exact short_ok hs, fol_new S1.wo r1 (k.after g1)⟩
theorem RepV.refW {K : PySem.W.Frag} {ρ : List Addr} {B : Addr → Prop} {H : Hp} {hp : Hs} {i : Nat} {o : OV} {v : V} (W : WOk K ρ B hp H) (r : RepV K ρ B H (.ref i) v) (h : hp[i]? = some o) : ∃ a, v = .ref a ∧ ρ[i]? = some a ∧ ORep K ρ B H a o := by
  obtain ⟨a, rfl, e⟩ := r.refI
  exact ⟨a, rfl, e, W.obj i a o e h⟩
def ixW : DV → DV → M DV
  | .ref n, .int i => do
    match ← getW n with
    | .lst ds => match atI ds i with
      | some d => pure d
      | none => failure
    | _ => failure
  | x, y => ixD x y
def tupW : List DV → M DV
  | [.ref n] => do
    match ← getW n with
    | .lst ds => pure (.tup ds)
    | _ => failure
  | xs => tupF xs
theorem c_tupleW : CallR X (.type "tuple") (tPn X.K tupW) := by
  intro pins s σ H xs us Q I r h
  obtain ⟨ρ, B, hp, ds, d, hp', W, rl, e, k⟩ := h
  unfold tupW at e
  split at e
  · rename_i n
    obtain ⟨o, hp1, e1, e2⟩ := bind_some e
    obtain ⟨e3, rfl⟩ := getW_some e1
    cases o with
    | dic _ => cases e2
    | ins _ _ => cases e2
    | lst zs =>
      obtain ⟨rfl, rfl⟩ := pure_some e2
      obtain ⟨v, rfl, rv⟩ := rl.oneI
      obtain ⟨a, rfl, _, ys, h1, l1⟩ := RepV.refW W rv e3
      exact call_tuple_of pins s σ H _ us Q I r ⟨a, ys, rfl, .inl ⟨SqL.of h1, fol_tup W l1 k⟩⟩
  · exact c_tuple pins s σ H xs us Q I r ⟨ρ, B, hp, _, d, hp', W, rl, e, k⟩
end
end D
namespace D
open PySem PySem.Spec PyProof.Rows L2
end D
namespace D
open PySem PySem.Spec PyProof.Rows L2
def Runs {α : Type} (m : M α) (x : α) : Prop := ∀ hp, ∃ hp', m hp = some (x, hp')
theorem Runs.pure {α : Type} (x : α) : Runs (pure x : M α) x := fun hp => ⟨hp, rfl⟩
theorem Runs.of {α : Type} {m : M α} {x : α} (h : m = Pure.pure x) : Runs m x := h ▸ Runs.pure x
theorem Runs.bind {α β : Type} {m : M α} {k : α → M β} {x : α} {y : β} (h : Runs m x) (h' : Runs (k x) y) : Runs (m >>= k) y := fun hp => by
  obtain ⟨hp1, e1⟩ := h hp
  obtain ⟨hp2, e2⟩ := h' hp1
  refine ⟨hp2, ?_⟩
  show (m hp).bind (fun p => k p.1 p.2) = _
  rw [e1]; exact e2
section
variable {f g : DSx} {env env1 env2 : En} {c ca cb : DTx} {e fa fb : DEx} {d x y : DV} {r : Fl × En}
end
theorem forL_w {b : DV → DSx} (I : Nat → En → Hs → Prop) : ∀ (ds : List DV) (k : Nat) (env : En) (hp : Hs), I k env hp → (∀ (i : Nat) d, ds[i]? = some d → ∀ env hp, I (k + i) env hp → ∃ env' hp', b d env hp = some ((.nx, env'), hp') ∧ I (k + i + 1) env' hp') → ∃ env' hp', forL b ds env hp = some ((.nx, env'), hp') ∧ I (k + ds.length) env' hp'
  | [], k, env, hp, h, _ => ⟨env, hp, rfl, h⟩
  | d :: ds, k, env, hp, h, hs => by
    obtain ⟨env1, hp1, e1, h1⟩ := hs 0 d rfl env hp h
    obtain ⟨env2, hp2, e2, h2⟩ := forL_w I ds (k + 1) env1 hp1 h1 fun i d' hd env' hp' h' => by
      have := hs (i + 1) d' (by simpa using hd) env' hp' (by rw [show k + (i + 1) = k + 1 + i by omega]; exact h')
      rw [show k + (i + 1) + 1 = k + 1 + i + 1 by omega] at this
      exact this
    refine ⟨env2, hp2, ?_, by rw [List.length_cons, show k + (ds.length + 1) = k + 1 + ds.length by omega]; exact h2⟩
    show (b d env hp).bind _ = _
    rw [e1]
    exact e2
theorem forL_rangeW {b : DV → DSx} (I : Nat → En → Hs → Prop) (n : Nat) (env : En) (hp : Hs) (h : I 0 env hp) (hs : ∀ (i : Nat), i < n → ∀ env hp, I i env hp → ∃ env' hp', b (.int (i : Int)) env hp = some ((.nx, env'), hp') ∧ I (i + 1) env' hp') : ∃ env' hp', forL b (rangeL 0 n) env hp = some ((.nx, env'), hp') ∧ I n env' hp' := by
  obtain ⟨env', hp', e, h'⟩ := forL_w I (rangeL 0 n) 0 env hp h fun i d hd env hp hi => by
    obtain ⟨h1, rfl⟩ := rangeL_get hd
    rw [Nat.zero_add] at hi ⊢
    rw [Int.zero_add]
    exact hs i h1 env hp hi
  exact ⟨env', hp', e, by rw [rangeL_len, Nat.zero_add] at h'; exact h'⟩
theorem bind_at {α β : Type} {m : M α} {k : α → M β} {x : α} {hp hp1 : Hs} (h : m hp = some (x, hp1)) : (m >>= k) hp = k x hp1 := by
  show (m hp).bind (fun p => k p.1 p.2) = _
  rw [h]; rfl
theorem sSeq_at {f g : DSx} {env env1 : En} {hp hp1 : Hs} (h : f env hp = some ((.nx, env1), hp1)) : sSeq f g env hp = g env1 hp1 := bind_at h
theorem sSet_at {i : Nat} {f : DEx} {env : En} {d : DV} {hp hp1 : Hs} (h : f env hp = some (d, hp1)) : sSet i f env hp = some ((.nx, env.set i (.val d)), hp1) := bind_at h
theorem ixD_lst {ds : List DV} {i : Int} {d : DV} (h : atI ds i = some d) : ixD (.lst ds) (.int i) = pure d := by simp only [ixD, h]
theorem cut_take (ds : List DV) (m : Nat) : D.cutD ds none (some (m : Int)) = ds.take m := by
  unfold D.cutD
  rw [HT.sIx_nat]
  show (ds.drop 0).take (min m ds.length - 0) = ds.take m
  simp
theorem cut_drop (ds : List DV) (m : Nat) : D.cutD ds (some (m : Int)) none = ds.drop m := by
  unfold D.cutD
  rw [HT.sIx_nat]
  show (ds.drop (min m ds.length)).take (ds.length - min m ds.length) = ds.drop m
  rcases Nat.le_total m ds.length with h | h
  · rw [Nat.min_eq_left h, List.take_of_length_le (by simp)]
  · rw [Nat.min_eq_right h, List.drop_of_length_le h, List.drop_of_length_le (Nat.le_refl _)]
    simp
theorem slD_take (ds : List DV) (m : Nat) : slD (.tup ds) none (some (m : Int)) = pure (.tup (ds.take m)) := by rw [← cut_take]; rfl
theorem slD_drop (ds : List DV) (m : Nat) : slD (.tup ds) (some (m : Int)) none = pure (.tup (ds.drop m)) := by rw [← cut_drop]; rfl
end D
namespace L2
open PySem PySem.Spec PyProof.Rows
section
variable {X : Cx}
def rIxD : R2 := fun x y H Q => ∃ a kvs k v, x = .ref a ∧ y = kV k ∧ H a = some (.dK kvs) ∧ valV kvs k = some v ∧ Q v H
theorem ix_dict (hu : X.A.units + 1 < cLine) : IxR X rIxD := by
  intro value slice pins s σ H x y v u Q I rx ry h hs
  obtain ⟨a, kvs, k, z, rfl, rfl, hH, hv, q⟩ := h
  cases rx
  have g : DGet H a (kV k) (some z) := hv ▸ DGet.k hH
  exact tail_any (dict_typeIs I g) PySem.F.slot_dict_getitem.lookup (d_getItem hu I g ry fun w' s' I' rw' => ⟨z, H, I', rw', q⟩) hs
def rSetD : V → V → V → Hp → (Hp → Prop) → Prop := fun o i v H Q => ∃ a kvs k, o = .ref a ∧ i = kV k ∧ H a = some (.dK kvs) ∧ kvs.length < sizeLine ∧ Q (upd H a (.dK (putK kvs k v)))
theorem set_dict (hu : X.A.units + 1 < cLine) : PSet X rSetD := fun pins s σ H o i v ov iv u Q I ro ri rv h => by
  obtain ⟨a, kvs, k, rfl, rfl, hH, hl, q⟩ := h
  cases ro
  exact d_setItem hu I (DPut.k hH hl) ri rv fun s' I' => ⟨_, I', q⟩
def rDGet : V → List V → Hp → VK → Prop := fun x vs H Q => ∃ a kvs k, x = .ref a ∧ H a = some (.dK kvs) ∧ ((vs = [kV k] ∧ Q ((valV kvs k).getD .non) H) ∨ ∃ z, vs = [kV k, z] ∧ Q ((valV kvs k).getD z) H)
theorem mt_dget (hu : X.A.units + 1 < cLine) : MtR X "dict.get" rDGet := by
  intro pins s σ H x vs v us Q I rx rv h
  obtain ⟨a, kvs, k, rfl, hH, h⟩ := h
  cases rx
  rcases h with ⟨rfl, q⟩ | ⟨z, rfl, q⟩
  · obtain ⟨u, rfl, ru⟩ := vals1 rv
    exact d_get1 hu I (DGet.k hH) ru fun w' s' I' rw' => ⟨_, H, I', rw', q⟩
  · obtain ⟨u, u2, rfl, ru, ru2⟩ := vals2 rv
    exact d_get2 hu I (DGet.k hH) ru ru2 fun w' s' I' rw' => ⟨_, H, I', rw', q⟩
def insN (n : Nat) (i : Int) : Nat := if i < 0 then (i + (n : Int)).toNat else min i.toNat n
end
end L2
namespace D
open PySem PySem.Spec PyProof.Rows L2
def dkey : DV → Option Key
  | .int i => some (.inl i)
  | .str x => some (.inr x)
  | _ => none
def valD (kvs : List (Key × DV)) (k : Key) : Option DV := (kvs.find? fun kv => decide (kv.1 = k)).map (·.2)
def putD (kvs : List (Key × DV)) (k : Key) (d : DV) : List (Key × DV) :=
  if (kvs.any fun kv => decide (kv.1 = k)) = true then kvs.map (fun kv => if kv.1 = k then (kv.1, d) else kv) else kvs ++ [(k, d)]
def dropD (kvs : List (Key × DV)) (k : Key) : List (Key × DV) := kvs.filter fun kv => decide (kv.1 ≠ k)
section
variable {K : PySem.W.Frag} {ρ : List Addr} {B : Addr → Prop} {H : Hp} {hp : Hs}
theorem dkey_rep {d : DV} {k : Key} {v : V} (h : dkey d = some k) (r : RepV K ρ B H d v) : v = kV k := by
  cases d <;> simp [dkey] at h <;> subst h
  · exact r.intI
  · exact r.strI
abbrev RepK (K : PySem.W.Frag) (ρ : List Addr) (B : Addr → Prop) (H : Hp) : List (Key × DV) → List (Key × V) → Prop := Paired fun p q => p.1 = q.1 ∧ RepV K ρ B H p.2 q.2
theorem repK_of : ∀ {kvs : List (Key × DV)} {xs : List (Key × V)}, xs.map (·.1) = kvs.map (·.1) → RepL K ρ B H (kvs.map (·.2)) (xs.map (·.2)) → RepK K ρ B H kvs xs
  | [], [], _, _ => .nil
  | [], _ :: _, e, _ => by simp at e
  | _ :: _, [], e, _ => by simp at e
  | p :: kvs, q :: xs, e, r => by
    simp only [List.map_cons, List.cons.injEq] at e
    simp only [List.map_cons] at r
    unfold RepL at r
    obtain ⟨x, t, e2, h1, h2⟩ := r
    simp only [List.cons.injEq] at e2
    obtain ⟨rfl, rfl⟩ := e2
    exact .cons ⟨e.1.symm, h1⟩ (repK_of e.2 h2)
theorem RepK.to {kvs : List (Key × DV)} {xs : List (Key × V)} (r : RepK K ρ B H kvs xs) : xs.map (·.1) = kvs.map (·.1) ∧ RepL K ρ B H (kvs.map (·.2)) (xs.map (·.2)) := by
  induction r with
  | nil => exact ⟨rfl, RepL.nil⟩
  | cons h _ ih => exact ⟨by simp [ih.1, h.1], by simpa using RepL.cons h.2 ih.2⟩
theorem RepK.val {kvs : List (Key × DV)} {xs : List (Key × V)} (r : RepK K ρ B H kvs xs) (k : Key) : (valD kvs k = none ∧ valV xs k = none) ∨ ∃ d v, valD kvs k = some d ∧ valV xs k = some v ∧ RepV K ρ B H d v := by
  induction r with
  | nil => exact .inl ⟨rfl, rfl⟩
  | @cons p q _ _ h _ ih =>
    by_cases e : p.1 = k
    · exact .inr ⟨p.2, q.2, by simp [valD, List.find?_cons, e], by simp [valV, List.find?_cons, h.1 ▸ e], h.2⟩
    · have e' : ¬ q.1 = k := h.1 ▸ e
      simpa [valD, valV, List.find?_cons, e, e'] using ih
theorem RepK.any {kvs : List (Key × DV)} {xs : List (Key × V)} (r : RepK K ρ B H kvs xs) (k : Key) : (kvs.any fun kv => decide (kv.1 = k)) = xs.any fun kv => decide (kv.1 = k) := by
  induction r with
  | nil => rfl
  | cons h _ ih => simp only [List.any_cons, ih, h.1]
theorem RepK.repl {kvs : List (Key × DV)} {xs : List (Key × V)} (r : RepK K ρ B H kvs xs) (k : Key) {d : DV} {v : V} (rd : RepV K ρ B H d v) : RepK K ρ B H (kvs.map fun kv => if kv.1 = k then (kv.1, d) else kv) (xs.map fun kv => if kv.1 = k then (kv.1, v) else kv) := by
  induction r with
  | nil => exact .nil
  | @cons p q _ _ h _ ih =>
    refine .cons ?_ ih
    dsimp only
    by_cases e : p.1 = k
    · rw [if_pos e, if_pos (h.1 ▸ e)]; exact ⟨h.1, rd⟩
    · rw [if_neg e, if_neg (h.1 ▸ e)]; exact h
theorem RepK.snoc {kvs : List (Key × DV)} {xs : List (Key × V)} (r : RepK K ρ B H kvs xs) {k : Key} {d : DV} {v : V} (rd : RepV K ρ B H d v) : RepK K ρ B H (kvs ++ [(k, d)]) (xs ++ [(k, v)]) := by
  induction r with
  | nil => exact .cons ⟨rfl, rd⟩ .nil
  | cons h _ ih => exact .cons h ih
theorem RepK.put {kvs : List (Key × DV)} {xs : List (Key × V)} (r : RepK K ρ B H kvs xs) (k : Key) {d : DV} {v : V} (rd : RepV K ρ B H d v) : RepK K ρ B H (putD kvs k d) (putK xs k v) := by
  unfold putD putK
  rw [r.any k]
  split
  · exact r.repl k rd
  · exact r.snoc rd
theorem RepK.drop {kvs : List (Key × DV)} {xs : List (Key × V)} (r : RepK K ρ B H kvs xs) (k : Key) : RepK K ρ B H (dropD kvs k) (dropK xs k) := by
  induction r with
  | nil => exact .nil
  | @cons p q _ _ h _ ih =>
    unfold dropD dropK at ih ⊢
    by_cases e : p.1 = k
    · have e' : q.1 = k := h.1 ▸ e
      simpa [e, e'] using ih
    · have e' : ¬ q.1 = k := h.1 ▸ e
      rw [List.filter_cons_of_pos (by simpa using e), List.filter_cons_of_pos (by simpa using e')]; exact .cons h ih
theorem RepK.len {kvs : List (Key × DV)} {xs : List (Key × V)} (r : RepK K ρ B H kvs xs) : kvs.length = xs.length := Paired.length r
theorem RepK.gs {ρ' : List Addr} {B' : Addr → Prop} {H' : Hp} {kvs : List (Key × DV)} {xs : List (Key × V)} (g : Gs K ρ B H ρ' B' H') (r : RepK K ρ B H kvs xs) : RepK K ρ' B' H' kvs xs := L2.Paired.mapP r fun _ _ h => ⟨h.1, RepV.gs g _ _ h.2⟩
theorem ORep.dic {a : Addr} {kvs : List (Key × DV)} (h : ORep K ρ B H a (.dic kvs)) : ∃ xs, H a = some (.dK xs) ∧ RepK K ρ B H kvs xs := by
  obtain ⟨xs, e, ek, rl⟩ := h
  exact ⟨xs, e, repK_of ek rl⟩
theorem RepK.orep {a : Addr} {kvs : List (Key × DV)} {xs : List (Key × V)} (r : RepK K ρ B H kvs xs) (e : H a = some (.dK xs)) : ORep K ρ B H a (.dic kvs) := ⟨xs, e, r.to.1, r.to.2⟩
theorem wset_dic {n : Nat} {a : Addr} {xs xs' : List (Key × V)} {kvs' : List (Key × DV)} (W : WOk K ρ B hp H) (i : ρ[n]? = some a) (e : H a = some (.dK xs)) (r : RepK K ρ B H kvs' xs') : Gr K ρ B H ρ B (upd H a (.dK xs')) ∧ WOk K ρ B (hp.set n (.dic kvs')) (upd H a (.dK xs')) := by
  have g : Gr K ρ B H ρ B (upd H a (.dK xs')) := Gr.wset i e
  exact ⟨g, W.wset (o' := .dK xs') (v := .dic kvs') i e ((r.gs (g.gs W.rb)).orep upd_same)⟩
theorem wset_lst {n : Nat} {a : Addr} {o : HO} {xs' : List V} {ds' : List DV} (W : WOk K ρ B hp H) (i : ρ[n]? = some a) (e : H a = some o) (r : RepL K ρ B H ds' xs') : Gr K ρ B H ρ B (upd H a (.lst xs')) ∧ WOk K ρ B (hp.set n (.lst ds')) (upd H a (.lst xs')) := by
  have g : Gr K ρ B H ρ B (upd H a (.lst xs')) := Gr.wset i e
  exact ⟨g, W.wset (o' := .lst xs') (v := .lst ds') i e ⟨xs', upd_same, RepL.grow W.rb g _ _ r⟩⟩
end
section
variable {X : Cx} {e a b c : Expr} {f fa fb fc : DEx} {pos : Pos}
def optM (o : Option DV) : M DV := match o with
  | some d => pure d
  | none => failure
theorem optM_some {o : Option DV} {d : DV} {hp hp' : Hs} (h : optM o hp = some (d, hp')) : o = some d ∧ hp = hp' := by
  cases o with
  | none => cases h
  | some z => obtain ⟨rfl, rfl⟩ := pure_some h; exact ⟨rfl, rfl⟩
def keyM (d : DV) : M Key := match dkey d with
  | some k => pure k
  | none => failure
theorem keyM_some {d : DV} {k : Key} {hp hp' : Hs} (h : keyM d hp = some (k, hp')) : dkey d = some k ∧ hp = hp' := by
  unfold keyM at h
  cases q : dkey d with
  | none => rw [q] at h; cases h
  | some z => rw [q] at h; obtain ⟨rfl, rfl⟩ := pure_some h; exact ⟨rfl, rfl⟩
def ixG : DV → DV → M DV
  | .ref n, y => do
    match ← getW n with
    | .lst ds => do let i ← asI y; optM (atI ds i)
    | .dic kvs => do let k ← keyM y; optM (valD kvs k)
    | _ => failure
  | x, y => ixD x y
theorem p_ixG (hu : X.A.units + 1 < cLine) : IxR X (tP2 X.K ixG) := by
  intro value slice pins s σ H x y v u Q I rx ry h hsub
  obtain ⟨ρ, B, hp, dx, dy, d, hp', W, r1, r2, e, k⟩ := h
  unfold ixG at e
  split at e
  · rename_i n
    obtain ⟨o, hp1, e1, e2⟩ := bind_some e
    obtain ⟨e3, rfl⟩ := getW_some e1
    obtain ⟨a, rfl, i1, ro⟩ := RepV.refW W r1 e3
    cases o with
    | ins _ _ => cases e2
    | dic kvs =>
      obtain ⟨ky, hp2, e4, e5⟩ := bind_some e2
      obtain ⟨hk, rfl⟩ := keyM_some e4
      obtain ⟨hv, rfl⟩ := optM_some e5
      obtain ⟨xs, h1, rk⟩ := ro.dic
      rcases rk.val ky with ⟨z, _⟩ | ⟨d', v', z, zv, rz⟩
      · rw [hv] at z; cases z
      · rw [hv] at z; cases z
        exact ix_dict hu value slice pins s σ H _ _ v u Q I rx ry ⟨a, xs, ky, v', rfl, dkey_rep hk r2, h1, zv, k _ ρ B H Gr.refl W rz⟩ hsub
    | lst ds =>
      obtain ⟨i, hp2, e4, e5⟩ := bind_some e2
      obtain ⟨rfl, rfl⟩ := asI_some e4
      obtain ⟨hv, rfl⟩ := optM_some e5
      obtain ⟨xs, h1, l1⟩ := ro
      obtain ⟨z, hz, rz⟩ := atI_rep l1 hv
      exact ix_list value slice pins s σ H _ _ v u Q I rx ry ⟨a, xs, i, z, rfl, r2.intI, SqL.of h1, hz, k _ ρ B H Gr.refl W rz⟩ hsub
  · exact p_ix value slice pins s σ H x y v u Q I rx ry ⟨ρ, B, hp, _, _, d, hp', W, r1, r2, e, k⟩ hsub
theorem de_ixG (hu : X.A.units + 1 < cLine) (ha : DE X a fa) (hb : DE X b fb) (hs : PlainIx b := by intro _ _; rfl) : DE X (.Subscript a b pos) (eBin ixG fa fb) := L2.PE.imp (pe_ix (p_ixG hu) ha hb hs) fun _ _ _ h => eBin_imp h
def lenG : List DV → M DV
  | [.ref n] => do
    match ← getW n with
    | .lst ds => pure (.int ds.length)
    | .dic kvs => pure (.int kvs.length)
    | _ => failure
  | xs => lenF xs
theorem c_lenG : CallR X (.builtin "len") (tPn X.K lenG) := by
  intro pins s σ H xs us Q I r h
  obtain ⟨ρ, B, hp, ds, d, hp', W, rl, e, k⟩ := h
  unfold lenG at e
  split at e
  · rename_i n
    obtain ⟨o, hp1, e1, e2⟩ := bind_some e
    obtain ⟨e3, rfl⟩ := getW_some e1
    obtain ⟨v, rfl, rv⟩ := rl.oneI
    obtain ⟨a, rfl, _, ro⟩ := RepV.refW W rv e3
    cases o with
    | ins _ _ => cases e2
    | lst zs =>
      obtain ⟨rfl, rfl⟩ := pure_some e2
      obtain ⟨ys, h1, l1⟩ := ro
      exact call_len_seq pins s σ H _ us Q I r ⟨a, ys, rfl, .inl (SqL.of h1), by rw [← l1.length]; exact k _ ρ B H Gr.refl W rep_int⟩
    | dic kvs =>
      obtain ⟨rfl, rfl⟩ := pure_some e2
      obtain ⟨ys, h1, l1⟩ := ro.dic
      exact call_lenD pins s σ H _ us Q I r ⟨a, ys, rfl, h1, by rw [← l1.len]; exact k _ ρ B H Gr.refl W rep_int⟩
  · exact c_len pins s σ H xs us Q I r ⟨ρ, B, hp, _, d, hp', W, rl, e, k⟩
def seqG : DV → M (List DV)
  | .tup ds => pure ds
  | .lst ds => pure ds
  | .ref n => do
    match ← getW n with
    | .lst ds => pure ds
    | _ => failure
  | _ => failure
theorem seqG_rep {d : DV} {ds : List DV} {hp hp' : Hs} {K : PySem.W.Frag} {ρ : List Addr} {B : Addr → Prop} {H : Hp} {v : V} (W : WOk K ρ B hp H) (r : RepV K ρ B H d v) (h : seqG d hp = some (ds, hp')) : hp = hp' ∧ ∃ p xs, v = .ref p ∧ (SqL K H p xs ∨ SqT K H p xs) ∧ RepL K ρ B H ds xs := by
  cases d with
  | tup xs =>
    obtain ⟨rfl, rfl⟩ := pure_some h
    obtain ⟨a, ys, rfl, _, sq, l⟩ := r.tupI
    exact ⟨rfl, a, ys, rfl, .inr sq, l⟩
  | lst xs =>
    obtain ⟨rfl, rfl⟩ := pure_some h
    obtain ⟨a, ys, rfl, _, sq, l⟩ := r.lstI
    exact ⟨rfl, a, ys, rfl, .inl sq, l⟩
  | ref n =>
    obtain ⟨o, hp1, e1, e2⟩ := bind_some (show (getW n >>= fun o => (match o with | .lst ds => pure ds | _ => failure : M (List DV))) hp = some (ds, hp') from h)
    obtain ⟨e3, rfl⟩ := getW_some e1
    cases o with
    | lst zs =>
      obtain ⟨rfl, rfl⟩ := pure_some e2
      obtain ⟨a, rfl, _, ys, h1, l1⟩ := RepV.refW W r e3
      exact ⟨rfl, a, ys, rfl, .inl (SqL.of h1), l1⟩
    | dic _ => cases e2
    | ins _ _ => cases e2
  | non => cases h
  | bl _ => cases h
  | int _ => cases h
  | str _ => cases h
def one1 (g : DV → M DV) : List DV → M DV
  | [d] => g d
  | _ => failure
def lstF : List DV → M DV := one1 fun d => do let ds ← seqG d; pure (.lst ds)
theorem one1_some {g : DV → M DV} {ds : List DV} {d : DV} {hp hp' : Hs} (h : one1 g ds hp = some (d, hp')) : ∃ x, ds = [x] ∧ g x hp = some (d, hp') := by
  unfold one1 at h
  split at h
  · exact ⟨_, rfl, h⟩
  · cases h
theorem c_list : CallR X (.type "list") (tPn X.K lstF) := by
  intro pins s σ H xs us Q I r h
  obtain ⟨ρ, B, hp, ds, d, hp', W, rl, e, k⟩ := h
  obtain ⟨x, rfl, e⟩ := one1_some e
  obtain ⟨zs, hp1, e1, e2⟩ := bind_some e
  obtain ⟨rfl, rfl⟩ := pure_some e2
  obtain ⟨v, rfl, rv⟩ := rl.oneI
  obtain ⟨rfl, p, ys, rfl, sq, l⟩ := seqG_rep W rv e1
  exact call_list_of pins s σ H _ us Q I r ⟨p, ys, rfl, sq, fol_lst W l k⟩
theorem _root_.L2.CallR.kf {f : Value} {r : List V → Hp → VK → Prop} (h : CallR X f r) : CallR X f (fun xs H Q => r xs H fun v H' => KFree X.K H' → Q v H') := by
  intro pins s σ H xs us Q I rv q
  refine thn (h pins s σ H xs us _ I rv q) fun v s' ⟨x, H', I', rx, q'⟩ => ⟨x, H', I', rx, q' (Inv.kfree I')⟩
end
end D
namespace D
open PySem PySem.Spec PyProof.Rows L2
def drf : Nat → Hs → DV → Option DV
  | 0, _, _ => none
  | n + 1, hp, d => match d with
    | .ref i => match hp[i]? with
      | some (.lst ds) => (ds.mapM (drf n hp)).map .lst
      | _ => none
    | .tup ds => (ds.mapM (drf n hp)).map .tup
    | .lst ds => (ds.mapM (drf n hp)).map .lst
    | d => some d
theorem mapM_cons_some {α β : Type} {f : α → Option β} {x : α} {xs : List α} {ys : List β} (h : (x :: xs).mapM f = some ys) : ∃ y zs, f x = some y ∧ xs.mapM f = some zs ∧ ys = y :: zs := by
  rw [List.mapM_cons] at h
  cases q : f x with
  | none => rw [q] at h; cases h
  | some y =>
    cases q2 : xs.mapM f with
    | none => rw [q, q2] at h; cases h
    | some zs => rw [q, q2] at h; exact ⟨y, zs, rfl, rfl, (Option.some.inj h).symm⟩
section
variable {X : Cx} {pins : List (Addr × Obj)} {σ : St} {H : Hp} {s : Shared} {ρ : List Addr} {B : Addr → Prop} {hp : Hs}
theorem reads_drf (I : Inv X pins σ H s) (W : WOk X.K ρ B hp H) : ∀ (n : Nat) (d d' : DV) (v : V) (u : Value), drf n hp d = some d' → RepV X.K ρ B H d v → RelV v u → ∃ as, Reads s.heap u (toP d') as
  | 0, _, _, _, _, h, _, _ => by cases h
  | n + 1, d, d', v, u, h, r, ru => by
    have all : ∀ (ds ds' : List DV) (xs : List V) (us : List Value), ds.mapM (drf n hp) = some ds' → RepL X.K ρ B H ds xs → Vals xs us → ∃ as, ReadsAll s.heap us (toPs ds') as := by
      intro ds
      induction ds with
      | nil =>
        intro ds' xs us h r ru
        rw [List.mapM_nil] at h; cases h
        unfold RepL at r; subst r; cases ru
        exact ⟨[], by unfold toPs; exact .nil⟩
      | cons x ds ih =>
        intro ds' xs us h r ru
        obtain ⟨y, zs, h1, h2, rfl⟩ := mapM_cons_some h
        unfold RepL at r
        obtain ⟨z, t, rfl, r1, r2⟩ := r
        cases ru with
        | cons q1 q2 =>
          obtain ⟨as, a1⟩ := reads_drf I W n x y z _ h1 r1 q1
          obtain ⟨bs, a2⟩ := ih zs t _ h2 r2 q2
          exact ⟨_, by unfold toPs; exact .cons a1 a2⟩
    have lst : ∀ (ds ds' : List DV) (a : Addr) (xs : List V), ds.mapM (drf n hp) = some ds' → SqL X.K H a xs → RepL X.K ρ B H ds xs → ∃ as, Reads s.heap (.ref a) (toP (.lst ds')) as := by
      intro ds ds' a xs h sq rl
      obtain ⟨its, rv, ⟨o, k, e, hc, _, hd⟩, _⟩ := I.list sq
      obtain ⟨as, q⟩ := all ds ds' xs its h rl rv
      exact ⟨_, by unfold toP; exact reads_list_at e hc hd (by simpa using q)⟩
    unfold drf at h
    cases d with
    | non => cases h; obtain rfl := r.nonI; cases ru; exact ⟨[], by unfold toP; exact .none⟩
    | bl b => cases h; obtain rfl := r.blI; cases ru; exact ⟨[], by unfold toP; exact .bool b⟩
    | int i => cases h; obtain rfl := r.intI; obtain ⟨t, rfl⟩ := ru; exact ⟨[], by unfold toP; exact .int i t⟩
    | str x => cases h; obtain rfl := r.strI; obtain ⟨t, rfl⟩ := ru; exact ⟨[], by unfold toP; exact .str x t⟩
    | tup ds =>
      obtain ⟨ds', h1, rfl⟩ := Option.map_eq_some_iff.mp h
      obtain ⟨a, xs, rfl, _, sq, rl⟩ := r.tupI
      cases ru
      obtain ⟨its, rv, ⟨o, e, hc, k, hd⟩, _⟩ := I.tuple sq
      obtain ⟨as, q⟩ := all ds ds' xs its h1 rl rv
      exact ⟨_, by unfold toP; exact reads_tuple_at e hc hd (by simpa using q)⟩
    | lst ds =>
      obtain ⟨ds', h1, rfl⟩ := Option.map_eq_some_iff.mp h
      obtain ⟨a, xs, rfl, _, sq, rl⟩ := r.lstI
      cases ru
      exact lst ds ds' a xs h1 sq rl
    | ref i =>
      cases q : hp[i]? with
      | none => simp only [q] at h; cases h
      | some o =>
        simp only [q] at h
        cases o with
        | dic _ => cases h
        | ins _ _ => cases h
        | lst ds =>
          obtain ⟨ds', h1, rfl⟩ := Option.map_eq_some_iff.mp h
          obtain ⟨a, rfl, _, xs, h2, l⟩ := RepV.refW W r q
          cases ru
          exact lst ds ds' a xs h1 (SqL.of h2) l
end
def drfM (d : DV) : M DV := fun hp => (drf 40 hp d).map fun x => (x, hp)
theorem drfM_some {d d' : DV} {hp hp' : Hs} (h : drfM d hp = some (d', hp')) : drf 40 hp d = some d' ∧ hp = hp' := by
  obtain ⟨x, h1, h2⟩ := Option.map_eq_some_iff.mp h
  cases h2; exact ⟨h1, rfl⟩
def eqvG (x y : DV) : M Bool := do
  let x' ← drfM x
  let y' ← drfM y
  guardM (SeqAt.shaped (toP x') && SeqAt.shaped (toP y'))
  pure (PyData.eqv (toP x') (toP y'))
def eqG : DV → DV → M DV := fun x y => do let b ← eqvG x y; pure (.bl b)
def neG : DV → DV → M DV := fun x y => do let b ← eqvG x y; pure (.bl (!b))
section
variable {X : Cx} {e a b c : Expr} {f fa fb fc : DEx} {ca cb : DTx} {pos : Pos}
theorem eqvG_some {x y : DV} {k : Bool} {hp hp' : Hs} (h : eqvG x y hp = some (k, hp')) : ∃ x' y', drf 40 hp x = some x' ∧ drf 40 hp y = some y' ∧ SeqAt.shaped (toP x') = true ∧ SeqAt.shaped (toP y') = true ∧ k = PyData.eqv (toP x') (toP y') ∧ hp = hp' := by
  obtain ⟨x', hp1, e1, h⟩ := bind_some h
  obtain ⟨y', hp2, e2, h⟩ := bind_some h
  obtain ⟨_, hp3, e3, h⟩ := bind_some h
  obtain ⟨q1, rfl⟩ := drfM_some e1
  obtain ⟨q2, rfl⟩ := drfM_some e2
  obtain ⟨hs, rfl⟩ := guardM_some e3
  obtain ⟨rfl, rfl⟩ := pure_some h
  rw [Bool.and_eq_true] at hs
  exact ⟨x', y', q1, q2, hs.1, hs.2, rfl, rfl⟩
theorem p_eqG (hu : X.A.units + 64 < cLine) : P2 X (compareOp .Eq) eqG := by
  intro pins s σ H x y v u Q I rx ry h
  obtain ⟨ρ, B, hp, dx, dy, d, hp', W, r1, r2, e, k⟩ := h
  obtain ⟨b, hp1, e1, e2⟩ := bind_some e
  obtain ⟨rfl, rfl⟩ := pure_some e2
  obtain ⟨x', y', q1, q2, s1, s2, rfl, rfl⟩ := eqvG_some e1
  obtain ⟨as, a1⟩ := reads_drf I W _ _ _ _ _ q1 r1 rx
  obtain ⟨bs, a2⟩ := reads_drf I W _ _ _ _ _ q2 r2 ry
  exact eq_dataH a1 a2 s1 s2 hu ⟨.bl _, H, I, rfl, k _ ρ B H Gr.refl W rep_bl⟩
theorem p_neG (hu : X.A.units + 64 < cLine) : P2 X (compareOp .NotEq) neG := by
  intro pins s σ H x y v u Q I rx ry h
  obtain ⟨ρ, B, hp, dx, dy, d, hp', W, r1, r2, e, k⟩ := h
  obtain ⟨b, hp1, e1, e2⟩ := bind_some e
  obtain ⟨rfl, rfl⟩ := pure_some e2
  obtain ⟨x', y', q1, q2, s1, s2, rfl, rfl⟩ := eqvG_some e1
  obtain ⟨as, a1⟩ := reads_drf I W _ _ _ _ _ q1 r1 rx
  obtain ⟨bs, a2⟩ := reads_drf I W _ _ _ _ _ q2 r2 ry
  exact ne_dataH a1 a2 s1 s2 hu ⟨.bl _, H, I, rfl, k _ ρ B H Gr.refl W rep_bl⟩
def flatD : DV → Bool
  | .non => true
  | .bl _ => true
  | .int _ => true
  | .str _ => true
  | _ => false
def eqF : DV → DV → Bool
  | .non, .non => true
  | .bl a, .bl b => a == b
  | .bl a, .int b => (if a then 1 else 0) == b
  | .int a, .bl b => a == (if b then 1 else 0)
  | .int a, .int b => a == b
  | .str a, .str b => a == b
  | _, _ => false
def inB (d : DV) (ds : List DV) : Bool := ds.any fun y => eqF y d
def memG (x : DV) : DV → M Bool
  | .ref n => do
    match ← getW n with
    | .lst ds => do guardM (flatD x && ds.all flatD); pure (inB x ds)
    | .dic kvs => do let k ← keyM x; pure (valD kvs k).isSome
    | _ => failure
  | .tup ds => do guardM (flatD x && ds.all flatD); pure (inB x ds)
  | .lst ds => do guardM (flatD x && ds.all flatD); pure (inB x ds)
  | _ => failure
def putG (o i d : DV) : M Unit := match o with
  | .ref n => do
    match ← getW n with
    | .lst ds => do
      let k ← asI i
      match ixN ds.length k with
      | some j => setW n (.lst (ds.set j d))
      | none => failure
    | .dic kvs => do
      let k ← keyM i
      guardM (decide (kvs.length < lim))
      setW n (.dic (putD kvs k d))
    | _ => failure
  | _ => failure
def tP3 (K : PySem.W.Frag) (g : DV → DV → DV → M Unit) : TSet := fun o i v H Q => ∃ ρ B hp dO di dv hp', WOk K ρ B hp H ∧ RepV K ρ B H dO o ∧ RepV K ρ B H di i ∧ RepV K ρ B H dv v ∧ g dO di dv hp = some ((), hp') ∧ ∀ ρ' B' H', Gr K ρ B H ρ' B' H' → WOk K ρ' B' hp' H' → Q H'
theorem RepL.set {K : PySem.W.Frag} {ρ : List Addr} {B : Addr → Prop} {H : Hp} {d : DV} {x : V} (r : RepV K ρ B H d x) : ∀ {ds : List DV} {xs : List V} (i : Nat), RepL K ρ B H ds xs → RepL K ρ B H (ds.set i d) (xs.set i x)
  | [], _, i, h => by unfold RepL at h; subst h; exact RepL.nil
  | _ :: ds, _, 0, h => by
    unfold RepL at h
    obtain ⟨y, t, rfl, _, h2⟩ := h
    exact RepL.cons r h2
  | _ :: ds, _, i + 1, h => by
    unfold RepL at h
    obtain ⟨y, t, rfl, h1, h2⟩ := h
    exact RepL.cons h1 (RepL.set r i h2)
theorem p_put (hu : X.A.units + 1 < cLine) : PSet X (tP3 X.K putG) := by
  intro pins s σ H o i v ov iv u Q I ro ri rv h
  obtain ⟨ρ, B, hp, dO, di, dv, hp', W, r1, r2, r3, e, k⟩ := h
  cases dO with
  | ref n =>
    obtain ⟨ob, hp1, e1, e2⟩ := bind_some e
    obtain ⟨e3, rfl⟩ := getW_some e1
    obtain ⟨a, rfl, i1, rob⟩ := RepV.refW W r1 e3
    cases ob with
    | ins _ _ => cases e2
    | lst ds =>
      obtain ⟨j, hp2, e4, e5⟩ := bind_some e2
      obtain ⟨rfl, rfl⟩ := asI_some e4
      obtain ⟨xs, h1, l1⟩ := rob
      cases q : ixN ds.length j with
      | none => simp only [q] at e5; cases e5
      | some m =>
        simp only [q] at e5
        cases e5
        obtain ⟨g, W'⟩ := wset_lst W i1 h1 (RepL.set r3 m l1)
        exact set_list pins s σ H _ _ v ov iv u Q I ro ri rv ⟨a, xs, j, m, rfl, r2.intI, h1, by rw [← l1.length]; exact q, k ρ B _ g W'⟩
    | dic kvs =>
      obtain ⟨ky, hp2, e4, e5⟩ := bind_some e2
      obtain ⟨hk, rfl⟩ := keyM_some e4
      obtain ⟨_, hp3, e6, e7⟩ := bind_some e5
      obtain ⟨hl, rfl⟩ := guardM_some e6
      cases e7
      obtain ⟨xs, h1, rk⟩ := rob.dic
      obtain ⟨g, W'⟩ := wset_dic W i1 h1 (rk.put ky r3)
      exact set_dict hu pins s σ H _ _ v ov iv u Q I ro ri rv ⟨a, xs, ky, rfl, dkey_rep hk r2, h1, by rw [← rk.len]; exact Nat.lt_of_lt_of_le (of_decide_eq_true hl) lim_le, k ρ B _ g W'⟩
  | non => cases e
  | bl _ => cases e
  | int _ => cases e
  | str _ => cases e
  | tup _ => cases e
  | lst _ => cases e
def gSb (f g : DEx) : DGx := fun d env => do
  let o ← f env
  let i ← g env
  putG o i d
  pure env
theorem dg_sub {o i : Expr} {fo fi : DEx} (hu : X.A.units + 1 < cLine) (ho : DE X o fo) (hi : DE X i fi)
    (ha : ∀ v, assign (.Subscript o i pos) X.env v = (do
      let ov ← holding [v] (eval o X.env)
      let iv ← holding [v, ov] (eval i X.env)
      standAt pos
      holding [v, ov, iv] (setItem ov iv v)
      release [v, ov, iv] []) := by intro _; rfl) : PG X (.Subscript o i pos) (tDG X.K (gSb fo fi)) := by
  intro pins s σ H v u Q I r h
  refine pg_sub ho hi (p_put hu) ha pins s σ H v u Q I r ?_
  obtain ⟨Z, env, ρ, B, hp, d, env', hp', S, rd, e, k⟩ := h
  obtain ⟨x, hp1, e1, e⟩ := bind_some e
  obtain ⟨y, hp2, e2, e⟩ := bind_some e
  obtain ⟨z, hp3, e3, e⟩ := bind_some e
  obtain ⟨rfl, rfl⟩ := pure_some e
  refine tD.run S e1 fun vx ρ1 B1 H1 g1 S1 r1 => tD.run S1 e2 fun vy ρ2 B2 H2 g2 S2 r2 => ?_
  exact ⟨ρ2, B2, hp2, x, y, d, hp3, S2.wo, RepV.grow S1.wo.rb g2 _ _ r1, r2, RepV.grow S.wo.rb (g1.trans g2) _ _ rd, e3, fun ρ3 B3 H3 g3 W3 => k _ ρ3 B3 H3 ((g1.trans (g2.trans g3)).gs S.wo.rb) (S2.grow g3 W3)⟩
def kindG : String → DV → M Unit
  | "list", .lst _ => pure ()
  | "str", .str _ => pure ()
  | T, .ref n => do
    match ← getW n with
    | .lst _ => guardM (T == "list")
    | .dic _ => guardM (T == "dict")
    | _ => failure
  | _, _ => failure
theorem kindG_ty {T : String} {d : DV} {hp hp' : Hs} {K : PySem.W.Frag} {ρ : List Addr} {B : Addr → Prop} {H : Hp} {v : V} {u : Unit} (W : WOk K ρ B hp H) (r : RepV K ρ B H d v) (h : kindG T d hp = some (u, hp')) : hp = hp' ∧ tyV K T v H := by
  unfold kindG at h
  split at h
  · obtain ⟨_, rfl⟩ := pure_some h
    obtain ⟨a, xs, rfl, _, sq, _⟩ := r.lstI
    exact ⟨rfl, .inl ⟨rfl, xs, sq⟩⟩
  · obtain ⟨_, rfl⟩ := pure_some h
    obtain rfl := r.strI
    exact ⟨rfl, rfl⟩
  · obtain ⟨o, hp1, e1, e2⟩ := bind_some h
    obtain ⟨e3, rfl⟩ := getW_some e1
    obtain ⟨a, rfl, _, ro⟩ := RepV.refW W r e3
    cases o with
    | lst ds =>
      obtain ⟨hT, rfl⟩ := guardM_some e2
      obtain ⟨xs, h1, _⟩ := ro
      exact ⟨rfl, .inl ⟨by simpa using hT, xs, SqL.of h1⟩⟩
    | dic kvs =>
      obtain ⟨hT, rfl⟩ := guardM_some e2
      obtain ⟨xs, h1, _⟩ := ro
      exact ⟨rfl, .inr (.inr (.inl ⟨by simpa using hT, .inl ⟨xs, h1⟩⟩))⟩
    | ins _ _ => cases e2
  · cases h
def tPm (K : PySem.W.Frag) (m : DV → List DV → M DV) : V → List V → Hp → VK → Prop := fun x vs H Q => ∃ ρ B hp dx ds d hp', WOk K ρ B hp H ∧ RepV K ρ B H dx x ∧ RepL K ρ B H ds vs ∧ m dx ds hp = some (d, hp') ∧ Fol K ρ B H d hp' Q
def eMth (T : String) (m : DV → List DV → M DV) (f : DEx) (a : DAx) : DEx := fun env => do
  let x ← f env
  kindG T x
  let ds ← a env
  m x ds
theorem de_mth {T id : String} {name : Str} {o : Expr} {es : List Expr} {fo : DEx} {fs : DAx} {m : DV → List DV → M DV} {apos cpos : Pos} (hm : MtR X id (tPm X.K m)) (pa : PlainAttrs T) (slot : Slot T name id) (hty : typeOf (.builtin id) = pure (.type "method_descriptor")) (ho : DE X o fo) (ha : DA X (e :: es) fs)
    (hbase : attributeBase o name X.env (eval o X.env) = eval o X.env := by rfl)
    (hfew : ((backTo cpos (starEach (e :: es) X.env)).all (fun x => !x.1) && (backToKw cpos (keywordEach [] X.env)).all (fun x => x.1.isSome)
      && decide ((e :: es).length + ([] : List Keyword).length + (if ([] : List Keyword).isEmpty then 0 else 1) < 30)) = true := by rfl)
    (hline : (apos.endLine == cpos.line) = true := by rfl) (hs : starEach (e :: es) X.env = (false, eval e X.env) :: starEach es X.env := by rfl) (hplain : (backTo cpos (starEach es X.env)).any (·.1) = false := by rfl) :
    DE X (.Call (.Attribute o name apos) (e :: es) [] cpos) (eMth T m fo fs) :=
  L2.PE.imp (pe_bm pa slot hty hm ho ha hbase hfew hline hs hplain) fun σ H Q ⟨Z, env, ρ, B, hp, d, hp', S, e, k⟩ => by
    obtain ⟨x, hp1, e1, ea⟩ := bind_some e
    obtain ⟨_, hp2, e2, eb⟩ := bind_some ea
    obtain ⟨ds, hp3, e3, ec⟩ := bind_some eb
    refine tD.run S e1 fun v ρ1 B1 H1 g1 S1 r1 => ?_
    obtain ⟨z, ty⟩ := kindG_ty S1.wo r1 e2
    rw [← z] at e3
    exact ⟨ty, tDA.run S1 e3 fun vs ρ2 B2 H2 g2 S2 r2 => ⟨ρ2, B2, hp3, x, ds, d, hp', S2.wo, RepV.grow S1.wo.rb g2 _ _ r1, r2, ec, k.after (g1.trans g2)⟩⟩
def onL (x : DV) (k : Nat → List DV → M DV) : M DV := match x with
  | .ref n => do
    match ← getW n with
    | .lst ds => k n ds
    | _ => failure
  | _ => failure
def onD (x : DV) (k : Nat → List (Key × DV) → M DV) : M DV := match x with
  | .ref n => do
    match ← getW n with
    | .dic ds => k n ds
    | _ => failure
  | _ => failure
theorem onL_some {x d : DV} {k : Nat → List DV → M DV} {hp hp' : Hs} (h : onL x k hp = some (d, hp')) : ∃ n ds, x = .ref n ∧ hp[n]? = some (.lst ds) ∧ k n ds hp = some (d, hp') := by
  cases x with
  | ref n =>
    obtain ⟨o, hp1, e1, e2⟩ := bind_some h
    obtain ⟨e3, rfl⟩ := getW_some e1
    cases o with
    | lst ds => exact ⟨n, ds, rfl, e3, e2⟩
    | dic _ => cases e2
    | ins _ _ => cases e2
  | _ => cases h
theorem onD_some {x d : DV} {k : Nat → List (Key × DV) → M DV} {hp hp' : Hs} (h : onD x k hp = some (d, hp')) : ∃ n ds, x = .ref n ∧ hp[n]? = some (.dic ds) ∧ k n ds hp = some (d, hp') := by
  cases x with
  | ref n =>
    obtain ⟨o, hp1, e1, e2⟩ := bind_some h
    obtain ⟨e3, rfl⟩ := getW_some e1
    cases o with
    | dic ds => exact ⟨n, ds, rfl, e3, e2⟩
    | lst _ => cases e2
    | ins _ _ => cases e2
  | _ => cases h
def mAppend (x : DV) : List DV → M DV
  | [d] => onL x fun n ds => do guardM (decide (ds.length < lim)); setW n (.lst (ds ++ [d])); pure .non
  | _ => failure
theorem m_append : MtR X "list.append" (tPm X.K mAppend) := by
  intro pins s σ H x vs v us Q I rx rv h
  obtain ⟨ρ, B, hp, dx, es, d, hp', W, r1, r2, e, k⟩ := h
  unfold mAppend at e
  split at e
  · rename_i y
    obtain ⟨n, ds, rfl, h0, e⟩ := onL_some e
    obtain ⟨_, hp1, e1, e2⟩ := bind_some e
    obtain ⟨hl, rfl⟩ := guardM_some e1
    cases e2
    obtain ⟨a, rfl, i1, xs, h1, l1⟩ := RepV.refW W r1 h0
    obtain ⟨w, rfl, rw'⟩ := r2.oneI
    obtain ⟨g, W'⟩ := wset_lst W i1 h1 (RepL.append l1 (RepL.one rw'))
    exact mt_append pins s σ H _ _ v us Q I rx rv ⟨a, xs, w, rfl, rfl, h1, by rw [← l1.length]; exact Nat.lt_of_lt_of_le (of_decide_eq_true hl) lim_le, k _ ρ B _ g W' rep_non⟩
  · cases e
def mInsert (x : DV) : List DV → M DV
  | [.int i, d] => onL x fun n ds => do guardM (decide (ds.length < lim) && smallI i); setW n (.lst (ds.take (insN ds.length i) ++ d :: ds.drop (insN ds.length i))); pure .non
  | _ => failure
def mDPop (x : DV) : List DV → M DV
  | [y] => onD x fun n kvs => do
    let k ← keyM y
    let d ← optM (valD kvs k)
    setW n (.dic (dropD kvs k))
    pure d
  | [y, z] => onD x fun n kvs => do
    let k ← keyM y
    match valD kvs k with
    | some d => do setW n (.dic (dropD kvs k)); pure d
    | none => pure z
  | _ => failure
def mDGet (x : DV) : List DV → M DV
  | [y] => onD x fun n kvs => do
    let k ← keyM y
    pure ((valD kvs k).getD .non)
  | [y, z] => onD x fun n kvs => do
    let k ← keyM y
    pure ((valD kvs k).getD z)
  | _ => failure
theorem m_dget (hu : X.A.units + 1 < cLine) : MtR X "dict.get" (tPm X.K mDGet) := by
  intro pins s σ H x vs v us Q I rx rv h
  obtain ⟨ρ, B, hp, dx, es, d, hp', W, r1, r2, e, k⟩ := h
  unfold mDGet at e
  split at e
  · rename_i y
    obtain ⟨n, kvs, rfl, h0, e⟩ := onD_some e
    obtain ⟨ky, hp1, e1, e⟩ := bind_some e
    obtain ⟨hk, rfl⟩ := keyM_some e1
    obtain ⟨rfl, rfl⟩ := pure_some e
    obtain ⟨a, rfl, i1, ro⟩ := RepV.refW W r1 h0
    obtain ⟨xs, h1, rk⟩ := ro.dic
    obtain ⟨w, rfl, rw'⟩ := r2.oneI
    obtain rfl := dkey_rep hk rw'
    refine mt_dget hu pins s σ H _ _ v us Q I rx rv ⟨a, xs, ky, rfl, h1, .inl ⟨rfl, k _ ρ B H Gr.refl W ?_⟩⟩
    rcases rk.val ky with ⟨z1, zv⟩ | ⟨d'', v', z1, zv, rz⟩ <;> rw [z1, zv]
    · exact rep_non
    · exact rz
  · rename_i y z
    obtain ⟨n, kvs, rfl, h0, e⟩ := onD_some e
    obtain ⟨ky, hp1, e1, e⟩ := bind_some e
    obtain ⟨hk, rfl⟩ := keyM_some e1
    obtain ⟨rfl, rfl⟩ := pure_some e
    obtain ⟨a, rfl, i1, ro⟩ := RepV.refW W r1 h0
    obtain ⟨xs, h1, rk⟩ := ro.dic
    unfold RepL at r2
    obtain ⟨w, t, rfl, rw', r2⟩ := r2
    obtain rfl := dkey_rep hk rw'
    obtain ⟨w2, rfl, rw2⟩ := r2.oneI
    refine mt_dget hu pins s σ H _ _ v us Q I rx rv ⟨a, xs, ky, rfl, h1, .inr ⟨w2, rfl, k _ ρ B H Gr.refl W ?_⟩⟩
    rcases rk.val ky with ⟨z1, zv⟩ | ⟨d'', v', z1, zv, rz⟩ <;> rw [z1, zv]
    · exact rw2
    · exact rz
  · cases e
end
end D
namespace L2
open PySem PySem.Spec PyProof.Rows
theorem Inv.kfresh {X : Cx} {pins : List (Addr × Obj)} {σ : St} {H : Hp} {s : Shared} (I : Inv X pins σ H s) : X.K.lookup s.heap.objs.size = none := by
  cases q : X.K.lookup s.heap.objs.size with
  | none => rfl
  | some o => exact absurd (Heap.lt_size (I.kIn _ o q)) (Nat.lt_irrefl _)
end L2
namespace D
open PySem PySem.Spec PyProof.Rows L2
section
variable {X : Cx} {e a b c : Expr} {f fa fb fc : DEx} {ca cb : DTx} {pos : Pos}
def evP : List (DEx × DEx) → En → M (List (Key × DV))
  | [], _ => pure []
  | (f, g) :: r, env => do
    let x ← f env
    let k ← keyM x
    let y ← g env
    let ps ← evP r env
    pure ((k, y) :: ps)
def mergeD (kvs more : List (Key × DV)) : List (Key × DV) := more.foldl (fun acc kv => putD acc kv.1 kv.2) kvs
def eNewD (ps : List (DEx × DEx)) : DEx := fun env => do
  let kvs ← evP ps env
  guardM (decide (kvs.length ≤ 15))
  allocW (.dic (mergeD [] kvs))
theorem RepK.merge {K : PySem.W.Frag} {ρ : List Addr} {B : Addr → Prop} {H : Hp} {more : List (Key × DV)} {ms : List (Key × V)} (r : RepK K ρ B H more ms) : ∀ {kvs : List (Key × DV)} {xs : List (Key × V)}, RepK K ρ B H kvs xs → RepK K ρ B H (mergeD kvs more) (mergeK xs ms) := by
  induction r with
  | nil => intro kvs xs r; exact r
  | @cons p q _ _ h _ ih =>
    intro kvs xs r
    unfold mergeD mergeK at ih ⊢
    rw [List.foldl_cons, List.foldl_cons, h.1]
    exact ih (r.put q.1 h.2)
def eNewD0 : DEx := fun _ => allocW (.dic [])
abbrev NX := Nat → M (Option DV)
def NxtOk (K : PySem.W.Frag) (ρ : List Addr) (B : Addr → Prop) (H : Hp) (nxt : NX) (J : It) : Prop :=
  ∀ ρ1 B1 hp1 H1, Gs K ρ B H ρ1 B1 H1 → WOk K ρ1 B1 hp1 H1 → ∀ (i : Nat) (o : Option DV) (hp2 : Hs), nxt i hp1 = some (o, hp2) → hp2 = hp1 ∧ match o with
    | none => J.stop i H1
    | some d => J.go i H1 ∧ ∀ x H', J.yld i H1 x H' → RepV K ρ1 B1 H' d x ∧ (H' = H1 ∨ ∃ p o, H1 p = none ∧ H' = upd H1 p o)
abbrev DXx := En → M NX
def tDX (K : PySem.W.Frag) (f : DXx) : TI := fun σ H R => ∃ Z env ρ B hp nxt hp', SOk K Z env σ ρ B hp H ∧ f env hp = some (nxt, hp') ∧ ∀ J ρ' B' H', Gr K ρ B H ρ' B' H' → WOk K ρ' B' hp' H' → NxtOk K ρ' B' H' nxt J → R J H'
def DX (X : Cx) (tg iter : Expr) (f : DXx) : Prop := PI X tg iter (tDX X.K f)
def nxD (ds : List DV) : NX := fun i => if i ≤ ds.length then pure ds[i]? else failure
def nxW (n : Nat) : NX := fun i => do
  match ← getW n with
  | .lst ds => pure ds[i]?
  | _ => failure
theorem nxD_ok {K : PySem.W.Frag} {ρ : List Addr} {B : Addr → Prop} {H : Hp} {ds : List DV} {J : It} (h : ItOk K ρ B H ds J) : NxtOk K ρ B H (nxD ds) J := fun ρ1 B1 hp1 H1 g W i o hp2 e => by
  unfold nxD at e
  by_cases hi : i ≤ ds.length
  · rw [if_pos hi] at e
    obtain ⟨rfl, rfl⟩ := pure_some e
    obtain ⟨h1, h2⟩ := h ρ1 B1 H1 g W.rb W.bt
    refine ⟨rfl, ?_⟩
    cases q : ds[i]? with
    | none =>
      have : i = ds.length := by have := List.getElem?_eq_none_iff.mp q; omega
      subst this
      exact h2
    | some d => exact h1 i d q
  · rw [if_neg hi] at e; cases e
theorem nxW_ok {K : PySem.W.Frag} {ρ : List Addr} {B : Addr → Prop} {H : Hp} {n : Nat} {a : Addr} (ha : ρ[n]? = some a) (kf : ∀ H1 : Hp, ∀ xs ys, H1 a = some (.lst xs) → SqL K H1 a ys → ys = xs) : NxtOk K ρ B H (nxW n) (Itl K a) := fun ρ1 B1 hp1 H1 g W i o hp2 e => by
  obtain ⟨ob, hp3, e1, e2⟩ := bind_some e
  obtain ⟨e3, rfl⟩ := getW_some e1
  have ha1 := pre_get g.pre ha
  cases ob with
  | dic _ => cases e2
  | ins _ _ => cases e2
  | lst ds =>
    obtain ⟨rfl, rfl⟩ := pure_some e2
    obtain ⟨xs, h1, l1⟩ := W.obj n a _ ha1 e3
    refine ⟨rfl, ?_⟩
    cases q : ds[i]? with
    | none => exact ⟨xs, SqL.of h1, by rw [← l1.length]; exact List.getElem?_eq_none_iff.mp q⟩
    | some d =>
      obtain ⟨x, hx, rx⟩ := l1.get q
      refine ⟨⟨xs, x, SqL.of h1, hx⟩, fun y H' ⟨eH, hy⟩ => ?_⟩
      subst eH
      have := hy xs (SqL.of h1)
      rw [hx] at this; cases this
      exact ⟨rx, .inl rfl⟩
theorem sql_uniq {K : PySem.W.Frag} {a : Addr} (hk : K.lookup a = none) (H : Hp) (xs ys : List V) (h : H a = some (.lst xs)) (h' : SqL K H a ys) : ys = xs := by
  rcases h' with (h' | ⟨o, h'⟩) | ⟨o, _, _, h', _⟩
  · rw [h] at h'; cases h'; rfl
  · rw [h] at h'; cases h'
  · rw [hk] at h'; cases h'
def xLs (f : DEx) : DXx := fun env => do
  match ← f env with
  | .lst ds => pure (nxD ds)
  | .ref n => do
    match ← getW n with
    | .lst _ => pure (nxW n)
    | _ => failure
  | _ => failure
variable {tg iter : Expr}
theorem dx_list (h : DE X iter f) : DX X tg iter (xLs f) := L2.PI.imp (pi_list (L2.PE.kf h)) fun σ H R ⟨Z, env, ρ, B, hp, nxt, hp', S, e, k⟩ => by
  obtain ⟨d, hp1, e1, e2⟩ := bind_some e
  refine tD.run S e1 fun v ρ1 B1 H1 g1 S1 r1 kf => ?_
  cases d with
  | lst ds =>
    obtain ⟨rfl, rfl⟩ := pure_some e2
    obtain ⟨a, xs, rfl, nb, sq, rl⟩ := r1.lstI
    exact ⟨a, rfl, ⟨xs, sq⟩, k _ ρ1 B1 H1 g1 S1.wo (nxD_ok (it_list nb sq rl))⟩
  | ref n =>
    obtain ⟨o, hp2, e3, e4⟩ := bind_some (show (getW n >>= fun o => (match o with | .lst _ => pure (nxW n) | _ => failure : M NX)) hp1 = some (nxt, hp') from e2)
    obtain ⟨e5, e6⟩ := getW_some e3
    cases o with
    | lst ds =>
      obtain ⟨rfl, z⟩ := pure_some e4
      rw [← z, ← e6] at k
      obtain ⟨a, rfl, i1, xs, h1, _⟩ := RepV.refW S1.wo r1 e5
      exact ⟨a, rfl, ⟨xs, SqL.of h1⟩, k _ ρ1 B1 H1 g1 S1.wo (nxW_ok i1 (sql_uniq (kf a _ h1)))⟩
    | dic _ => cases e4
    | ins _ _ => cases e4
  | non => cases e2
  | bl _ => cases e2
  | int _ => cases e2
  | str _ => cases e2
  | tup _ => cases e2
def forX (nxt : NX) (b : DV → DSx) : Nat → Nat → DSx
  | 0, _, _ => failure
  | m + 1, i, env => do
    match ← nxt i with
    | none => pure (.nx, env)
    | some d => do
      let r ← b d env
      match r.1 with
      | .nx => forX nxt b m (i + 1) r.2
      | .ct => forX nxt b m (i + 1) r.2
      | .bk => pure (.nx, r.2)
      | .rt x => pure (.rt x, r.2)
def sForX (f : DXx) (g : DGx) (body : DSx) : DSx := fun env => do let nxt ← f env; forX nxt (fun d env => do let env' ← g d env; body env') 100000 0 env
theorem ds_forX {body : List Stmt} {fi : DXx} {g : DGx} {sb : DSx} (hp : PassesOwn (model X.prog X.w) X.A X.env X.xe) (hc : X.calm = true) (hi : DX X tg iter fi) (hg : PG X tg (tDG X.K g)) (hb : DSs X body sb)
    (hs : ∀ x, foldedSetIterable iter X.env x = pure x := by intro _; rfl) : DS X (.For tg iter body [] pos) (sForX fi g sb) :=
  (ps_for hp hc hi hg hb hs).imp fun D σ H ⟨Z, env, ρ, B, hp, fl, env', hp', S, e, k⟩ => by
    obtain ⟨nxt, hp1, e1, e2⟩ := bind_some e
    refine ⟨Z, env, ρ, B, hp, nxt, hp1, S, e1, fun J ρ1 B1 H1 g1 W1 it => ?_⟩
    have k1 := k.after (g1.gs S.wo.rb)
    refine ⟨fun i m σ H => ∃ env ρ B hp, SOk X.K Z env σ ρ B hp H ∧ Gs X.K ρ1 B1 H1 ρ B H ∧ forX nxt (fun d env => do let env' ← g d env; sb env') m i env hp = some ((fl, env'), hp'),
      ⟨100000, env, ρ1, B1, hp1, S.grow g1 W1, Gs.refl, e2⟩, ?_⟩
    rintro i m σ H ⟨env2, ρ2, B2, hp2, S2, g2, e3⟩
    cases m with
    | zero => cases e3
    | succ m =>
      obtain ⟨o, hpo, eo, e3⟩ := bind_some e3
      obtain ⟨rfl, ito⟩ := it ρ2 B2 hp2 H g2 S2.wo i o hpo eo
      cases o with
      | none =>
        obtain ⟨z, rfl⟩ := pure_some e3; cases z
        exact .inl ⟨ito, k1 σ ρ2 B2 H g2 S2⟩
      | some d =>
        obtain ⟨go, yl⟩ := ito
        obtain ⟨⟨f1, env4⟩, hp4, e4, e5⟩ := bind_some e3
        obtain ⟨env3, hp3, e6, e7⟩ := bind_some e4
        refine .inr ⟨go, fun σ' H' => ∃ env ρ B hp, SOk X.K Z env σ' ρ B hp H' ∧ Gs X.K ρ1 B1 H1 ρ B H' ∧ forX nxt (fun d env => do let env' ← g d env; sb env') m (i + 1) env hp = some ((fl, env'), hp'),
          fun σ' H' q => ⟨m, Nat.lt_succ_self m, q⟩, fun x H' y => ?_⟩
        obtain ⟨rx, hx⟩ := yl x H' y
        have S3 : SOk X.K Z env2 σ ρ2 B2 hpo H' ∧ Gs X.K ρ2 B2 H ρ2 B2 H' := by
          rcases hx with rfl | ⟨p, o, hn, rfl⟩
          · exact ⟨S2, Gs.refl⟩
          · exact ⟨S2.grow (Gr.laid hn) (S2.wo.laid hn), upd_gs S2.wo.rb hn⟩
        refine ⟨Z, env2, ρ2, B2, hpo, d, env3, hp3, S3.1, rx, e6, fun σ5 ρ5 B5 H5 g5 S5 => ⟨Z, env3, ρ5, B5, hp3, f1, env4, hp4, S5, e7, fun σ6 ρ6 B6 H6 g6 S6 => ?_⟩⟩
        have G6 := g2.trans (S3.2.trans (g5.trans g6))
        cases f1 with
        | nx => exact ⟨env4, ρ6, B6, hp4, S6, G6, e5⟩
        | ct => exact ⟨env4, ρ6, B6, hp4, S6, G6, e5⟩
        | bk => obtain ⟨z, rfl⟩ := pure_some e5; cases z; exact k1 σ6 ρ6 B6 H6 G6 S6
        | rt d => obtain ⟨z, rfl⟩ := pure_some e5; cases z; exact k1 σ6 ρ6 B6 H6 G6 S6
def compX (nxt : NX) (g : DV → M Bool) (f : DV → M DV) : Nat → Nat → M (List DV)
  | 0, _ => failure
  | m + 1, i => do
    match ← nxt i with
    | none => pure []
    | some d => do
      if ← g d then
        let y ← f d
        let ys ← compX nxt g f m (i + 1)
        pure (y :: ys)
      else compX nxt g f m (i + 1)
def eCompX (nw : Bool) (src : DXx) (idx : List Nat) (t : DTx) (f : DEx) : DEx := fun env => do
  let nxt ← src env
  let out ← compX nxt (fun d => t (cE idx env d)) (fun d => f (cE idx env d)) lim 0
  if nw then allocW (.lst out) else pure (.lst out)
variable {elt : Expr} {x : Str} {px : Pos} {ifs : List Expr} {scope : Scope} {cl : List (Str × Addr)} {caps : List Str} {idx : List Nat} {src : DXx} {te : DTx} {nw : Bool}
theorem eCompX_imp {K : PySem.W.Frag} {σ : St} {H : Hp} {Q : VK} (h : tD K (eCompX nw src idx te f) σ H Q) : tComp K (tDX K src) (tDT K te) (tD K f) idx σ H Q := by
  obtain ⟨Z, env, ρ, B, hp, d, hp', S, e, k⟩ := h
  obtain ⟨nxt, hp1, e1, e2⟩ := bind_some e
  obtain ⟨out, hp3, e5, e6⟩ := bind_some e2
  refine ⟨Z, env, ρ, B, hp, nxt, hp1, S, e1, fun J ρ1 B1 H1 g1 W1 it D hD hK => ?_⟩
  have g1s := g1.gs S.wo.rb
  refine ⟨fun i m ys H2 => H2 D = some (.lst ys) ∧ i + m = lim ∧ ∃ ρ2 B2 hp2 don rst, Gr K ρ1 B1 H1 ρ2 B2 H2 ∧ WOk K ρ2 B2 hp2 H2 ∧ B2 D ∧ D ∉ ρ2 ∧ RepL K ρ2 B2 H2 don ys ∧ don.length ≤ i ∧
    compX nxt (fun d => te (cE idx env d)) (fun d => f (cE idx env d)) m i hp2 = some (rst, hp3) ∧ don ++ rst = out, ?_, ?_⟩
  · exact ⟨lim, upd_same, Nat.zero_add _, ρ1, banP B1 D, hp1, [], out, Gr.banned hD hK, W1.banned hD hK, .inr rfl, fun z => W1.bt D (W1.rb D z) hD, RepL.nil, Nat.le_refl _, e5, rfl⟩
  · rintro i m ys H2 ⟨hDs, him, ρ2, B2, hp2, don, rst, g2, W2, bD, nD, rd, dn, e7, e8⟩
    refine ⟨hDs, ?_⟩
    cases m with
    | zero => cases e7
    | succ m =>
      obtain ⟨o, hpo, eo, e7⟩ := bind_some e7
      obtain ⟨rfl, ito⟩ := it ρ2 B2 hp2 H2 (g2.gs W1.rb) W2 i o hpo eo
      cases o with
      | some d0 =>
        obtain ⟨go, yl⟩ := ito
        obtain ⟨b, hp4, e9, e10⟩ := bind_some e7
        refine .inr ⟨go, fun x H3 y => ?_⟩
        obtain ⟨rx, hx⟩ := yl x H3 y
        have S3 : Gr K ρ2 B2 H2 ρ2 B2 H3 ∧ WOk K ρ2 B2 hpo H3 := by
          rcases hx with rfl | ⟨p, o, hn, rfl⟩
          · exact ⟨Gr.refl, W2⟩
          · exact ⟨Gr.laid hn, W2.laid hn⟩
        have g3 := g2.trans S3.1
        have C3 := cσ_ok (idx := idx) S (g1s.trans (g3.gs W1.rb)) S3.2 rx
        refine tDT.run C3 e9 fun ρ4 B4 H4 g4 S4 => ?_
        have hD4 : H4 D = some (.lst ys) := g4.keep D _ nD (S3.1.keep D _ nD hDs)
        have nD4 : D ∉ ρ4 := fun z => (g4.rnew D z).elim nD fun q => by rw [S3.1.keep D _ nD hDs] at q; cases q
        cases b with
        | false =>
          exact iteF ⟨m, Nat.lt_succ_self m, hD4, by omega, ρ4, B4, hp4, don, rst, g3.trans g4, S4.wo, g4.ban D bD, nD4, RepL.grow W2.rb (S3.1.trans g4) _ _ rd, by omega, e10, e8⟩
        | true =>
          obtain ⟨z, hp5, e11, e12⟩ := bind_some e10
          obtain ⟨zs, hp6, e13, e14⟩ := bind_some e12
          obtain ⟨rfl, rfl⟩ := pure_some e14
          refine iteT (tD.run S4 e11 fun v ρ5 B5 H5 g5 S5 r5 => ?_)
          have hD5 : H5 D = some (.lst ys) := g5.keep D _ nD4 hD4
          have nD5 : D ∉ ρ5 := fun z => (g5.rnew D z).elim nD4 fun q => by rw [hD4] at q; cases q
          have bD5 : B5 D := g5.ban D (g4.ban D bD)
          have G5 := g3.trans (g4.trans g5)
          have rd5 := RepL.grow W2.rb (S3.1.trans (g4.trans g5)) _ _ rd
          have trk : ∀ b, (upd H5 D (.lst (ys ++ [v]))) b = none → H5 b = none := fun b q => by
            by_cases e : b = D
            · subst e; rw [upd_same] at q; cases q
            · rw [upd_ne e] at q; exact q
          have g6 : Gs K ρ5 B5 H5 ρ5 B5 (upd H5 D (.lst (ys ++ [v]))) := ⟨List.prefix_rfl, fun _ h => .inl h, fun b o nb h => by rw [upd_ne (show b ≠ D from fun z => nb (by rw [z]; exact bD5))]; exact h, trk⟩
          refine ⟨hD5, ?_, m, Nat.lt_succ_self m, upd_same, by omega, ρ5, B5, hp5, don ++ [z], zs, ?_, ?_, bD5, nD5, RepL.gs g6 _ _ (RepL.append rd5 (RepL.one r5)), by simp; omega, e13, by rw [← e8]; simp⟩
          · have h1 := rd5.length
            have h2 : lim < sizeLine := by decide
            omega
          · exact ⟨G5.pre, G5.ban, G5.new, G5.rnew, fun b o nb h => by rw [upd_ne (show b ≠ D from fun q => by rw [q, hD] at h; cases h)]; exact G5.keep b o nb h, fun b q => G5.trk b (trk b q)⟩
          · exact ⟨S5.wo.len, S5.wo.nd, fun j b o q1 q2 => ORep.gs g6 (upd_ne (show b ≠ D from fun z => nD5 (by rw [← z]; exact List.mem_of_getElem? q1))) (S5.wo.obj j b o q1 q2), S5.wo.rb, fun b z q => S5.wo.bt b z (trk b q), S5.wo.bk⟩
      | none =>
        obtain ⟨z, z'⟩ := pure_some e7
        subst z
        subst z'
        refine .inl ⟨ito, ?_⟩
        rw [List.append_nil] at e8
        subst e8
        cases nw with
        | false =>
          obtain ⟨rfl, rfl⟩ := pure_some (show (pure (.lst don) : M DV) hpo = some (d, hp') from e6)
          have gU : Gs K ρ2 B2 H2 ρ2 (fun b => B2 b ∧ b ≠ D) H2 := ⟨List.prefix_rfl, fun _ h => .inl h.1, fun _ _ _ h => h, fun _ h => h⟩
          refine k (.ref D) ρ2 (fun b => B2 b ∧ b ≠ D) H2 (g1.trans ⟨g2.pre, fun b z => ⟨g2.ban b z, fun q => W1.bt b z (q ▸ hD)⟩, fun b z => g2.new b z.1, g2.rnew, g2.keep, g2.trk⟩)
            ⟨W2.len, W2.nd, fun j b o q1 q2 => ORep.gs gU rfl (W2.obj j b o q1 q2), fun b z => ⟨W2.rb b z, fun q => nD (q ▸ z)⟩, fun b z => W2.bt b z.1, fun b z => W2.bk b z.1⟩ (rep_lst (fun z => z.2 rfl) (SqL.of hDs) (RepL.gs gU _ _ rd))
        | true =>
          cases (show some (DV.ref hpo.length, hpo ++ [OV.lst don]) = some (d, hp') from e6)
          have gU : Gs K ρ2 B2 H2 (ρ2 ++ [D]) B2 H2 := ⟨List.prefix_append _ _, fun _ h => .inl h, fun _ _ _ h => h, fun _ h => h⟩
          refine k (.ref D) (ρ2 ++ [D]) B2 H2 (g1.trans ⟨g2.pre.trans (List.prefix_append _ _), g2.ban, g2.new, fun a z => (List.mem_append.mp z).elim (g2.rnew a) fun q => .inr (by rw [List.mem_singleton.mp q]; exact hD), g2.keep, g2.trk⟩)
            ⟨by simp [W2.len], List.nodup_append.mpr ⟨W2.nd, by simp, fun a ha b hb => by rw [List.mem_singleton.mp hb]; exact fun z => nD (z ▸ ha)⟩, fun j b o q1 q2 => ?_, fun b z => (List.mem_append.mp z).elim (W2.rb b) fun q => by rw [List.mem_singleton.mp q]; exact bD, W2.bt, W2.bk⟩ ?_
          · by_cases hi : j < ρ2.length
            · rw [List.getElem?_append_left hi] at q1
              rw [List.getElem?_append_left (by rw [← W2.len]; exact hi)] at q2
              exact ORep.gs gU rfl (W2.obj j b o q1 q2)
            · rw [List.getElem?_append_right (by omega)] at q1
              rw [List.getElem?_append_right (by rw [← W2.len]; omega)] at q2
              have hi0 : j - ρ2.length = 0 := by
                have := (List.getElem?_eq_some_iff.mp q1).1
                simp at this; omega
              rw [hi0] at q1
              rw [← W2.len, hi0] at q2
              simp at q1 q2
              subst q1 q2
              exact ⟨ys, hDs, RepL.gs gU _ _ rd⟩
          · unfold RepV
            exact ⟨D, rfl, by rw [← W2.len]; simp⟩
theorem de_compX (S : CompS X x scope cl caps idx) (hc : X.calm = true) (hi : DX X (.Name x px) iter src)
    (ht : ∀ C s₀ H₀ ex, DTs (cxComp X scope cl C (x :: caps) s₀ H₀ ex) ifs te) (he : ∀ C s₀ H₀ ex, DE (cxComp X scope cl C (x :: caps) s₀ H₀ ex) elt f)
    (hs : ∀ x, foldedSetIterable iter X.env x = pure x := by intro _; rfl) : DE X (.ListComp elt [⟨.Name x px, iter, ifs, 0⟩] scope pos) (eCompX nw src idx te f) :=
  L2.PE.imp (pe_comp (tt := tDT X.K te) (te := tD X.K f) S hc hi ht he hs) fun _ _ _ h => eCompX_imp h
theorem ds_compX (i : Nat) {y : Str} {py spos : Pos} (hN : X.N.Nodup) (S : CompS X x scope cl caps idx) (hc : X.calm = true) (hi : DX X (.Name x px) iter src)
    (ht : ∀ C s₀ H₀ ex, DTs (cxComp X scope cl C (x :: caps) s₀ H₀ ex) ifs te) (he : ∀ C s₀ H₀ ex, DE (cxComp X scope cl C (x :: caps) s₀ H₀ ex) elt f)
    (hy : X.N[i]? = some y := by rfl) (hx : Loc X.env.scope y := by first | exact Or.inl rfl | exact Or.inr rfl)
    (hsw : swapsWith (.ListComp elt [⟨.Name x px, iter, ifs, 0⟩] scope pos) (some (.Name y py)) spos.line X.env = pure true := by with_unfolding_all rfl)
    (hf : X.fn y = true ∨ X.env.scope.names.lookup y = some .local := by first | exact .inl rfl | exact .inr rfl | assumption)
    (hs : ∀ x, foldedSetIterable iter X.env x = pure x := by intro _; rfl) : DS X (.Assign [.Name y py] (.ListComp elt [⟨.Name x px, iter, ifs, 0⟩] scope pos) spos) (sSet i (eCompX nw src idx te f)) :=
  L2.PS.imp (ps_comp (tt := tDT X.K te) (te := tD X.K f) S hc hi ht he hN hy hx hsw hf hs) fun _ _ _ h => sSet_imp (fun _ _ _ q => eCompX_imp q) h
end
end D
namespace D
open PySem PySem.Spec PyProof.Rows L2
def WP {α : Type} (m : M α) (hp : Hs) (Q : α → Hs → Prop) : Prop := ∃ x hp', m hp = some (x, hp') ∧ Q x hp'
section
variable {α β : Type} {m : M α} {k : α → M β} {hp : Hs} {Q : α → Hs → Prop} {R : β → Hs → Prop}
theorem WP_pure {x : α} : WP (pure x) hp Q ↔ Q x hp := ⟨fun ⟨y, h, e, q⟩ => by obtain ⟨rfl, rfl⟩ := pure_some e; exact q, fun q => ⟨x, hp, rfl, q⟩⟩
theorem WP_bind : WP (m >>= k) hp R ↔ WP m hp fun x h => WP (k x) h R := ⟨fun ⟨y, h, e, q⟩ => by obtain ⟨x, h1, e1, e2⟩ := bind_some e; exact ⟨x, h1, e1, y, h, e2, q⟩, fun ⟨x, h1, e1, y, h, e2, q⟩ => ⟨y, h, (bind_at e1).trans e2, q⟩⟩
theorem WP.mono {Q' : α → Hs → Prop} (h : WP m hp Q) (hq : ∀ x h, Q x h → Q' x h) : WP m hp Q' := let ⟨x, h1, e, q⟩ := h; ⟨x, h1, e, hq x h1 q⟩
theorem WP.of {x : α} {hp' : Hs} (e : m hp = some (x, hp')) (q : Q x hp') : WP m hp Q := ⟨x, hp', e, q⟩
theorem WP.eq {x : α} (e : m = pure x) (q : Q x hp) : WP m hp Q := e ▸ WP_pure.mpr q
end
section
variable {hp : Hs} {env : En} {Q : Fl × En → Hs → Prop}
theorem WP_forL {b : DV → DSx} (I : Nat → En → Hs → Prop) (ds : List DV) (h0 : I 0 env hp) (hs : ∀ (i : Nat) d, ds[i]? = some d → ∀ env hp, I i env hp → WP (b d env) hp fun r h => match r.1 with
    | .nx => I (i + 1) r.2 h
    | .ct => I (i + 1) r.2 h
    | .bk => Q (.nx, r.2) h
    | .rt x => Q (.rt x, r.2) h) (he : ∀ env hp, I ds.length env hp → Q (.nx, env) hp) : WP (forL b ds env) hp Q := by
  suffices h : ∀ (m i : Nat) env hp, m + i = ds.length → I i env hp → WP (forL b (ds.drop i) env) hp Q by simpa using h ds.length 0 env hp rfl h0
  intro m
  induction m with
  | zero =>
    intro i env hp e hI
    have : i = ds.length := by omega
    subst this
    rw [List.drop_length]
    exact WP_pure.mpr (he env hp hI)
  | succ m ih =>
    intro i env hp e hI
    have hlt : i < ds.length := by omega
    rw [List.drop_eq_getElem_cons hlt, forL, WP_bind]
    refine (hs i ds[i] (List.getElem?_eq_getElem hlt) env hp hI).mono fun r h q => ?_
    obtain ⟨fl, env1⟩ := r
    cases fl with
    | nx => exact ih (i + 1) env1 h (by omega) q
    | ct => exact ih (i + 1) env1 h (by omega) q
    | bk => exact WP_pure.mpr q
    | rt x => exact WP_pure.mpr q
theorem WP_forX {nxt : NX} {b : DV → DSx} (ds : List DV) (I : Nat → En → Hs → Prop) (hl : ds.length < 100000) (hn : ∀ (i : Nat) env hp, i ≤ ds.length → I i env hp → nxt i hp = some (ds[i]?, hp)) (h0 : I 0 env hp) (hs : ∀ (i : Nat) d, ds[i]? = some d → ∀ env hp, I i env hp → WP (b d env) hp fun r h => match r.1 with
    | .nx => I (i + 1) r.2 h
    | .ct => I (i + 1) r.2 h
    | .bk => Q (.nx, r.2) h
    | .rt x => Q (.rt x, r.2) h) (he : ∀ env hp, I ds.length env hp → Q (.nx, env) hp) : WP (forX nxt b 100000 0 env) hp Q := by
  suffices h : ∀ (m i n : Nat) env hp, m + i = ds.length → m < n → I i env hp → WP (forX nxt b n i env) hp Q from h ds.length 0 100000 env hp rfl hl h0
  intro m
  induction m with
  | zero =>
    intro i n env hp e hn' hI
    have : i = ds.length := by omega
    subst this
    obtain ⟨n, rfl⟩ : ∃ k, n = k + 1 := ⟨n - 1, by omega⟩
    rw [forX, WP_bind]
    refine WP.of (hn _ env hp (Nat.le_refl _) hI) ?_
    rw [show ds[ds.length]? = none by simp]
    exact WP_pure.mpr (he env hp hI)
  | succ m ih =>
    intro i n env hp e hn' hI
    have hlt : i < ds.length := by omega
    obtain ⟨n, rfl⟩ : ∃ k, n = k + 1 := ⟨n - 1, by omega⟩
    rw [forX, WP_bind]
    refine WP.of (hn i env hp (by omega) hI) ?_
    simp only [List.getElem?_eq_getElem hlt]
    rw [WP_bind]
    refine (hs i ds[i] (List.getElem?_eq_getElem hlt) env hp hI).mono fun r h q => ?_
    obtain ⟨fl, env1⟩ := r
    cases fl with
    | nx => exact ih (i + 1) n env1 h (by omega) (by omega) q
    | ct => exact ih (i + 1) n env1 h (by omega) (by omega) q
    | bk => exact WP_pure.mpr q
    | rt x => exact WP_pure.mpr q
theorem nxD_at (ds : List DV) (i : Nat) (h : i ≤ ds.length) (hp : Hs) : nxD ds i hp = some (ds[i]?, hp) := by unfold nxD; rw [if_pos h]; rfl
theorem WP_forXD {b : DV → DSx} (ds : List DV) (I : Nat → En → Hs → Prop) (hl : ds.length < 100000) (h0 : I 0 env hp) (hs : ∀ (i : Nat) d, ds[i]? = some d → ∀ env hp, I i env hp → WP (b d env) hp fun r h => match r.1 with
    | .nx => I (i + 1) r.2 h
    | .ct => I (i + 1) r.2 h
    | .bk => Q (.nx, r.2) h
    | .rt x => Q (.rt x, r.2) h) (he : ∀ env hp, I ds.length env hp → Q (.nx, env) hp) : WP (forX (nxD ds) b 100000 0 env) hp Q :=
  WP_forX ds I hl (fun i env hp h _ => nxD_at ds i h hp) h0 hs he
end
theorem drf_int (n : Nat) (hp : Hs) (i : Int) : drf (n + 1) hp (.int i) = some (.int i) := rfl
theorem mapM_same {α : Type} {f : α → Option α} : ∀ {xs : List α}, (∀ x ∈ xs, f x = some x) → xs.mapM f = some xs
  | [], _ => rfl
  | x :: xs, h => by
    rw [List.mapM_cons, h x (by simp), mapM_same fun y hy => h y (List.mem_cons_of_mem _ hy)]; rfl
theorem drf_ints (n : Nat) (hp : Hs) (ns : List Int) : (ns.map DV.int).mapM (drf (n + 1) hp) = some (ns.map .int) := mapM_same fun x hx => by
  obtain ⟨i, _, rfl⟩ := List.mem_map.mp hx; rfl
theorem drf_lstI (n : Nat) (hp : Hs) (ns : List Int) : drf (n + 2) hp (.lst (ns.map .int)) = some (.lst (ns.map .int)) := by
  show ((ns.map DV.int).mapM (drf (n + 1) hp)).map DV.lst = _
  rw [drf_ints]; rfl
theorem drfM_of {d d' : DV} {hp : Hs} (h : drf 40 hp d = some d') : drfM d hp = some (d', hp) := by unfold drfM; rw [h]; rfl
theorem eqvG_of {x y x' y' : DV} {hp : Hs} (hx : drf 40 hp x = some x') (hy : drf 40 hp y = some y') (s1 : okP x' = true) (s2 : okP y' = true) : eqvG x y hp = some (PyData.eqv (toP x') (toP y'), hp) := by
  unfold eqvG
  simp only [okP, Bool.and_eq_true] at s1 s2
  rw [bind_at (drfM_of hx), bind_at (drfM_of hy)]
  simp only [s1.2, s2.2, Bool.and_self, guardM, if_true, pure_bind]
  rfl
theorem eqvG_int (i j : Int) (hp : Hs) : eqvG (.int i) (.int j) hp = some (i == j, hp) := eqvG_of (drf_int 39 hp i) (drf_int 39 hp j) (okP_int i) (okP_int j)
theorem eqvG_opt (a b : Option Int) (hp : Hs) : eqvG (opt a) (opt b) hp = some (decide (a = b), hp) := by
  have e : ∀ c : Option Int, drf 40 hp (opt c) = some (opt c) := fun c => by cases c <;> rfl
  have s : ∀ c : Option Int, okP (opt c) = true := fun c => by cases c <;> rfl
  rw [eqvG_of (e a) (e b) (s a) (s b)]
  cases a with
  | none => cases b <;> simp [opt, toP, PyData.eqv]
  | some i =>
    cases b with
    | none => simp [opt, toP, PyData.eqv]
    | some j => simp only [opt, toP, PyData.eqv, Option.some.injEq]; congr 1
end D
namespace D
open PySem PySem.Spec PyProof.Rows L2
theorem getW_of {n : Nat} {o : OV} {hp : Hs} (h : hp[n]? = some o) : getW n hp = some (o, hp) := by unfold getW; rw [h]
theorem at_of {α : Type} {m : M α} {x : α} (h : m = pure x) (hp : Hs) : m hp = some (x, hp) := by rw [h]; rfl
theorem sIf_at {c : DTx} {f g : DSx} {env : En} {b : Bool} {hp hp1 : Hs} (h : c env hp = some (b, hp1)) : sIf c f g env hp = if b = true then f env hp1 else g env hp1 := by
  unfold sIf
  rw [bind_at h]
  cases b <;> rfl
theorem eB_at {f : DEx} {env : En} {b : Bool} {hp hp1 : Hs} (h : f env hp = some (.bl b, hp1)) : eB f env hp = some (b, hp1) := by
  unfold eB
  rw [bind_at h]; rfl
theorem eBin_atW {g : DV → DV → M DV} {f f' : DEx} {env : En} {x y d : DV} {hp hp1 hp2 hp3 : Hs} (h : f env hp = some (x, hp1)) (h' : f' env hp1 = some (y, hp2)) (hg : g x y hp2 = some (d, hp3)) : eBin g f f' env hp = some (d, hp3) := by
  unfold eBin
  rw [bind_at h, bind_at h', hg]
theorem eCall2_at {F : List DV → M DV} {f f' : DEx} {env : En} {x y d : DV} {hp hp1 hp2 hp3 : Hs} (h : f env hp = some (x, hp1)) (h' : f' env hp1 = some (y, hp2)) (hF : F [x, y] hp2 = some (d, hp3)) : eCall 2 F (aCons f (aCons f' aNil)) env hp = some (d, hp3) := by
  have e0 : aCons f' aNil env hp1 = some ([y], hp2) := by unfold aCons; rw [bind_at h']; rfl
  have : aCons f (aCons f' aNil) env hp = some ([x, y], hp2) := by unfold aCons at e0 ⊢; rw [bind_at h, bind_at e0]; rfl
  unfold eCall
  rw [bind_at this]; exact hF
theorem sRet_at {f : DEx} {env : En} {d : DV} {hp hp1 : Hs} (h : f env hp = some (d, hp1)) : sRet f env hp = some ((.rt d, env), hp1) := by
  unfold sRet
  rw [bind_at h]; rfl
theorem sSeq_rtA {f g : DSx} {env env1 : En} {d : DV} {hp hp1 : Hs} (h : f env hp = some ((.rt d, env1), hp1)) : sSeq f g env hp = some ((.rt d, env1), hp1) := by
  unfold sSeq
  rw [bind_at h]; rfl
theorem sDrop_at {f : DEx} {env : En} {d : DV} {hp hp1 : Hs} (h : f env hp = some (d, hp1)) : sDrop f env hp = some ((.nx, env), hp1) := by
  unfold sDrop
  rw [bind_at h]; rfl
theorem runF_at {n : Nat} {body : DSx} {ds : List DV} {d : DV} {env : En} {hp hp1 : Hs} (h : body (ds.map .val ++ List.replicate (n - ds.length) .un) hp = some ((.rt d, env), hp1)) : runF n body ds hp = some (d, hp1) := by
  unfold runF
  rw [bind_at h]; rfl
theorem eNot_at {c : DTx} {env : En} {b : Bool} {hp hp1 : Hs} (h : c env hp = some (b, hp1)) : eNot c env hp = some (!b, hp1) := by
  unfold eNot
  rw [bind_at h]; rfl
end D
namespace D
open PySem PySem.Spec PyProof.Rows L2
abbrev ClsN (K : PySem.W.Frag) (c : Str) (C : Addr) : Prop := PySem.W.nsIn K mainGlobals c = some (some (.ref C))
theorem ClsN.uniq {K : PySem.W.Frag} {c : Str} {C C' : Addr} (h : ClsN K c C) (h' : ClsN K c C') : C = C' := by
  have e := h.symm.trans h'; cases e; rfl
structure FldK (K : PySem.W.Frag) (c f : Str) : Prop where
  ex : ∃ C, ClsN K c C ∧ Cls K C ∧ NoAttr K C f
structure HasM (P : Program) (w : World) (K : PySem.W.Frag) (mg : Str → Option Value) (base : Heap) (c m : Str) (k n : Nat) (F : List DV → M DV) : Prop where
  ex : ∃ (C f : Addr) (fd : FuncData) (ps : List Str), ClsN K c C ∧ Cls K C ∧ Meth K C m f ∧ FnOk P w K mg base CX0 k f fd ps (spD K n F) ∧ Binds K fd ps []
structure HasI (P : Program) (w : World) (K : PySem.W.Frag) (mg : Str → Option Value) (base : Heap) (c : Str) (k n : Nat) (F : List DV → M DV) : Prop where
  ex : ∃ (C f : Addr) (fd : FuncData) (ps : List Str), ClsN K c C ∧ mg c = some (.ref C) ∧ Mk K C f ∧ FnOk P w K mg base CX0 k f fd ps (spD K n F) ∧ Binds K fd ps []
section
variable {K : PySem.W.Frag} {ρ : List Addr} {B : Addr → Prop} {H : Hp} {hp : Hs}
abbrev RepF (K : PySem.W.Frag) (ρ : List Addr) (B : Addr → Prop) (H : Hp) : List (Str × DV) → List (Str × V) → Prop := Paired fun p q => p.1 = q.1 ∧ RepV K ρ B H p.2 q.2
theorem repF_of : ∀ {fs : List (Str × DV)} {xs : List (Str × V)}, xs.map (·.1) = fs.map (·.1) → RepL K ρ B H (fs.map (·.2)) (xs.map (·.2)) → RepF K ρ B H fs xs
  | [], [], _, _ => .nil
  | [], _ :: _, e, _ => by simp at e
  | _ :: _, [], e, _ => by simp at e
  | p :: fs, q :: xs, e, r => by
    simp only [List.map_cons, List.cons.injEq] at e
    simp only [List.map_cons] at r
    unfold RepL at r
    obtain ⟨x, t, e2, h1, h2⟩ := r
    simp only [List.cons.injEq] at e2
    obtain ⟨rfl, rfl⟩ := e2
    exact .cons ⟨e.1.symm, h1⟩ (repF_of e.2 h2)
theorem RepF.to {fs : List (Str × DV)} {xs : List (Str × V)} (r : RepF K ρ B H fs xs) : xs.map (·.1) = fs.map (·.1) ∧ RepL K ρ B H (fs.map (·.2)) (xs.map (·.2)) := by
  induction r with
  | nil => exact ⟨rfl, RepL.nil⟩
  | cons h _ ih => exact ⟨by simp [ih.1, h.1], by simpa using RepL.cons h.2 ih.2⟩
theorem RepF.look {fs : List (Str × DV)} {xs : List (Str × V)} (r : RepF K ρ B H fs xs) (f : Str) : (fs.lookup f = none ∧ xs.lookup f = none) ∨ ∃ d v, fs.lookup f = some d ∧ xs.lookup f = some v ∧ RepV K ρ B H d v := by
  induction r with
  | nil => exact .inl ⟨rfl, rfl⟩
  | @cons p q _ _ h _ ih =>
    obtain ⟨p1, p2⟩ := p
    obtain ⟨q1, q2⟩ := q
    obtain ⟨h1, h2⟩ := h
    have h1 : p1 = q1 := h1
    subst h1
    cases e : f == p1 with
    | true => exact .inr ⟨p2, q2, by simp [List.lookup, e], by simp [List.lookup, e], h2⟩
    | false => simpa [List.lookup, e] using ih
def putFD (f : Str) (d : DV) : List (Str × DV) → List (Str × DV)
  | [] => [(f, d)]
  | (g, x) :: r => if g = f then (g, d) :: r else (g, x) :: putFD f d r
theorem RepF.put {fs : List (Str × DV)} {xs : List (Str × V)} (r : RepF K ρ B H fs xs) (f : Str) {d : DV} {v : V} (rd : RepV K ρ B H d v) : RepF K ρ B H (putFD f d fs) (putF f v xs) := by
  induction r with
  | nil => exact .cons ⟨rfl, rd⟩ .nil
  | @cons p q _ _ h t ih =>
    obtain ⟨p1, p2⟩ := p
    obtain ⟨q1, q2⟩ := q
    obtain ⟨h1, h2⟩ := h
    have h1 : p1 = q1 := h1
    subst h1
    unfold putFD putF
    by_cases e : p1 = f
    · rw [if_pos e, if_pos e]; exact .cons ⟨rfl, rd⟩ t
    · rw [if_neg e, if_neg e]; exact .cons ⟨rfl, h2⟩ ih
theorem RepF.len {fs : List (Str × DV)} {xs : List (Str × V)} (r : RepF K ρ B H fs xs) : fs.length = xs.length := Paired.length r
theorem RepF.gs {ρ' : List Addr} {B' : Addr → Prop} {H' : Hp} {fs : List (Str × DV)} {xs : List (Str × V)} (g : Gs K ρ B H ρ' B' H') (r : RepF K ρ B H fs xs) : RepF K ρ' B' H' fs xs := L2.Paired.mapP r fun _ _ h => ⟨h.1, RepV.gs g _ _ h.2⟩
theorem ORep.ins {a : Addr} {c : Str} {fs : List (Str × DV)} (h : ORep K ρ B H a (.ins c fs)) : ∃ C dx xs, ClsN K c C ∧ H a = some (.ins C dx xs) ∧ RepF K ρ B H fs xs := by
  obtain ⟨C, dx, xs, nc, e, ek, rl⟩ := h
  exact ⟨C, dx, xs, nc, e, repF_of ek rl⟩
theorem RepF.orep {a C dx : Addr} {c : Str} {fs : List (Str × DV)} {xs : List (Str × V)} (nc : ClsN K c C) (r : RepF K ρ B H fs xs) (e : H a = some (.ins C dx xs)) : ORep K ρ B H a (.ins c fs) := ⟨C, dx, xs, nc, e, r.to.1, r.to.2⟩
theorem wset_ins {n : Nat} {a C dx : Addr} {c : Str} {xs xs' : List (Str × V)} {fs' : List (Str × DV)} (W : WOk K ρ B hp H) (i : ρ[n]? = some a) (nc : ClsN K c C) (e : H a = some (.ins C dx xs)) (r : RepF K ρ B H fs' xs') : Gr K ρ B H ρ B (upd H a (.ins C dx xs')) ∧ WOk K ρ B (hp.set n (.ins c fs')) (upd H a (.ins C dx xs')) := by
  have g : Gr K ρ B H ρ B (upd H a (.ins C dx xs')) := Gr.wset i e
  exact ⟨g, W.wset (o' := .ins C dx xs') (v := .ins c fs') i e ((r.gs (g.gs W.rb)).orep nc upd_same)⟩
end
def onI {α : Type} (c : Str) (x : DV) (k : Nat → List (Str × DV) → M α) : M α := match x with
  | .ref n => do
    match ← getW n with
    | .ins c' fs => do guardM (decide (c' = c)); k n fs
    | _ => failure
  | _ => failure
theorem onI_some {α : Type} {c : Str} {x : DV} {d : α} {k : Nat → List (Str × DV) → M α} {hp hp' : Hs} (h : onI c x k hp = some (d, hp')) : ∃ n fs, x = .ref n ∧ hp[n]? = some (.ins c fs) ∧ k n fs hp = some (d, hp') := by
  cases x with
  | ref n =>
    obtain ⟨o, hp1, e1, e2⟩ := bind_some (show (getW n >>= fun o => (match o with | .ins c' fs => do guardM (decide (c' = c)); k n fs | _ => failure : M α)) hp = some (d, hp') from h)
    obtain ⟨e3, rfl⟩ := getW_some e1
    cases o with
    | ins c' fs =>
      obtain ⟨_, hp2, e4, e5⟩ := bind_some e2
      obtain ⟨hl, rfl⟩ := guardM_some e4
      obtain rfl := of_decide_eq_true hl
      exact ⟨n, fs, rfl, e3, e5⟩
    | lst _ => cases e2
    | dic _ => cases e2
  | non => cases h
  | bl _ => cases h
  | int _ => cases h
  | str _ => cases h
  | tup _ => cases h
  | lst _ => cases h
def getF (c f : Str) (x : DV) : M DV := onI c x fun _ fs => optM (fs.lookup f)
def setF (c f : Str) (x d : DV) : M Unit := onI c x fun n fs => do guardM (decide (fs.length < 1000)); setW n (.ins c (putFD f d fs))
def eFld (c f : Str) (g : DEx) : DEx := fun env => do let x ← g env; getF c f x
def sFldD (c f : Str) (fo fv : DEx) : DSx := fun env => do let y ← fv env; let x ← fo env; setF c f x y; pure (.nx, env)
def sFldA (c f : Str) (op : DV → DV → M DV) (fo fv : DEx) : DSx := fun env => do let x ← fo env; let v ← getF c f x; let y ← fv env; let z ← op v y; setF c f x z; pure (.nx, env)
def addI : DV → DV → M DV
  | .int i, .int j => pure (.int (i + j))
  | _, _ => failure
def subI : DV → DV → M DV
  | .int i, .int j => pure (.int (i - j))
  | _, _ => failure
def eMeth (c m : Str) (n : Nat) (F : List DV → M DV) (fo : DEx) (fa : DAx) : DEx := fun env => do
  let x ← fo env
  onI c x fun _ fs => guardM (fs.lookup m).isNone
  let ds ← fa env
  guardM (decide (ds.length + 1 = n))
  F (x :: ds)
def eMake (c : Str) (n : Nat) (F : List DV → M DV) (fa : DAx) : DEx := fun env => do
  let ds ← fa env
  guardM (decide (ds.length + 1 = n))
  let x ← allocW (.ins c [])
  let r ← F (x :: ds)
  match r with
  | .non => pure x
  | _ => failure
section
variable {X : Cx} {o e value : Expr} {c f m : Str} {pos pos' tpos apos : Pos} {fo fv : DEx}
theorem getF_rep {K : PySem.W.Frag} {ρ : List Addr} {B : Addr → Prop} {H : Hp} {hp hp' : Hs} {x d : DV} {v : V} (W : WOk K ρ B hp H) (r : RepV K ρ B H x v) (h : getF c f x hp = some (d, hp')) : hp = hp' ∧ ∃ a C dx xs u, v = .ref a ∧ ClsN K c C ∧ H a = some (.ins C dx xs) ∧ xs.lookup f = some u ∧ RepV K ρ B H d u := by
  obtain ⟨n, fs, rfl, e1, e2⟩ := onI_some h
  obtain ⟨hl, rfl⟩ := optM_some e2
  obtain ⟨a, rfl, i, ro⟩ := RepV.refW W r e1
  obtain ⟨C, dx, xs, nc, e, rf⟩ := ro.ins
  rcases rf.look f with ⟨z, _⟩ | ⟨d', u, z, zu, ru⟩
  · rw [hl] at z; cases z
  · rw [hl] at z; cases z
    exact ⟨rfl, a, C, dx, xs, u, rfl, nc, e, zu, ru⟩
theorem setF_rep {K : PySem.W.Frag} {ρ : List Addr} {B : Addr → Prop} {H : Hp} {hp hp' : Hs} {x d : DV} {v y : V} {z : Unit} (W : WOk K ρ B hp H) (r : RepV K ρ B H x v) (rd : RepV K ρ B H d y) (h : setF c f x d hp = some (z, hp')) : ∃ a C dx xs, v = .ref a ∧ ClsN K c C ∧ H a = some (.ins C dx xs) ∧ xs.length < 1000 ∧ Gr K ρ B H ρ B (upd H a (.ins C dx (putF f y xs))) ∧ WOk K ρ B hp' (upd H a (.ins C dx (putF f y xs))) := by
  obtain ⟨n, fs, rfl, e1, e2⟩ := onI_some h
  obtain ⟨_, hp1, e3, e4⟩ := bind_some e2
  obtain ⟨hl, rfl⟩ := guardM_some e3
  cases e4
  obtain ⟨a, rfl, i, ro⟩ := RepV.refW W r e1
  obtain ⟨C, dx, xs, nc, e, rf⟩ := ro.ins
  obtain ⟨g, W'⟩ := wset_ins W i nc e (rf.put f rd)
  exact ⟨a, C, dx, xs, rfl, nc, e, by rw [← rf.len]; exact of_decide_eq_true hl, g, W'⟩
theorem de_fld (hk : FldK X.K c f) (ho : DE X o fo) (hb : attributeBase o f X.env (eval o X.env) = eval o X.env := by rfl) : DE X (.Attribute o f pos) (eFld c f fo) :=
  L2.PE.imp (pe_fld ho hb) fun σ H Q ⟨Z, env, ρ, B, hp, d, hp', S, e, k⟩ => by
    obtain ⟨x, hp1, e1, e2⟩ := bind_some e
    refine tD.run S e1 fun v ρ1 B1 H1 g1 S1 r1 => ?_
    obtain ⟨rfl, a, C, dx, xs, u, rfl, nc, ea, hl, ru⟩ := getF_rep S1.wo r1 e2
    obtain ⟨C', nc', cl, na⟩ := hk.ex
    obtain rfl := nc.uniq nc'
    exact ⟨a, C, dx, xs, u, rfl, ea, cl, na, hl, k u ρ1 B1 H1 g1 S1.wo ru⟩
theorem ds_fld (hk : FldK X.K c f) (ho : DE X o fo) (hv : DE X value fv) (hs : swapsWith value (some (.Attribute o f pos')) pos.line X.env = pure false := by rfl) : DS X (.Assign [.Attribute o f pos'] value pos) (sFldD c f fo fv) :=
  L2.PS.imp (ps_fld ho hv hs) fun D σ H ⟨Z, env, ρ, B, hp, fl, env', hp', S, e, k⟩ => by
    obtain ⟨y, hp1, e1, e⟩ := bind_some e
    obtain ⟨x, hp2, e2, e⟩ := bind_some e
    obtain ⟨z, hp3, e3, e⟩ := bind_some e
    obtain ⟨q, rfl⟩ := pure_some e
    cases q
    refine tD.run S e1 fun u ρ1 B1 H1 g1 S1 r1 => tD.run S1 e2 fun v ρ2 B2 H2 g2 S2 r2 => ?_
    obtain ⟨a, C, dx, xs, rfl, nc, ea, hl, g, W⟩ := setF_rep S2.wo r2 (RepV.grow S1.wo.rb g2 _ _ r1) e3
    obtain ⟨C', nc', cl, na⟩ := hk.ex
    obtain rfl := nc.uniq nc'
    exact ⟨a, C, dx, xs, rfl, ea, cl, na, hl, k σ ρ2 B2 _ ((g1.trans (g2.trans g)).gs S.wo.rb) (S2.grow g W)⟩
theorem ds_fldadd (hk : FldK X.K c f) (ho : DE X o fo) (hv : DE X value fv) : DS X (.AugAssign (.Attribute o f tpos) .Add value pos) (sFldA c f addI fo fv) :=
  L2.PS.imp (ps_fldaug ho hv in_add) fun D σ H ⟨Z, env, ρ, B, hp, fl, env', hp', S, e, k⟩ => by
    obtain ⟨x, hp1, e1, e⟩ := bind_some e
    obtain ⟨v, hp2, e2, e⟩ := bind_some e
    obtain ⟨y, hp3, e3, e⟩ := bind_some e
    obtain ⟨z, hp4, e4, e⟩ := bind_some e
    obtain ⟨_, hp5, e5, e⟩ := bind_some e
    obtain ⟨q, rfl⟩ := pure_some e
    cases q
    refine tD.run S e1 fun vx ρ1 B1 H1 g1 S1 r1 => ?_
    obtain ⟨rfl, a, C, dx, xs, u, rfl, nc, ea, hl, ru⟩ := getF_rep S1.wo r1 e2
    obtain ⟨C', nc', cl, na⟩ := hk.ex
    obtain rfl := nc.uniq nc'
    refine ⟨a, C, dx, xs, u, rfl, ea, cl, na, hl, tD.run S1 e3 fun w ρ2 B2 H2 g2 S2 r2 => ?_⟩
    have ru2 := RepV.grow S1.wo.rb g2 _ _ ru
    have r12 := RepV.grow S1.wo.rb g2 _ _ r1
    unfold addI at e4
    split at e4
    · obtain ⟨rfl, rfl⟩ := pure_some e4
      refine ⟨_, _, ru2.intI, r2.intI, ?_⟩
      obtain ⟨a', C2, dx', xs', q1, nc2, ea', hl', g, W⟩ := setF_rep S2.wo r12 rep_int e5
      cases q1
      obtain rfl := nc2.uniq nc
      exact ⟨dx', xs', ea', hl', k σ ρ2 B2 _ ((g1.trans (g2.trans g)).gs S.wo.rb) (S2.grow g W)⟩
    · cases e4
theorem meth_imp {C : Addr} {n : Nat} {F : List DV → M DV} {fa : DAx} {σ : St} {H : Hp} {Q : VK} (nc : ClsN X.K c C) (h : tD X.K (eMeth c m n F fo fa) σ H Q) : tMeth C m (spD X.K n F) [] E0 (tD X.K fo) (tDA X.K fa) σ H Q := by
  obtain ⟨Z, env, ρ, B, hp, d, hp', S, e, k⟩ := h
  obtain ⟨x, hp1, e1, e⟩ := bind_some e
  obtain ⟨_, hp2, e2, e⟩ := bind_some e
  obtain ⟨ds, hp3, e3, e⟩ := bind_some e
  obtain ⟨_, hp4, e4, ef⟩ := bind_some e
  obtain ⟨hl, rfl⟩ := guardM_some e4
  refine tD.run S e1 fun v ρ1 B1 H1 g1 S1 r1 => ?_
  obtain ⟨i, fs, rfl, w1, w2⟩ := onI_some e2
  obtain ⟨hn, rfl⟩ := guardM_some w2
  obtain ⟨a, rfl, _, ro⟩ := RepV.refW S1.wo r1 w1
  obtain ⟨C', dx, xs, nc', ea, rf⟩ := ro.ins
  obtain rfl := nc'.uniq nc
  have hx : xs.lookup m = none := by
    rcases rf.look m with ⟨_, z⟩ | ⟨_, _, z, _, _⟩
    · exact z
    · rw [z] at hn; cases hn
  refine ⟨a, dx, xs, rfl, ea, hx, tDA.run S1 e3 fun vs ρ2 B2 H2 g2 S2 r2 => ?_⟩
  refine ⟨?_, ρ2, B2, hp3, _, d, hp', S2.wo, ?_, ef, k.after (g1.trans g2)⟩
  · rw [List.append_nil, List.length_cons, ← r2.length]; exact of_decide_eq_true hl
  · rw [List.append_nil]; exact RepL.cons (RepV.grow S1.wo.rb g2 _ _ r1) r2
theorem de_meth {k j n : Nat} {F : List DV → M DV} {es : List Expr} {fa : DAx} {pl : Sem Bool} (h : HasM X.prog X.w X.K X.mg X.base c m j n F) (hr : Room k X.A) (hj : j ≤ k) (hx : Passes CX0 X E0) (ho : DE X o fo) (ha : DA X (e :: es) fa)
    (hst : starEach (e :: es) X.env = (false, eval e X.env) :: starEach es X.env := by rfl) (hpl : (backTo pos (starEach es X.env)).any (·.1) = false := by rfl)
    (ht : eval (.Call (.Attribute o m apos) (e :: es) [] pos) X.env = (do
      let ov ← eval o X.env
      standAt apos.atName
      let (f, first) ← holding [ov] (getMethod ov m pl)
      callWith pos f first (backTo pos (starEach (e :: es) X.env)) (backToKw pos (keywordEach [] X.env))) := by rfl) : DE X (.Call (.Attribute o m apos) (e :: es) [] pos) (eMeth c m n F fo fa) := by
  obtain ⟨C, g, fd, ps, nc, cl, hm, F', hb⟩ := h.ex
  exact L2.PE.imp (pe_meth (pl := pl) ho cl hm F' (hr.mono hj) hb .nil hx ha hst hpl ht) fun σ H Q q => meth_imp nc q
theorem de_meth0 {k j n : Nat} {F : List DV → M DV} {pl : Sem Bool} (h : HasM X.prog X.w X.K X.mg X.base c m j n F) (hr : Room k X.A) (hj : j ≤ k) (hx : Passes CX0 X E0) (ho : DE X o fo)
    (ht : eval (.Call (.Attribute o m apos) [] [] pos) X.env = (do
      let ov ← eval o X.env
      standAt apos.atName
      let (f, first) ← holding [ov] (getMethod ov m pl)
      callWith pos f first (backTo pos (starEach [] X.env)) (backToKw pos (keywordEach [] X.env))) := by rfl) : DE X (.Call (.Attribute o m apos) [] [] pos) (eMeth c m n F fo aNil) := by
  obtain ⟨C, g, fd, ps, nc, cl, hm, F', hb⟩ := h.ex
  refine L2.PE.imp (pe_meth0 (pl := pl) ho cl hm F' (hr.mono hj) hb .nil hx ht) fun σ H Q q => ?_
  obtain ⟨Z, env, ρ, B, hp, d, hp', S, e, k⟩ := q
  obtain ⟨x, hp1, e1, e⟩ := bind_some e
  obtain ⟨_, hp2, e2, e⟩ := bind_some e
  obtain ⟨ds, hp3, e3, e⟩ := bind_some e
  obtain ⟨_, hp4, e4, ef⟩ := bind_some e
  obtain ⟨hl, rfl⟩ := guardM_some e4
  obtain ⟨rfl, rfl⟩ := pure_some e3
  refine tD.run S e1 fun v ρ1 B1 H1 g1 S1 r1 => ?_
  obtain ⟨i, fs, rfl, w1, w2⟩ := onI_some e2
  obtain ⟨hn, rfl⟩ := guardM_some w2
  obtain ⟨a, rfl, _, ro⟩ := RepV.refW S1.wo r1 w1
  obtain ⟨C', dx, xs, nc', ea, rf⟩ := ro.ins
  obtain rfl := nc'.uniq nc
  have hx : xs.lookup m = none := by
    rcases rf.look m with ⟨_, z⟩ | ⟨_, _, z, _, _⟩
    · exact z
    · rw [z] at hn; cases hn
  exact ⟨a, dx, xs, rfl, ea, hx, of_decide_eq_true hl, ρ1, B1, hp1, _, d, hp', S1.wo, RepL.cons r1 RepL.nil, ef, k.after g1⟩
theorem run_makeK {k : Nat} {C g : Addr} {fd : FuncData} {ps : List Str} {sp : Sp} {pins : List (Addr × Obj)} {σ : St} {H : Hp} {s : Shared} {Q : VK} {us : List Value} {vs : List V} (M : Mk X.K C g) (F : FnOk X.prog X.w X.K X.mg X.base CX0 k g fd ps sp) (hr : Room (k + 1) X.A) (hb : Binds X.K fd ps [])
    (hx : Passes CX0 X E0) (I : Inv X pins σ H s) (r : Vals vs us)
    (h : ∀ x dx, H x = none → H dx = none → dx ≠ x → X.K.lookup x = none → sp (.ref x :: vs) (upd (upd H dx (.own x)) x (.ins C dx [])) (fun v H2 => v = .non ∧ Q (.ref x) H2) E0) :
    wpAny (model X.prog X.w) X.A (call (.ref C) us) (EP X pins σ Q) X.xe s := by
  have kf : X.K.lookup (s.heap.objs.size + 1) = none := by
    cases q : X.K.lookup (s.heap.objs.size + 1) with
    | none => rfl
    | some o => exact absurd (Heap.lt_size (I.kIn _ _ q)) (Nat.not_lt.mpr (Nat.le_succ _))
  have hq := h _ _ (I.hok.fresh (Nat.le_succ _)) (I.hok.fresh (Nat.le_refl _)) (Nat.ne_of_lt (Nat.lt_succ_self _)) kf
  have J := Inv.made (C := C) I
  have rr : Vals (V.ref (s.heap.objs.size + 1) :: vs) (Value.ref (s.heap.objs.size + 1) :: us) := .cons rfl r
  have ll : ((Value.ref (s.heap.objs.size + 1) :: us) ++ []).length = ps.length := by
    rw [List.append_nil, ← rr.length]; exact F.len _ _ _ _ hq
  have bb := hb _ (Value.ref (s.heap.objs.size + 1) :: us) J.kIn ll
  rw [List.append_nil] at bb
  refine wpAny_call (make_map (f := g) I.kIn M.makes M.init (beq_iff_eq.mp M.fn) (codeAny_mono (F.run _ X.stack _ _ ⟨Value.ref (s.heap.objs.size + 1) :: us, []⟩ _ _ _ E0 (hr.make C us []) (J.env0.make C us []) bb rr hq) fun q s' z => ?_))
  cases q with
  | error e => exact hx pins σ _ _ e s' J z
  | ok fl =>
    cases fl with
    | ret u =>
      obtain ⟨v, H', I3, rv, ev, q3⟩ := J.after z
      subst ev
      exact ⟨rv, ⟨V.ref (s.heap.objs.size + 1), H', I3, rfl, q3⟩⟩
    | next => exact z.elim
    | brk => exact z.elim
    | cont => exact z.elim
theorem make_imp {C : Addr} {n : Nat} {F : List DV → M DV} {vs : List V} {K : PySem.W.Frag} {ρ : List Addr} {B : Addr → Prop} {hp hp' : Hs} {H : Hp} {ds : List DV} {d : DV} {Q : VK} (nc : ClsN K c C) (hl : ds.length + 1 = n) (W : WOk K ρ B hp H) (r : RepL K ρ B H ds vs)
    (e : (do let x ← allocW (.ins c []); let r ← F (x :: ds); match r with | .non => pure x | _ => failure : M DV) hp = some (d, hp')) (k : Fol K ρ B H d hp' Q) :
    ∀ x dx, H x = none → H dx = none → dx ≠ x → K.lookup x = none → spD K n F (.ref x :: vs) (upd (upd H dx (.own x)) x (.ins C dx [])) (fun v H2 => v = .non ∧ Q (.ref x) H2) E0 := by
  intro x dx hx hdx ne kf
  have e1 : F (.ref hp.length :: ds) (hp ++ [.ins c []]) = some (.non, hp') ∧ d = .ref hp.length := by
    obtain ⟨y, hp1, a1, a2⟩ := bind_some e
    cases a1
    obtain ⟨y, hp2, a3, a4⟩ := bind_some a2
    cases y with
    | non => obtain ⟨rfl, rfl⟩ := pure_some a4; exact ⟨a3, rfl⟩
    | bl _ => cases a4
    | int _ => cases a4
    | str _ => cases a4
    | tup _ => cases a4
    | lst _ => cases a4
    | ref _ => cases a4
  obtain ⟨e1, rfl⟩ := e1
  have hx' : upd H dx (.own x) x = none := by rw [upd_ne (Ne.symm ne)]; exact hx
  have g0 : Gr K ρ B H ρ B (upd H dx (.own x)) := Gr.laid hdx
  have g1 : Gr K ρ B (upd H dx (.own x)) (ρ ++ [x]) (banP B x) (upd (upd H dx (.own x)) x (.ins C dx [])) := Gr.wnew hx' kf
  have W1 : WOk K (ρ ++ [x]) (banP B x) (hp ++ [.ins c []]) (upd (upd H dx (.own x)) x (.ins C dx [])) := (W.laid hdx).wnew hx' kf (RepF.orep nc .nil upd_same)
  have rx : RepV K (ρ ++ [x]) (banP B x) (upd (upd H dx (.own x)) x (.ins C dx [])) (.ref hp.length) (.ref x) := by
    unfold RepV
    exact ⟨x, rfl, by rw [← W.len]; simp⟩
  refine ⟨?_, ρ ++ [x], banP B x, hp ++ [.ins c []], .ref hp.length :: ds, .non, hp', W1, RepL.cons rx (RepL.grow W.rb (g0.trans g1) _ _ r), e1, fun v ρ' B' H' g' W' r' => ?_⟩
  · rw [List.length_cons, ← r.length]; exact hl
  · exact ⟨r'.nonI, k _ ρ' B' H' ((g0.trans g1).trans g') W' (RepV.grow W1.rb g' _ _ rx)⟩
theorem de_make {k j n : Nat} {F : List DV → M DV} {es : List Expr} {fa : DAx} {p : Pos} (h : HasI X.prog X.w X.K X.mg X.base c j n F) (hr : Room k X.A) (hj : j + 1 ≤ k) (hx : Passes CX0 X E0) (ha : DA X (e :: es) fa) (hg : Gl X c := by rfl)
    (hdb : (c == ("__debug__" : Str)) = false := by decide) (he : starEach (e :: es) X.env = (false, eval e X.env) :: starEach es X.env := by rfl) (hpl : (backTo pos (starEach es X.env)).any (·.1) = false := by rfl) : DE X (.Call (.Name c p) (e :: es) [] pos) (eMake c n F fa) := by
  obtain ⟨C, g, fd, ps, nc, hm, M, F', hb⟩ := h.ex
  intro pins s σ H Q I q
  obtain ⟨Z, env, ρ, B, hp, d, hp', S, e, k⟩ := q
  obtain ⟨ds, hp1, e1, e2⟩ := bind_some e
  obtain ⟨_, hp2, e3, e4⟩ := bind_some e2
  obtain ⟨hl, rfl⟩ := guardM_some e3
  refine wpAny_Call_Name_kw (ld_glob I hg hm ?_ hdb)
  refine PySem.W.callWith_K (h₀ := X.base) I.ok.mod.kin M.kp (thn (ha pos pins s σ H _ I (tDA.run S e1 fun vs ρ1 B1 H1 g1 S1 r1 => make_imp (Q := Q) nc (of_decide_eq_true hl) S1.wo r1 e4 (k.after g1))) fun us s1 ⟨vs, H1, I1, r, q⟩ => ⟨I1.kIn, ?_⟩) he hpl
  exact run_makeK M F' (hr.mono hj) hb hx I1 r q
end
theorem fn_okM {P : Program} {w : World} {K : PySem.W.Frag} {mg : Str → Option Value} {base : Heap} {x qual : Str} {stm : Stmt} {g : Addr} {fd : FuncData} {N ps : List Str} {k : Nat} {body : DSx} (F : Fun K x qual stm g fd) (Sc : FnScope N ps (defScope stm))
    (h : ∀ (cdv : Value) (A : Around) (outer : List Env) (s : Shared) (H : Hp) (E : XK), Room k (A.deeper (envOfC qual (defScope stm) s.heap.objs.size g cdv)) → DSs (cxOf CX0 P w K mg base N qual (defScope stm) g cdv A outer s H E).nox (defBody stm) body) :
    FnOk P w K mg base CX0 (k + 1) g fd ps (spD K ps.length (runF N.length body)) := by
  refine F.ok Sc (fun vs H Q E h => h.1) (fun cdv A outer s H vs Q E hr sp => ?_)
  obtain ⟨hn, ρ, B, hp, ds, d, hp', W, r, e, k⟩ := sp
  obtain ⟨⟨fl, env'⟩, hp1, e1, e2⟩ := bind_some e
  refine ⟨_, h cdv A outer s H E hr, ⟨ρ, B, H⟩, _, ρ, B, hp, fl, env', hp1, sOk_start W r, e1, fun σ' ρ' B' H' g' S' => ?_⟩
  cases fl with
  | nx => obtain ⟨rfl, rfl⟩ := pure_some e2; exact k .non ρ' B' H' S'.gr S'.wo rep_non
  | rt x => obtain ⟨rfl, rfl⟩ := pure_some e2; exact fun v rv => k v ρ' B' H' S'.gr S'.wo rv
  | bk => cases e2
  | ct => cases e2
theorem meth_has {P : Program} {w : World} {K : PySem.W.Frag} {mg : Str → Option Value} {base : Heap} {c m qual : Str} {stm : Stmt} {C g : Addr} {fd : FuncData} {N ps : List Str} {k : Nat} {body : DSx} (nc : ClsN K c C) (cl : Cls K C) (me : Meth K C m g) (F : Fun K m qual stm g fd) (Sc : FnScope N ps (defScope stm))
    (hb : ∀ (kV doc pm : Value) (an : Option Addr) (cdv ct : Value) (us : List Value), us.length = ps.length → bindArgs (PySem.W.fnOf m qual (defArgs stm) (defBody stm) (defScope stm) .none kV doc pm an cdv ct) ⟨us, []⟩ = pure (ps.zip us))
    (h : ∀ (cdv : Value) (A : Around) (outer : List Env) (s : Shared) (H : Hp) (E : XK), Room k (A.deeper (envOfC qual (defScope stm) s.heap.objs.size g cdv)) → DSs (cxOf CX0 P w K mg base N qual (defScope stm) g cdv A outer s H E).nox (defBody stm) body) :
    HasM P w K mg base c m (k + 1) ps.length (runF N.length body) := ⟨C, g, fd, ps, nc, cl, me, fn_okM F Sc h, F.binds hb⟩
theorem init_has {P : Program} {w : World} {K : PySem.W.Frag} {mg : Str → Option Value} {base : Heap} {c qual : Str} {stm : Stmt} {C g : Addr} {fd : FuncData} {N ps : List Str} {k : Nat} {body : DSx} (nc : ClsN K c C) (hm : mg c = some (.ref C)) (me : Mk K C g) (F : Fun K "__init__" qual stm g fd) (Sc : FnScope N ps (defScope stm))
    (hb : ∀ (kV doc pm : Value) (an : Option Addr) (cdv ct : Value) (us : List Value), us.length = ps.length → bindArgs (PySem.W.fnOf "__init__" qual (defArgs stm) (defBody stm) (defScope stm) .none kV doc pm an cdv ct) ⟨us, []⟩ = pure (ps.zip us))
    (h : ∀ (cdv : Value) (A : Around) (outer : List Env) (s : Shared) (H : Hp) (E : XK), Room k (A.deeper (envOfC qual (defScope stm) s.heap.objs.size g cdv)) → DSs (cxOf CX0 P w K mg base N qual (defScope stm) g cdv A outer s H E).nox (defBody stm) body) :
    HasI P w K mg base c (k + 1) ps.length (runF N.length body) := ⟨C, g, fd, ps, nc, hm, me, fn_okM F Sc h, F.binds hb⟩
section
variable {X : Cx}
def sFail : DSx := fun _ => failure
theorem ds_fail {st : Stmt} : DS X st sFail := L2.PS.imp ps_never fun D σ H ⟨Z, env, ρ, B, hp, fl, env', hp', S, e, k⟩ => by cases e
def sAug (i : Nat) (op : DV → DV → M DV) (fe : DEx) : DSx := fun env => do let v ← eVar i env; let y ← fe env; let z ← op v y; pure (.nx, env.set i (.val z))
theorem aug_imp {i : Nat} {op : DV → DV → M DV} {g : Int → Int → Int} {fe : DEx} {D : Ends} {σ : St} {H : Hp} (ho : ∀ v y z hp hp', op v y hp = some (z, hp') → ∃ a b, v = .int a ∧ y = .int b ∧ z = .int (g a b) ∧ hp = hp') (h : tDS X.K (sAug i op fe) D σ H) : tAug i (tD X.K fe) (ipI g) D σ H := by
  obtain ⟨Z, env, ρ, B, hp, fl, env', hp', S, e, k⟩ := h
  obtain ⟨v, hp1, e1, e⟩ := bind_some e
  obtain ⟨y, hp2, e2, e⟩ := bind_some e
  obtain ⟨z, hp3, e3, e⟩ := bind_some e
  obtain ⟨q, rfl⟩ := pure_some e
  cases q
  obtain ⟨a, b, rfl, rfl, rfl, rfl⟩ := ho _ _ _ _ _ e3
  have hv : env[i]? = some (.val (.int a)) ∧ hp = hp1 := by
    unfold eVar at e1
    cases q : env[i]? with
    | none => rw [q] at e1; cases e1
    | some sl =>
      rw [q] at e1
      cases sl with
      | val d => obtain ⟨h1, h2⟩ := pure_some e1; exact ⟨by rw [h1], h2⟩
      | un => cases e1
      | acc _ => cases e1
  obtain ⟨hv, rfl⟩ := hv
  obtain ⟨x, hx, rx⟩ := S.slot i _ hv
  refine ⟨x, hx, tD.run S e2 fun w ρ1 B1 H1 g1 S1 r1 => ⟨a, b, rx.intI, r1.intI, k _ ρ1 B1 H1 (g1.gs S.wo.rb) (S1.set rep_int)⟩⟩
theorem addI_some {v y z : DV} {hp hp' : Hs} (h : addI v y hp = some (z, hp')) : ∃ a b, v = .int a ∧ y = .int b ∧ z = .int (a + b) ∧ hp = hp' := by
  unfold addI at h
  split at h
  · obtain ⟨rfl, rfl⟩ := pure_some h; exact ⟨_, _, rfl, rfl, rfl, rfl⟩
  · cases h
theorem ds_augadd (i : Nat) {x : Str} {e : Expr} {fe : DEx} {pos pos' : Pos} (hN : X.N.Nodup) (he : DE X e fe) (hi : X.N[i]? = some x := by rfl) (hx : Loc X.env.scope x := by first | exact Or.inl rfl | exact Or.inr rfl) (hf : X.fn x = true ∨ X.env.scope.names.lookup x = some .local := by first | exact .inl rfl | exact .inr rfl | assumption) : DS X (.AugAssign (.Name x pos') .Add e pos) (sAug i addI fe) :=
  L2.PS.imp (ps_aug hN hi hx he ip_add hf) fun D σ H q => aug_imp (fun _ _ _ _ _ h => addI_some h) q
end
end D
namespace D
open PySem PySem.Spec PyProof.Rows L2
theorem run_bind {α β : Type} (m : M α) (k : α → M β) (hp : Hs) : (m >>= k) hp = (m hp).bind fun p => k p.1 p.2 := by
  show (StateT.bind m k hp) = _
  unfold StateT.bind
  cases m hp with
  | none => rfl
  | some p => obtain ⟨a, h⟩ := p; rfl
theorem run_map {α β : Type} (f : α → β) (m : M α) (hp : Hs) : (f <$> m) hp = (m hp).map fun p => (f p.1, p.2) := by
  show (StateT.map f m hp) = _
  unfold StateT.map
  cases m hp with
  | none => rfl
  | some p => obtain ⟨a, h⟩ := p; rfl
theorem run_pure {α : Type} (a : α) (hp : Hs) : (pure a : M α) hp = some (a, hp) := rfl
theorem run_fail {α : Type} (hp : Hs) : (failure : M α) hp = none := rfl
theorem run_guard (b : Bool) (hp : Hs) : guardM b hp = if b = true then some ((), hp) else none := by cases b <;> rfl
theorem run_get (n : Nat) (hp : Hs) : getW n hp = (hp[n]?).map fun o => (o, hp) := by unfold getW; cases hp[n]? <;> rfl
theorem run_set (n : Nat) (o : OV) (hp : Hs) : setW n o hp = some ((), hp.set n o) := rfl
theorem run_new (o : OV) (hp : Hs) : allocW o hp = some (.ref hp.length, hp ++ [o]) := rfl
theorem getSet_self (hp : Hs) (k : Nat) (X : OV) (h : (hp[k]?).isSome = true) : (hp.set k X)[k]? = some X := by
  have : k < hp.length := by
    rcases Nat.lt_or_ge k hp.length with q | q
    · exact q
    · rw [List.getElem?_eq_none q] at h; cases h
  rw [List.getElem?_set_self this]
theorem getSet_ne (hp : Hs) (k n : Nat) (X : OV) (h : k ≠ n) : (hp.set k X)[n]? = hp[n]? := List.getElem?_set_ne h
theorem getApp_new (hp : Hs) (X : OV) : (hp ++ [X])[hp.length]? = some X := by simp
end D
namespace D
open PySem PySem.Spec PyProof.Rows L2
mutual
def KRep (K : PySem.W.Frag) : DV → V → Prop
  | .non, v => v = .non
  | .bl b, v => v = .bl b
  | .int i, v => v = .int i
  | .str x, v => v = .str x
  | .tup ds, v => ∃ (a : Addr) (o : Obj) (its : Array Value) (n : Nat) (xs : List V), v = .ref a ∧ K.lookup a = some o ∧ o.cls = .type "tuple" ∧ o.data = .seq its n ∧ its.size ≤ sizeLine ∧ Vals xs its.toList ∧ KRepL K ds xs
  | _, _ => False
def KRepL (K : PySem.W.Frag) : List DV → List V → Prop
  | [], xs => xs = []
  | d :: ds, xs => ∃ x r, xs = x :: r ∧ KRep K d x ∧ KRepL K ds r
end
mutual
theorem KRep.rep {K : PySem.W.Frag} {ρ : List Addr} {B : Addr → Prop} {H : Hp} (hb : ∀ a, B a → K.lookup a = none) : ∀ (d : DV) (v : V), KRep K d v → RepV K ρ B H d v
  | .non, _, h => by unfold KRep at h; unfold RepV; exact h
  | .bl _, _, h => by unfold KRep at h; unfold RepV; exact h
  | .int _, _, h => by unfold KRep at h; unfold RepV; exact h
  | .str _, _, h => by unfold KRep at h; unfold RepV; exact h
  | .lst _, _, h => by unfold KRep at h; exact h.elim
  | .ref _, _, h => by unfold KRep at h; exact h.elim
  | .tup ds, _, h => by
    unfold KRep at h; unfold RepV
    obtain ⟨a, o, its, n, xs, rfl, h1, h2, h3, h4, h5, h6⟩ := h
    exact ⟨a, xs, rfl, fun z => (by rw [hb a z] at h1; cases h1), .inr ⟨o, its, n, h1, h2, h3, h4, h5⟩, KRepL.rep hb ds xs h6⟩
theorem KRepL.rep {K : PySem.W.Frag} {ρ : List Addr} {B : Addr → Prop} {H : Hp} (hb : ∀ a, B a → K.lookup a = none) : ∀ (ds : List DV) (xs : List V), KRepL K ds xs → RepL K ρ B H ds xs
  | [], _, h => by unfold KRepL at h; unfold RepL; exact h
  | d :: ds, _, h => by
    unfold KRepL at h; unfold RepL
    obtain ⟨x, r, e, h1, h2⟩ := h
    exact ⟨x, r, e, KRep.rep hb d x h1, KRepL.rep hb ds r h2⟩
end
theorem kr_tup {K : PySem.W.Frag} {ds : List DV} {a : Addr} {od : Option Addr} {its : Array Value} {n : Nat} {sl : Array (Option Value)} {xs : List V} (h : K.lookup a = some ⟨.type "tuple", od, .seq its n, sl⟩) (hs : its.size ≤ sizeLine) (hv : Vals xs its.toList) (hl : KRepL K ds xs) : KRep K (.tup ds) (.ref a) := by
  unfold KRep; exact ⟨a, _, its, n, xs, rfl, h, rfl, rfl, hs, hv, hl⟩
theorem kr_non {K : PySem.W.Frag} : KRep K .non .non := by unfold KRep; rfl
theorem kr_int {K : PySem.W.Frag} {i : Int} : KRep K (.int i) (.int i) := by unfold KRep; rfl
theorem krl_nil {K : PySem.W.Frag} : KRepL K [] [] := by unfold KRepL; rfl
theorem krl_cons {K : PySem.W.Frag} {d : DV} {ds : List DV} {x : V} {r : List V} (h : KRep K d x) (h' : KRepL K ds r) : KRepL K (d :: ds) (x :: r) := by unfold KRepL; exact ⟨x, r, rfl, h, h'⟩
theorem de_gtup {X : Cx} {x : Str} {ds : List DV} {a : Addr} {pos : Pos} (hg : Gl X x) (hm : X.mg x = some (.ref a)) (hk : KRep X.K (.tup ds) (.ref a)) (hd : (x == ("__debug__" : Str)) = false := by decide) : DE X (.Name x pos) (eC (.tup ds)) :=
  (pe_glob (v := .ref a) hg hm rfl hd).imp fun σ H Q ⟨Z, env, ρ, B, hp, d', hp', S, e, k⟩ => by
    obtain ⟨rfl, rfl⟩ := pure_some e
    exact k _ ρ B H Gr.refl S.wo (KRep.rep S.wo.bk _ _ hk)
end D
namespace D
open PySem PySem.Spec PyProof.Rows L2
theorem forL_nx {b : DV → DSx} {d : DV} {ds : List DV} {env env1 : En} {hp hp1 : Hs} (h : b d env hp = some ((.nx, env1), hp1)) : forL b (d :: ds) env hp = forL b ds env1 hp1 := by
  rw [forL, bind_at h]
theorem getMid (hp : Hs) (x : OV) (t : Hs) : (hp ++ x :: t)[hp.length]? = some x := by simp
theorem setMid (hp : Hs) (x y : OV) (t : Hs) : (hp ++ x :: t).set hp.length y = hp ++ y :: t := by
  rw [List.set_append_right _ _ (Nat.le_refl _)]; simp
theorem rng_get {n i : Nat} {d : DV} (h : (rangeL 0 n)[i]? = some d) : i < n ∧ d = .int (i : Int) := by
  obtain ⟨h1, h2⟩ := rangeL_get h
  exact ⟨h1, by rw [h2]; simp⟩
theorem small_nat {n : Nat} (h : n ≤ 1000000) : smallI (n : Int) = true := small_ok (by omega) (by omega)
theorem nat_of {i : Int} (h : 0 ≤ i) : ∃ j : Nat, i = j := ⟨i.toNat, by omega⟩
theorem ixN_nat {n i : Nat} (h : i < n) : ixN n (i : Int) = some i := by unfold ixN; rw [if_pos (by omega), if_pos (by omega)]; simp
theorem sForX_data {f : DXx} {g : DGx} {body : DSx} {env : En} {hp hp1 : Hs} {ds : List DV} {r : (Fl × En) × Hs} (h : f env hp = some (nxD ds, hp1)) (h' : forX (nxD ds) (fun d env => do let env' ← g d env; body env') 100000 0 env hp1 = some r) : sForX f g body env hp = some r := by
  unfold sForX
  rw [bind_at h]; exact h'
theorem sFor_data {f : DIx} {g : DGx} {body : DSx} {env : En} {hp hp1 : Hs} {ds : List DV} {r : (Fl × En) × Hs} (h : f env hp = some (ds, hp1)) (h' : forL (fun d env => do let env' ← g d env; body env') ds env hp1 = some r) : sFor f g body env hp = some r := by
  unfold sFor
  rw [bind_at h]; exact h'
theorem rng1_at {m : Nat} (h : m ≤ 1000000) (hp : Hs) : rng1 [.int (m : Int)] hp = some (rangeL 0 m, hp) := by
  have e : rng1 [.int (m : Int)] = pure (rangeL 0 (m : Int).toNat) := by
    simp only [rng1, small_nat h, guardM, if_true, pure_bind]
  rw [e, Int.toNat_natCast]; rfl
theorem iRg1_at {f : DAx} {env : En} {hp hp1 : Hs} {m : Nat} (h : f env hp = some ([.int (m : Int)], hp1)) (hm : m ≤ 1000000) : iRg1 f env hp = some (rangeL 0 m, hp1) := by
  unfold iRg1
  rw [bind_at h]; exact rng1_at hm hp1
theorem xLs_data {f : DEx} {env : En} {hp hp1 : Hs} {ds : List DV} (h : f env hp = some (.lst ds, hp1)) : xLs f env hp = some (nxD ds, hp1) := by
  unfold xLs
  rw [bind_at h]; rfl
end D
namespace D
open PySem PySem.Spec PyProof.Rows L2
section
variable {X : Cx}
def mExtend (x : DV) : List DV → M DV
  | [y] => onL x fun n ds => onL y fun _ es => do guardM (decide (ds.length + es.length ≤ lim)); setW n (.lst (ds ++ es)); pure .non
  | _ => failure
theorem m_extend : MtR X "list.extend" (tPm X.K mExtend) := by
  intro pins s σ H x vs v us Q I rx rv h
  obtain ⟨ρ, B, hp, dx, es, d, hp', W, r1, r2, e, k⟩ := h
  unfold mExtend at e
  split at e
  · rename_i y
    obtain ⟨n, ds, rfl, h0, e⟩ := onL_some e
    obtain ⟨m, zs, rfl, h0', e⟩ := onL_some e
    obtain ⟨_, hp1, e1, e2⟩ := bind_some e
    obtain ⟨hl, rfl⟩ := guardM_some e1
    cases e2
    obtain ⟨a, rfl, i1, xs, h1, l1⟩ := RepV.refW W r1 h0
    obtain ⟨w, rfl, rw'⟩ := r2.oneI
    obtain ⟨b, rfl, i2, ys, h2, l2⟩ := RepV.refW W rw' h0'
    obtain ⟨g, W'⟩ := wset_lst W i1 h1 (RepL.append l1 l2)
    exact mt_extend pins s σ H _ _ v us Q I rx rv ⟨a, b, xs, ys, rfl, rfl, h1, h2, by rw [← l1.length, ← l2.length]; exact Nat.le_trans (of_decide_eq_true hl) lim_le, k _ ρ B _ g W' rep_non⟩
  · cases e
end
end D
namespace L2
open PySem PySem.Spec PyProof.Rows
abbrev IsZipF (h : Heap) (z p o : Addr) (f : Value) (b : Bool) : Prop := h.get? z = some { cls := Value.type "zip", data := Data.fields #[f, Value.bool b, Value.bool false, Value.ref p, Value.ref o] }
structure ZU (h : Heap) (z p o i j a b : Addr) (n : Nat) : Prop where
  zz : ∃ f fl, IsZipF h z p o f fl ∧ (f = .none ∨ ∃ T : Nat, f = rawInt T)
  pp : IsPair h p (.ref i) (.ref j)
  oo : ∃ x y, IsPair h o x y
  ii : h.IsTupleIter i a n
  jj : h.IsTupleIter j b n
section
variable {prog : Program} {w : World} {A : Around} {E : Value → Shared → Prop} {s : Shared}
end
theorem ZU.at {h h' : Heap} {z p o i j a b : Addr} {n : Nat} (S : ZU h z p o i j a b n) (k : ∀ c ∈ [z, p, o, i, j], ∀ u, h.get? c = some u → h'.get? c = some u) : ZU h' z p o i j a b n := by
  obtain ⟨⟨f, fl, zz, hf⟩, pp, ⟨u1, u2, oo⟩, ii, jj⟩ := S
  exact ⟨⟨f, fl, k z (by simp) _ zz, hf⟩, k p (by simp) _ pp, ⟨u1, u2, k o (by simp) _ oo⟩, ii.at fun u e => k i (by simp) u e, jj.at fun u e => k j (by simp) u e⟩
section
variable {X : Cx} {xn : Str} {p2 : Pos}
end
end L2
namespace D
open PySem PySem.Spec PyProof.Rows L2
section
variable {X : Cx} {xn : Str} {p2 : Pos} {f g : DEx}
end
end D
namespace TR
structure Pg where
  lv : Nat
  ks : List Int
  ps : List Int
  hi : Option Int
  sd : Option Nat
structure Sh where
  room : Nat
  pg : List Pg
  top : Nat
  rd : Int
  wr : Int
inductive Deed where
  | find (k : Int) | put (k w : Int) | cut (k : Int) | stretch (l h : Int)
def Deed.key : Deed → Int
  | .find k => k
  | .put k _ => k
  | .cut k => k
  | .stretch l _ => l
structure Wk where
  deed : Deed
  aim : Int
  goal : Nat
  place : Option Nat
  forks : List (Nat × Nat)
  newp : Option Nat
  worth : Option Int
  pairs : List (Int × Int)
  ended : Bool
inductive Row where
  | non
  | side (n t : Nat)
  | down (n t : Nat)
  | found (n : Nat) (w : Option Int)
  | put (n : Nat) (w : Option Int) (k : Option Nat)
  | cut (n : Nat) (w : Option Int)
  | read (n : Nat) (ps : List (Int × Int)) (t : Option (Nat × Int))
  | told (n : Nat) (k : Option Nat)
  | raised (n t : Nat)
def cLe (ks : List Int) (k : Int) : Nat := (ks.filter fun x => decide (x ≤ k)).length
def cLt (ks : List Int) (k : Int) : Nat := (ks.filter fun x => decide (x < k)).length
def getN (fs : List (Nat × Nat)) (k : Nat) : Option Nat := (fs.find? fun p => decide (p.1 = k)).map (·.2)
def putN (fs : List (Nat × Nat)) (k v : Nat) : List (Nat × Nat) := if (fs.any fun p => decide (p.1 = k)) = true then fs.map (fun p => if p.1 = k then (p.1, v) else p) else fs ++ [(k, v)]
def beyondP (p : Pg) (k : Int) : Bool := match p.hi with
  | none => false
  | some h => decide (h ≤ k)
def worthP (p : Pg) (k : Int) : Option Int := if cLt p.ks k = cLe p.ks k then none else p.ps[cLt p.ks k]?
def withPair (p : Pg) (k w : Int) : Pg := { p with ks := p.ks.take (cLt p.ks k) ++ k :: p.ks.drop (cLe p.ks k), ps := p.ps.take (cLt p.ks k) ++ w :: p.ps.drop (cLe p.ks k) }
def without (p : Pg) (k : Int) : Pg := { p with ks := p.ks.take (cLt p.ks k) ++ p.ks.drop (cLe p.ks k), ps := p.ps.take (cLt p.ks k) ++ p.ps.drop (cLe p.ks k) }
def withKid (p : Pg) (k : Int) (c : Nat) : Pg := { p with ks := p.ks.take (cLe p.ks k) ++ k :: p.ks.drop (cLe p.ks k), ps := p.ps.take (cLe p.ks k + 1) ++ (c : Int) :: p.ps.drop (cLe p.ks k + 1) }
def mid (p : Pg) : Nat := p.ks.length / 2
def cutAt (p : Pg) : Nat := if p.lv = 0 then mid p else mid p + 1
def pKey (p : Pg) : Int := p.ks.getD (mid p) 0
def oldHalf (p : Pg) (n : Nat) : Pg := ⟨p.lv, p.ks.take (mid p), p.ps.take (cutAt p), some (pKey p), some n⟩
def newHalf (p : Pg) : Pg := ⟨p.lv, p.ks.drop (cutAt p), p.ps.drop (cutAt p), p.hi, p.sd⟩
def settleP (S : Sh) (w : Wk) (n : Nat) (p : Pg) : Option Nat × Sh × Wk :=
  if p.ks.length ≤ S.room then (none, { S with pg := S.pg.set n p, wr := S.wr + 1 }, { w with ended := true })
  else (some S.pg.length, { S with pg := (S.pg ++ [newHalf p]).set n (oldHalf p S.pg.length), wr := S.wr + 1 + 1 }, { w with newp := some S.pg.length, aim := pKey p, goal := p.lv + 1, place := getN w.forks (p.lv + 1) })
def pairsIn (p : Pg) (l h : Int) : List (Int × Int) := (p.ks.zip p.ps).filter fun q => decide (l ≤ q.1) && decide (q.1 < h)
def leafP (S : Sh) (w : Wk) (n : Nat) (p : Pg) : Row × Sh × Wk := match w.deed with
  | .find _ => (.found n (worthP p w.aim), S, { w with worth := worthP p w.aim, ended := true })
  | .put _ x => match settleP S { w with worth := worthP p w.aim } n (withPair p w.aim x) with
    | (r, S2, w2) => (.put n (worthP p w.aim) r, S2, w2)
  | .cut _ => (.cut n (worthP p w.aim), if (worthP p w.aim).isSome = true then { S with pg := S.pg.set n (without p w.aim), wr := S.wr + 1 } else S, { w with worth := worthP p w.aim, ended := true })
  | .stretch l h => match p.hi, p.sd with
    | some x, some s => if h ≤ x then (.read n (pairsIn p l h) none, S, { w with pairs := w.pairs ++ pairsIn p l h, ended := true })
        else (.read n (pairsIn p l h) (some (s, x)), S, { w with pairs := w.pairs ++ pairsIn p l h, aim := x, place := some s })
    | _, _ => (.read n (pairsIn p l h) none, S, { w with pairs := w.pairs ++ pairsIn p l h, ended := true })
def stepP (S : Sh) (w : Wk) : Option (Row × Sh × Wk) :=
  if w.ended = true then some (.non, S, w) else
  match S.pg[w.place.getD S.top]? with
  | none => none
  | some p =>
    if w.place = none ∧ p.lv < w.goal then
      match w.newp with
      | none => none
      | some k => some (.raised S.top S.pg.length, { S with rd := S.rd + 1, pg := S.pg ++ [⟨p.lv + 1, [w.aim], [(S.top : Int), (k : Int)], none, none⟩], top := S.pg.length, wr := S.wr + 1 }, { w with ended := true })
    else if beyondP p w.aim = true then
      match p.sd with
      | none => none
      | some s => some (.side (w.place.getD S.top) s, { S with rd := S.rd + 1 }, { w with place := some s })
    else if w.goal < p.lv then
      match p.ps[cLe p.ks w.aim]? with
      | none => none
      | some c => some (.down (w.place.getD S.top) c.toNat, { S with rd := S.rd + 1 }, { w with forks := putN w.forks p.lv (w.place.getD S.top), place := some c.toNat })
    else if 0 < w.goal then
      match w.newp with
      | none => none
      | some k => match settleP { S with rd := S.rd + 1 } w (w.place.getD S.top) (withKid p w.aim k) with
        | (r, S2, w2) => some (.told (w.place.getD S.top) r, S2, w2)
    else some (leafP { S with rd := S.rd + 1 } w (w.place.getD S.top) p)
theorem sorted_take {ks : List Int} (h : ks.Pairwise (· < ·)) (k : Int) : ks.take (cLe ks k) = ks.filter (fun x => decide (x ≤ k)) ∧ ks.drop (cLe ks k) = ks.filter (fun x => decide (k < x)) := by
  unfold cLe
  induction ks with
  | nil => simp
  | cons x xs ih =>
    obtain ⟨h1, h2⟩ := List.pairwise_cons.mp h
    by_cases q : x ≤ k
    · obtain ⟨i1, i2⟩ := ih h2
      have q' : ¬ k < x := by omega
      simp [List.filter_cons, q, q', i1, i2]
    · have e : xs.filter (fun y => decide (y ≤ k)) = [] := by
        rw [List.filter_eq_nil_iff]
        intro y hy; have := h1 y hy; simp; omega
      have e2 : xs.filter (fun y => decide (k < y)) = xs := by
        rw [List.filter_eq_self]
        intro y hy; have := h1 y hy; simp; omega
      have q' : k < x := by omega
      simp [List.filter_cons, q, q', e, e2]
theorem sorted_takeL {ks : List Int} (h : ks.Pairwise (· < ·)) (k : Int) : ks.take (cLt ks k) = ks.filter (fun x => decide (x < k)) ∧ ks.drop (cLt ks k) = ks.filter (fun x => decide (k ≤ x)) := by
  unfold cLt
  induction ks with
  | nil => simp
  | cons x xs ih =>
    obtain ⟨h1, h2⟩ := List.pairwise_cons.mp h
    by_cases q : x < k
    · obtain ⟨i1, i2⟩ := ih h2
      have q' : ¬ k ≤ x := by omega
      simp [List.filter_cons, q, q', i1, i2]
    · have e : xs.filter (fun y => decide (y < k)) = [] := by
        rw [List.filter_eq_nil_iff]
        intro y hy; have := h1 y hy; simp; omega
      have e2 : xs.filter (fun y => decide (k ≤ y)) = xs := by
        rw [List.filter_eq_self]
        intro y hy; have := h1 y hy; simp; omega
      have q' : k ≤ x := by omega
      simp [List.filter_cons, q, q', e, e2]
theorem cLe_le (ks : List Int) (k : Int) : cLe ks k ≤ ks.length := List.length_filter_le _ _
theorem cLt_le (ks : List Int) (k : Int) : cLt ks k ≤ ks.length := List.length_filter_le _ _
theorem cLt_cLe (ks : List Int) (k : Int) : cLt ks k ≤ cLe ks k := by
  unfold cLt cLe
  induction ks with
  | nil => simp
  | cons x xs ih =>
    by_cases q : x < k
    · have : x ≤ k := by omega
      simp [List.filter_cons, q, this, ih]
    · by_cases q2 : x ≤ k
      · simp [List.filter_cons, q, q2]; omega
      · simp [List.filter_cons, q, q2, ih]
theorem cLe_cLt1 {ks : List Int} (h : ks.Pairwise (· < ·)) (k : Int) : cLe ks k ≤ cLt ks k + 1 := by
  unfold cLt cLe
  induction ks with
  | nil => simp
  | cons x xs ih =>
    obtain ⟨h1, h2⟩ := List.pairwise_cons.mp h
    by_cases q : x < k
    · have : x ≤ k := by omega
      have := ih h2
      simp [List.filter_cons, q, *]
    · have e : xs.filter (fun y => decide (y ≤ k)) = [] := by
        rw [List.filter_eq_nil_iff]
        intro y hy; have := h1 y hy; simp; omega
      by_cases q2 : x ≤ k <;> simp [List.filter_cons, q, q2, e]
theorem cLt_eq {ks : List Int} (h : k ∉ ks) : cLt ks k = cLe ks k := by
  unfold cLt cLe
  congr 1
  apply List.filter_congr
  intro x hx
  have : x ≠ k := fun e => h (e ▸ hx)
  by_cases q : x < k
  · have : x ≤ k := by omega
    simp [q, this]
  · have : ¬ x ≤ k := by omega
    simp [q, this]
end TR
namespace TR
abbrev Bg := Nat → Option Int
def leB (b : Option Int) (x : Int) : Prop := ∀ v, b = some v → v ≤ x
def ltB (b : Option Int) (x : Int) : Prop := ∀ v, b = some v → v < x
def ltH (x : Int) (h : Option Int) : Prop := ∀ v, h = some v → x < v
def leBB (b c : Option Int) : Prop := ∀ v, b = some v → ∃ u, c = some u ∧ v ≤ u
theorem leBB.refl (b : Option Int) : leBB b b := fun v h => ⟨v, h, Int.le_refl _⟩
theorem leBB.trans {a b c : Option Int} (h : leBB a b) (g : leBB b c) : leBB a c := fun v e => by
  obtain ⟨u, e1, l1⟩ := h v e
  obtain ⟨x, e2, l2⟩ := g u e1
  exact ⟨x, e2, by omega⟩
theorem leBB.leB {a b : Option Int} {x : Int} (h : leBB a b) (g : leB b x) : leB a x := fun v e => by
  obtain ⟨u, e1, l1⟩ := h v e
  have := g u e1; omega
def startAt (b : Option Int) (ks : List Int) : Nat → Option Int
  | 0 => b
  | j + 1 => ks[j]?
structure PageOk (room : Nat) (b : Option Int) (p : Pg) : Prop where
  sorted : p.ks.Pairwise (· < ·)
  few : p.ks.length ≤ room
  parts : p.ps.length = p.ks.length + (if p.lv = 0 then 0 else 1)
  low : ∀ k ∈ p.ks, leB b k
  lowF : 0 < p.lv → ∀ k ∈ p.ks, ltB b k
  high : ∀ k ∈ p.ks, ltH k p.hi
  wide : ∀ h, p.hi = some h → ltB b h
structure Tree (S : Sh) (bg : Bg) : Prop where
  room2 : 2 ≤ S.room
  root : ∃ r : Pg, S.pg[S.top]? = some r ∧ ∀ (n : Nat) (p : Pg), S.pg[n]? = some p → p.lv ≤ r.lv
  rbg : bg S.top = none
  page : ∀ (n : Nat) (p : Pg), S.pg[n]? = some p → PageOk S.room (bg n) p
  link : ∀ (n : Nat) (p : Pg), S.pg[n]? = some p → (p.hi = none ∧ p.sd = none) ∨ ∃ (h : Int) (s : Nat) (q : Pg), p.hi = some h ∧ p.sd = some s ∧ S.pg[s]? = some q ∧ q.lv = p.lv ∧ bg s = some h
  kid : ∀ (n : Nat) (p : Pg), S.pg[n]? = some p → 0 < p.lv → ∀ j k, p.ps[j]? = some k → ∃ (c : Nat) (q : Pg), k = (c : Int) ∧ S.pg[c]? = some q ∧ q.lv + 1 = p.lv ∧ bg c = startAt (bg n) p.ks j
  dis : ∀ (n m : Nat) (p q : Pg), S.pg[n]? = some p → S.pg[m]? = some q → p.lv = q.lv → n ≠ m → (∃ h v, p.hi = some h ∧ bg m = some v ∧ h ≤ v) ∨ (∃ h v, q.hi = some h ∧ bg n = some v ∧ h ≤ v)
  pred : ∀ (n : Nat) (p : Pg), S.pg[n]? = some p → ∀ v, bg n = some v → ∃ (m : Nat) (q : Pg), S.pg[m]? = some q ∧ q.lv = p.lv ∧ q.hi = some v
theorem Tree.uniq {S : Sh} {bg : Bg} (T : Tree S bg) {n m : Nat} {p q : Pg} (hn : S.pg[n]? = some p) (hm : S.pg[m]? = some q) (hl : p.lv = q.lv) (hb : bg n = bg m) : n = m := by
  rcases Nat.decEq n m with h | h
  · exfalso
    rcases T.dis n m p q hn hm hl h with ⟨x, v, h1, h2, h3⟩ | ⟨x, v, h1, h2, h3⟩
    · have := (T.page n p hn).wide x h1 v (hb.trans h2); omega
    · have := (T.page m q hm).wide x h1 v (hb.symm.trans h2); omega
  · exact h
structure Grow (S : Sh) (bg : Bg) (S' : Sh) (bg' : Bg) : Prop where
  old : ∀ (n : Nat) (p : Pg), S.pg[n]? = some p → bg' n = bg n ∧ ∃ p' : Pg, S'.pg[n]? = some p' ∧ p'.lv = p.lv
theorem Grow.refl {S : Sh} {bg : Bg} : Grow S bg S bg := ⟨fun n p h => ⟨rfl, p, h, rfl⟩⟩
theorem Grow.trans {S S' S'' : Sh} {bg bg' bg'' : Bg} (a : Grow S bg S' bg') (b : Grow S' bg' S'' bg'') : Grow S bg S'' bg'' := ⟨fun n p h => by
  obtain ⟨e1, p1, h1, l1⟩ := a.old n p h
  obtain ⟨e2, p2, h2, l2⟩ := b.old n p1 h1
  exact ⟨e2.trans e1, p2, h2, l2.trans l1⟩⟩
def Untold (S : Sh) (k : Nat) : Prop := ∀ (n : Nat) (p : Pg), S.pg[n]? = some p → 0 < p.lv → (k : Int) ∉ p.ps
structure WOk (S : Sh) (bg : Bg) (w : Wk) : Prop where
  at_ : ∀ n : Nat, w.place = some n → ∃ p : Pg, S.pg[n]? = some p ∧ w.goal ≤ p.lv ∧ leB (bg n) w.aim
  none_ : w.place = none → ∀ l f, getN w.forks l = some f → l < w.goal
  kept : ∀ l f, getN w.forks l = some f → ∃ p : Pg, S.pg[f]? = some p ∧ p.lv = l
  above : ∀ (n : Nat) (p : Pg), w.place = some n → S.pg[n]? = some p → ∀ l f, getN w.forks l = some f → p.lv < l → leBB (bg f) (bg n)
  chain : ∀ l f l' f', getN w.forks l = some f → getN w.forks l' = some f' → w.goal ≤ l → l < l' → leBB (bg f') (bg f)
  gap : ∀ (n : Nat) (p : Pg), w.place = some n → S.pg[n]? = some p → w.goal < p.lv → ∀ l f, getN w.forks l = some f → l < w.goal ∨ p.lv < l
  full : ∀ (n : Nat) (p : Pg), w.place = some n → S.pg[n]? = some p → ∀ l' f', getN w.forks l' = some f' → ∀ l, p.lv < l → l ≤ l' → ∃ f, getN w.forks l = some f
  tell : 0 < w.goal → ∃ (k : Nat) (q : Pg), w.newp = some k ∧ S.pg[k]? = some q ∧ q.lv + 1 = w.goal ∧ bg k = some w.aim
theorem WOk.grow {S S' : Sh} {bg bg' : Bg} {w : Wk} (W : WOk S bg w) (g : Grow S bg S' bg') : WOk S' bg' w where
  at_ := fun n h => by
    obtain ⟨p, h1, h2, h3⟩ := W.at_ n h
    obtain ⟨e, p', h4, h5⟩ := g.old n p h1
    exact ⟨p', h4, by omega, by rw [e]; exact h3⟩
  none_ := W.none_
  kept := fun l f h => by
    obtain ⟨p, h1, h2⟩ := W.kept l f h
    obtain ⟨e, p', h4, h5⟩ := g.old f p h1
    exact ⟨p', h4, by omega⟩
  above := fun n p' hp hn l f hf hl => by
    obtain ⟨p, h1, _⟩ := W.at_ n hp
    obtain ⟨e, p2, h4, h5⟩ := g.old n p h1
    rw [h4] at hn; cases hn
    obtain ⟨pf, h6, _⟩ := W.kept l f hf
    rw [e, (g.old f pf h6).1]
    exact W.above n p hp h1 l f hf (by omega)
  chain := fun l f l' f' h h' a b => by
    obtain ⟨p, h1, _⟩ := W.kept l f h
    obtain ⟨p', h1', _⟩ := W.kept l' f' h'
    rw [(g.old f p h1).1, (g.old f' p' h1').1]
    exact W.chain l f l' f' h h' a b
  gap := fun n p' hp hn a l f hf => by
    obtain ⟨p, h1, _⟩ := W.at_ n hp
    obtain ⟨e, p2, h4, h5⟩ := g.old n p h1
    rw [h4] at hn; cases hn
    rw [h5]
    exact W.gap n p hp h1 (by omega) l f hf
  full := fun n p' hp hn l' f' hf l a b => by
    obtain ⟨p, h1, _⟩ := W.at_ n hp
    obtain ⟨e, p2, h4, h5⟩ := g.old n p h1
    rw [h4] at hn; cases hn
    exact W.full n p hp h1 l' f' hf l (by omega) b
  tell := fun h => by
    obtain ⟨k, q, h1, h2, h3, h4⟩ := W.tell h
    obtain ⟨e, p', h5, h6⟩ := g.old k q h2
    exact ⟨k, p', h1, h5, by omega, by rw [e]; exact h4⟩
theorem WOk.fresh {S : Sh} {bg : Bg} {w : Wk} (h1 : w.place = none) (h2 : w.forks = []) (h3 : w.goal = 0) : WOk S bg w where
  at_ := fun n h => by rw [h1] at h; cases h
  none_ := fun _ l f h => by rw [h2] at h; cases h
  kept := fun l f h => by rw [h2] at h; cases h
  above := fun n p h => by rw [h1] at h; cases h
  chain := fun l f l' f' h => by rw [h2] at h; cases h
  gap := fun n p h => by rw [h1] at h; cases h
  full := fun n p h => by rw [h1] at h; cases h
  tell := fun h => by omega
theorem get_set {α : Type} {xs : List α} {n m : Nat} {x y : α} (h : (xs.set n x)[m]? = some y) : (m = n ∧ y = x ∧ n < xs.length) ∨ (m ≠ n ∧ xs[m]? = some y) := by
  by_cases e : m = n
  · subst e
    by_cases hl : m < xs.length
    · rw [List.getElem?_set_self hl] at h; cases h; exact .inl ⟨rfl, rfl, hl⟩
    · rw [List.getElem?_eq_none (by simpa using hl)] at h; cases h
  · rw [List.getElem?_set_ne (Ne.symm e)] at h; exact .inr ⟨e, h⟩
theorem set_get {α : Type} {xs : List α} {n m : Nat} {x y : α} (h : xs[m]? = some y) : (xs.set n x)[m]? = some (if m = n then x else y) := by
  have hl := (List.getElem?_eq_some_iff.mp h).1
  by_cases e : m = n
  · subst e; rw [List.getElem?_set_self hl, if_pos rfl]
  · rw [List.getElem?_set_ne (Ne.symm e), h, if_neg e]
theorem Tree.write {S : Sh} {bg : Bg} (T : Tree S bg) {n : Nat} {p p' : Pg} {x y : Int} (hn : S.pg[n]? = some p) (hl : p'.lv = p.lv) (hh : p'.hi = p.hi) (hs : p'.sd = p.sd) (ok : PageOk S.room (bg n) p')
    (hk : 0 < p.lv → ∀ j k, p'.ps[j]? = some k → ∃ (c : Nat) (q : Pg), k = (c : Int) ∧ S.pg[c]? = some q ∧ q.lv + 1 = p.lv ∧ bg c = startAt (bg n) p'.ks j) :
    Tree { S with pg := S.pg.set n p', rd := x, wr := y } bg ∧ Grow S bg { S with pg := S.pg.set n p', rd := x, wr := y } bg := by
  have old : ∀ (m : Nat) (q : Pg), S.pg[m]? = some q → ∃ q' : Pg, (S.pg.set n p')[m]? = some q' ∧ q'.lv = q.lv ∧ q'.hi = q.hi ∧ q'.sd = q.sd := fun m q h => by
    refine ⟨_, set_get h, ?_⟩
    by_cases e : m = n
    · subst e; rw [hn] at h; cases h; simp [hl, hh, hs]
    · simp [e]
  have new : ∀ (m : Nat) (q' : Pg), (S.pg.set n p')[m]? = some q' → ∃ q : Pg, S.pg[m]? = some q ∧ q'.lv = q.lv ∧ q'.hi = q.hi ∧ q'.sd = q.sd := fun m q' h => by
    rcases get_set h with ⟨rfl, rfl, _⟩ | ⟨_, h⟩
    · exact ⟨p, hn, hl, hh, hs⟩
    · exact ⟨q', h, rfl, rfl, rfl⟩
  refine ⟨⟨T.room2, ?_, T.rbg, fun m q h => ?_, fun m q h => ?_, fun m q h h0 j k hj => ?_, fun a b q r ha hb hab e => ?_, fun m q h v hv => ?_⟩, ⟨fun m q h => ⟨rfl, by obtain ⟨q', h1, h2, _⟩ := old m q h; exact ⟨q', h1, h2⟩⟩⟩⟩
  · obtain ⟨r, h1, h2⟩ := T.root
    obtain ⟨r', h3, h4, _⟩ := old _ _ h1
    exact ⟨r', h3, fun m q h => by obtain ⟨q0, h5, h6, _⟩ := new m q h; rw [h6, h4]; exact h2 m q0 h5⟩
  · rcases get_set h with ⟨rfl, rfl, _⟩ | ⟨_, h⟩
    · exact ok
    · exact T.page m q h
  · obtain ⟨q0, h1, h2, h3, h4⟩ := new m q h
    rcases T.link m q0 h1 with ⟨a, b⟩ | ⟨x, s, r, a, b, c, d, e⟩
    · exact .inl ⟨h3.trans a, h4.trans b⟩
    · obtain ⟨r', c1, c2, _⟩ := old s r c
      exact .inr ⟨x, s, r', h3.trans a, h4.trans b, c1, by rw [c2, d, h2], e⟩
  · rcases get_set h with ⟨rfl, rfl, _⟩ | ⟨_, h⟩
    · obtain ⟨c, r, h1, h2, h3, h4⟩ := hk (by omega) j k hj
      obtain ⟨r', c1, c2, _⟩ := old c r h2
      exact ⟨c, r', h1, c1, by omega, h4⟩
    · obtain ⟨c, r, h1, h2, h3, h4⟩ := T.kid m q h h0 j k hj
      obtain ⟨r', c1, c2, _⟩ := old c r h2
      exact ⟨c, r', h1, c1, by omega, h4⟩
  · obtain ⟨q0, h1, h2, h3, _⟩ := new a q ha
    obtain ⟨r0, h5, h6, h7, _⟩ := new b r hb
    rw [h3, h7]
    exact T.dis a b q0 r0 h1 h5 (by omega) e
  · obtain ⟨q0, h1, h2, _⟩ := new m q h
    obtain ⟨a, r, h3, h4, h5⟩ := T.pred m q0 h1 v hv
    obtain ⟨r', c1, c2, c3, _⟩ := old a r h3
    exact ⟨a, r', c1, by omega, c3.trans h5⟩
end TR
namespace TR
theorem app_get {α : Type} {xs : List α} {x : α} {m : Nat} {y : α} (h : xs[m]? = some y) : (xs ++ [x])[m]? = some y := by
  rw [List.getElem?_append_left (List.getElem?_eq_some_iff.mp h).1]; exact h
theorem lt_of_get {α : Type} {xs : List α} {m : Nat} {y : α} (h : xs[m]? = some y) : m < xs.length := (List.getElem?_eq_some_iff.mp h).1
section
variable {S : Sh} {bg : Bg} {n : Nat} {p P : Pg}
end
end TR
namespace TR
section
variable {S : Sh} {bg : Bg} {n : Nat} {p : Pg}
end
end TR
namespace TR
structure All (S : Sh) (bg : Bg) (ws : List Wk) : Prop where
  ok : ∀ (i : Nat) (w : Wk), ws[i]? = some w → w.ended = false → WOk S bg w
  unt : ∀ (i : Nat) (w : Wk) (k : Nat), ws[i]? = some w → w.ended = false → 0 < w.goal → w.newp = some k → Untold S k
  diff : ∀ (i j : Nat) (w v : Wk) (k : Nat), i ≠ j → ws[i]? = some w → ws[j]? = some v → w.ended = false → v.ended = false → 0 < w.goal → 0 < v.goal → w.newp = some k → v.newp ≠ some k
structure Stp (S : Sh) (bg : Bg) (w : Wk) (S' : Sh) (bg' : Bg) (w' : Wk) : Prop where
  tree : Tree S' bg'
  grow : Grow S bg S' bg'
  wok : w'.ended = false → WOk S' bg' w'
  unt : ∀ k v, Untold S k → bg k = some v → (0 < w.goal → w.newp ≠ some k) → Untold S' k
  new : ∀ k, w'.ended = false → 0 < w'.goal → w'.newp = some k → Untold S' k ∧ ((0 < w.goal ∧ w.newp = some k) ∨ S.pg.length ≤ k)
  room : S'.room = S.room
  len : S'.pg.length ≤ S.pg.length + 1
theorem All.step {S S' : Sh} {bg bg' : Bg} {ws : List Wk} {i : Nat} {w w' : Wk} (A : All S bg ws) (hi : ws[i]? = some w) (hw : w.ended = false) (st : Stp S bg w S' bg' w') : All S' bg' (ws.set i w') where
  ok := fun j v hj hv => by
    rcases get_set hj with ⟨rfl, rfl, _⟩ | ⟨_, h⟩
    · exact st.wok hv
    · exact (A.ok j v h hv).grow st.grow
  unt := fun j v k hj hv hg hk => by
    rcases get_set hj with ⟨rfl, rfl, _⟩ | ⟨e, h⟩
    · exact (st.new k hv hg hk).1
    · obtain ⟨k', q, a1, a2, a3, a4⟩ := (A.ok j v h hv).tell hg
      rw [hk] at a1; cases a1
      exact st.unt k _ (A.unt j v k h hv hg hk) a4 fun g0 => (A.diff j i v w k e h hi hv hw hg g0 hk)
  diff := fun a b u v k e ha hb hu hv gu gv hk hk' => by
    have key : ∀ (c : Nat) (x : Wk), c ≠ i → ws[c]? = some x → x.ended = false → 0 < x.goal → x.newp = some k → w'.ended = false → 0 < w'.goal → w'.newp = some k → False := fun c x hc hx he hg hk he' hg' hk' => by
      rcases (st.new k he' hg' hk').2 with ⟨g0, n0⟩ | l
      · exact A.diff c i x w k hc hx hi he hw hg g0 hk n0
      · obtain ⟨k', q, a1, a2, _⟩ := (A.ok c x hx he).tell hg
        rw [hk] at a1; cases a1
        have := lt_of_get a2; omega
    rcases get_set ha with ⟨rfl, rfl, _⟩ | ⟨ea, ha2⟩
    · rcases get_set hb with ⟨rfl, rfl, _⟩ | ⟨eb, hb2⟩
      · exact e rfl
      · exact key b v eb hb2 hv gv hk' hu gu hk
    · rcases get_set hb with ⟨rfl, rfl, _⟩ | ⟨eb, hb2⟩
      · exact key a u ea ha2 hu gu hk hv gv hk'
      · exact A.diff a b u v k e ha2 hb2 hu hv gu gv hk hk'
theorem All.put {S : Sh} {bg : Bg} {ws : List Wk} {i : Nat} {w : Wk} (A : All S bg ws) (h1 : w.place = none) (h2 : w.forks = []) (h3 : w.goal = 0) : All S bg (ws.set i w) where
  ok := fun j v hj hv => by
    rcases get_set hj with ⟨rfl, rfl, _⟩ | ⟨_, h⟩
    · exact WOk.fresh h1 h2 h3
    · exact A.ok j v h hv
  unt := fun j v k hj hv hg hk => by
    rcases get_set hj with ⟨rfl, rfl, _⟩ | ⟨_, h⟩
    · omega
    · exact A.unt j v k h hv hg hk
  diff := fun a b u v k e ha hb hu hv gu gv hk => by
    rcases get_set ha with ⟨rfl, rfl, _⟩ | ⟨_, ha⟩
    · omega
    · rcases get_set hb with ⟨rfl, rfl, _⟩ | ⟨_, hb⟩
      · omega
      · exact A.diff a b u v k e ha hb hu hv gu gv hk
theorem Tree.rd {S : Sh} {bg : Bg} (T : Tree S bg) (x y : Int) : Tree { S with rd := x, wr := y } bg := ⟨T.room2, T.root, T.rbg, T.page, T.link, T.kid, T.dis, T.pred⟩
section
variable {S : Sh} {bg : Bg} {n : Nat} {p P : Pg} {w : Wk}
theorem Untold.set {S : Sh} {n : Nat} {p P : Pg} {k : Nat} {x y : Int} (h : Untold S k) (hn : S.pg[n]? = some p) (hl : P.lv = p.lv) (hs : 0 < p.lv → (k : Int) ∈ P.ps → (k : Int) ∈ p.ps) : Untold { S with pg := S.pg.set n P, rd := x, wr := y } k := fun m q hm h0 hk => by
  rcases get_set hm with ⟨rfl, rfl, _⟩ | ⟨_, hm⟩
  · exact h m p hn (by omega) (hs (by omega) hk)
  · exact h m q hm h0 hk
end
end TR
namespace TR
section
variable {S : Sh} {bg : Bg} {n : Nat} {p : Pg} {w : Wk}
theorem WOk.rd (W : WOk S bg w) (x y : Int) : WOk { S with rd := x, wr := y } bg w := ⟨W.at_, W.none_, W.kept, W.above, W.chain, W.gap, W.full, W.tell⟩
end
end TR
namespace TR
def ltO : Option Int → Option Int → Bool
  | none, some _ => true
  | some v, some u => decide (v < u)
  | _, none => false
section
variable {S : Sh} {bg : Bg}
def mu (S : Sh) (bg : Bg) (n : Nat) : Nat := ((List.range S.pg.length).filter fun m => ltO (bg n) (bg m)).length
inductive Lefts (S : Sh) (bg : Bg) : Nat → List Nat → Prop
  | leaf {n : Nat} {p : Pg} : S.pg[n]? = some p → p.lv = 0 → bg n = none → Lefts S bg n [n]
  | fork {n c : Nat} {p : Pg} {r : List Nat} : S.pg[n]? = some p → 0 < p.lv → bg n = none → p.ps[0]? = some (c : Int) → Lefts S bg c r → Lefts S bg n (n :: r)
theorem Lefts.get {n : Nat} {r : List Nat} (h : Lefts S bg n r) : ∀ (T : Tree S bg) (p : Pg), S.pg[n]? = some p → r.length = p.lv + 1 ∧ ∀ i c, r[i]? = some c → ∃ q, S.pg[c]? = some q ∧ q.lv + i = p.lv ∧ bg c = none := by
  induction h with
  | @leaf n p0 hn h0 hb =>
    intro T p hp
    rw [hn] at hp; cases hp
    refine ⟨by simp [h0], fun i c hc => ?_⟩
    match i, hc with
    | 0, hc => cases hc; exact ⟨_, hn, rfl, hb⟩
    | i + 1, hc => simp at hc
  | @fork n c p0 r hn h0 hb hc l ih =>
    intro T p hp
    rw [hn] at hp; cases hp
    obtain ⟨c', q, a1, a2, a3, a4⟩ := T.kid n p0 hn h0 0 _ hc
    have : c = c' := by omega
    subst this
    obtain ⟨i1, i2⟩ := ih T q a2
    refine ⟨by simp [i1]; omega, fun i d hd => ?_⟩
    match i, hd with
    | 0, hd => cases hd; exact ⟨_, hn, rfl, hb⟩
    | i + 1, hd =>
      obtain ⟨z, b1, b2, b3⟩ := i2 i d (by simpa using hd)
      exact ⟨z, b1, by omega, b3⟩
end
end TR
namespace TR
def fresh (d : Deed) : Wk := ⟨d, d.key, 0, none, [], none, none, [], false⟩
end TR
namespace D
open PySem PySem.Spec PyProof.Rows L2
def oN : Option Nat → DV
  | none => .non
  | some n => .int n
def pgD (p : TR.Pg) : DV := .tup [.int p.lv, .tup (p.ks.map .int), .tup (p.ps.map .int), opt p.hi, oN p.sd]
def prD (ps : List (Int × Int)) : List DV := ps.map fun p => .tup [.int p.1, .int p.2]
section
variable (s f q : Nat) (d a g p n w e x : DV)
end
end D
namespace D
open PySem PySem.Spec PyProof.Rows L2
section
variable {c f m : Str} {o e : DEx} {fa : DAx} {env : En} {hp hp1 hp2 : Hs} {a n : Nat} {fs : List (Str × DV)} {d v : DV} {ds : List DV} {F : List DV → M DV}
theorem onI_run {α : Type} {k : Nat → List (Str × DV) → M α} (h : hp[a]? = some (.ins c fs)) : onI c (.ref a) k hp = k a fs hp := by
  show (getW a >>= _) hp = _
  rw [bind_at (getW_of h)]
  show (guardM (decide (c = c)) >>= fun _ => k a fs) hp = _
  rw [decide_eq_true rfl]; rfl
theorem meth_at (ho : o env hp = some (.ref a, hp)) (h : hp[a]? = some (.ins c fs)) (hm : fs.lookup m = none) (ha : fa env hp = some (ds, hp1)) (hn : ds.length + 1 = n) (hF : F (.ref a :: ds) hp1 = some (d, hp2)) : eMeth c m n F o fa env hp = some (d, hp2) := by
  unfold eMeth
  rw [bind_at ho]
  have : onI c (.ref a) (fun _ fs => guardM (fs.lookup m).isNone) hp = some ((), hp) := by rw [onI_run h, hm]; rfl
  rw [bind_at this, bind_at ha, decide_eq_true hn]
  show (guardM true >>= fun _ => F (.ref a :: ds)) hp1 = _
  exact hF
theorem a0_at : aNil env hp = some ([], hp) := rfl
theorem a1_at (h : e env hp = some (v, hp1)) : aCons e aNil env hp = some ([v], hp1) := by unfold aCons; rw [bind_at h]; rfl
theorem a2_at {e' : DEx} {v' : DV} (h : e env hp = some (v, hp1)) (h' : e' env hp1 = some (v', hp2)) : aCons e (aCons e' aNil) env hp = some ([v, v'], hp2) := by
  have := a1_at h'
  unfold aCons at this ⊢; rw [bind_at h, bind_at this]; rfl
theorem a3_at {e' e'' : DEx} {v' v'' : DV} {hp3 : Hs} (h : e env hp = some (v, hp1)) (h' : e' env hp1 = some (v', hp2)) (h'' : e'' env hp2 = some (v'', hp3)) : aCons e (aCons e' (aCons e'' aNil)) env hp = some ([v, v', v''], hp3) := by
  have := a2_at h' h''
  unfold aCons at this ⊢; rw [bind_at h, bind_at this]; rfl
theorem var_at {i : Nat} (h : env[i]? = some (.val d)) : eVar i env hp = some (d, hp) := by unfold eVar; rw [h]; rfl
theorem call_at {k : Nat} (ha : fa env hp = some (ds, hp1)) (hk : ds.length = k) (hF : F ds hp1 = some (d, hp2)) : eCall k F fa env hp = some (d, hp2) := by
  unfold eCall; rw [bind_at ha, decide_eq_true hk]; exact hF
theorem ifT_at {c : DTx} {f g : DSx} (h : c env hp = some (true, hp1)) : sIf c f g env hp = f env hp1 := by rw [sIf_at h]; rfl
theorem ifF_at {c : DTx} {f g : DSx} (h : c env hp = some (false, hp1)) : sIf c f g env hp = g env hp1 := by rw [sIf_at h]; rfl
theorem nil_at : sNil env hp = some ((.nx, env), hp) := rfl
theorem ixG_lst {i : Nat} (h : hp[a]? = some (.lst ds)) (hd : ds[i]? = some d) : ixG (.ref a) (.int i) hp = some (d, hp) := by
  show (getW a >>= _) hp = _
  rw [bind_at (getW_of h)]
  show (asI (.int (i : Int)) >>= fun i => optM (atI ds i)) hp = _
  simp only [asI, pure_bind, atI_nat hd]; rfl
end
theorem tup_ix {xs : List DV} {i : Nat} {d : DV} (h : xs[i]? = some d) (hp : Hs) : ixG (.tup xs) (.int i) hp = some (d, hp) := by
  show ixD (.tup xs) (.int i) hp = _
  simp only [ixD, atI_nat h]; rfl
end D
namespace D
open PySem PySem.Spec PyProof.Rows L2
section
variable {e e' e'' e3 e4 : DEx} {fa : DAx} {env : En} {hp hp1 hp2 hp3 hp4 hp5 : Hs} {v v' v'' v3 v4 d : DV} {ds : List DV}
theorem tup_at (ha : fa env hp = some (ds, hp1)) (hs : ds.length ≤ 100000) : eTup fa env hp = some (.tup ds, hp1) := by
  unfold eTup
  rw [bind_at ha]
  have : short ds = true := decide_eq_true hs
  rw [this]; rfl
theorem a4_at (h : e env hp = some (v, hp1)) (h' : e' env hp1 = some (v', hp2)) (h'' : e'' env hp2 = some (v'', hp3)) (h3 : e3 env hp3 = some (v3, hp4)) : aCons e (aCons e' (aCons e'' (aCons e3 aNil))) env hp = some ([v, v', v'', v3], hp4) := by
  have := a3_at h' h'' h3
  unfold aCons at this ⊢; rw [bind_at h, bind_at this]; rfl
theorem a5_at (h : e env hp = some (v, hp1)) (h' : e' env hp1 = some (v', hp2)) (h'' : e'' env hp2 = some (v'', hp3)) (h3 : e3 env hp3 = some (v3, hp4)) (h4 : e4 env hp4 = some (v4, hp5)) : aCons e (aCons e' (aCons e'' (aCons e3 (aCons e4 aNil)))) env hp = some ([v, v', v'', v3, v4], hp5) := by
  have := a4_at h' h'' h3 h4
  unfold aCons at this ⊢; rw [bind_at h, bind_at this]; rfl
end
theorem zip_prD : ∀ (ks ps : List Int), zipL (ks.map .int) (ps.map .int) = prD (ks.zip ps)
  | [], _ => by cases ‹List Int› <;> rfl
  | _ :: _, [] => rfl
  | k :: ks, p :: ps => by
    show .tup [.int k, .int p] :: zipL (ks.map .int) (ps.map .int) = _
    rw [zip_prD ks ps]; rfl
theorem prD_len (zs : List (Int × Int)) : (prD zs).length = zs.length := List.length_map _
theorem prD_app (zs ys : List (Int × Int)) : prD zs ++ prD ys = prD (zs ++ ys) := by simp [prD]
section
variable {c c' : DTx} {e e' : DEx} {env : En} {hp hp1 : Hs} {b : Bool}
theorem eOr_F (h : c env hp = some (false, hp1)) : eOr c c' env hp = c' env hp1 := by unfold eOr; rw [bind_at h]; rfl
theorem eAnd_T (h : c env hp = some (true, hp1)) : eAnd c c' env hp = c' env hp1 := by unfold eAnd; rw [bind_at h]; rfl
theorem eAnd_F (h : c env hp = some (false, hp1)) : eAnd c c' env hp = some (false, hp1) := by unfold eAnd; rw [bind_at h]; rfl
theorem eIf_T (h : c env hp = some (true, hp1)) : eIf c e e' env hp = e env hp1 := by unfold eIf; rw [bind_at h]; rfl
theorem eIf_F (h : c env hp = some (false, hp1)) : eIf c e e' env hp = e' env hp1 := by unfold eIf; rw [bind_at h]; rfl
end
end D
namespace D
open PySem PySem.Spec PyProof.Rows L2
section
variable {f g : DEx} {fa : DAx} {env : En} {hp hp1 hp2 : Hs} {d x y : DV} {ds : List DV} {F : List DV → M DV}
theorem blt_at (h : fa env hp = some (ds, hp1)) (hF : F ds hp1 = some (d, hp2)) : eBlt F fa env hp = some (d, hp2) := by unfold eBlt; rw [bind_at h]; exact hF
theorem lenG_lst (ds : List DV) (hp : Hs) : lenG [.lst ds] hp = some (.int ds.length, hp) := rfl
theorem lenG_ref {n : Nat} (h : hp[n]? = some (.lst ds)) : lenG [.ref n] hp = some (.int ds.length, hp) := by
  show (getW n >>= _) hp = _
  rw [bind_at (getW_of h)]; rfl
theorem neI (i j : Int) (hp : Hs) : neG (.int i) (.int j) hp = some (.bl (!(i == j)), hp) := by
  unfold neG; rw [bind_at (eqvG_int i j hp)]; rfl
theorem neII (i : Int) (hp : Hs) : neG (.int i) (.int i) hp = some (.bl false, hp) := by rw [neI]; simp
theorem eqI (i j : Int) (hp : Hs) : eqG (.int i) (.int j) hp = some (.bl (i == j), hp) := by
  unfold eqG; rw [bind_at (eqvG_int i j hp)]; rfl
theorem neO (a b : Option Int) (hp : Hs) : neG (opt a) (opt b) hp = some (.bl (!decide (a = b)), hp) := by
  unfold neG; rw [bind_at (eqvG_opt a b hp)]; rfl
theorem eqvL_nil (ks : List Int) (hp : Hs) : eqvG (.lst (ks.map .int)) (.lst []) hp = some (decide (ks = []), hp) := by
  have e := eqvG_of (x := .lst (ks.map .int)) (y := .lst []) (y' := .lst []) (drf_lstI 38 hp ks) rfl (okP_lstI ks) (okP_lstI [])
  have q := eqvAll_ints ks []
  rw [e]
  show some (PyData.eqvAll (toPs (ks.map .int)) [], hp) = _
  rw [toPs_ints]
  exact congrArg (fun b => some (b, hp)) q
theorem neL_nil (ks : List Int) (hp : Hs) : neG (.lst (ks.map .int)) (.lst []) hp = some (.bl (!decide (ks = [])), hp) := by
  unfold neG; rw [bind_at (eqvL_nil ks hp)]; rfl
end
end D
namespace D
open PySem PySem.Spec PyProof.Rows L2
section
variable {c : DTx} {b : DSx} {n : Nat} {env env1 : En} {hp hp1 hp2 : Hs}
theorem while_T (h : c env hp = some (true, hp1)) (hb : b env hp1 = some ((.nx, env1), hp2)) : whileD c b (n + 1) env hp = whileD c b n env1 hp2 := by
  rw [whileD, bind_at h]
  simp only [if_true]
  rw [bind_at hb]
theorem while_F (h : c env hp = some (false, hp1)) : whileD c b (n + 1) env hp = some ((.nx, env), hp1) := by
  rw [whileD, bind_at h]; rfl
end
def nD (r : List Nat) : List DV := r.map fun n : Nat => DV.int (n : Int)
theorem append_at {o e : DEx} {env : En} {hp : Hs} {a : Nat} {ds : List DV} {d : DV} (ho : o env hp = some (.ref a, hp)) (h : hp[a]? = some (.lst ds)) (he : e env hp = some (d, hp)) (hl : ds.length < 100000) : eMth "list" mAppend o (aCons e aNil) env hp = some (.non, hp.set a (.lst (ds ++ [d]))) := by
  unfold eMth
  rw [bind_at ho]
  have e2 : kindG "list" (.ref a) hp = some ((), hp) := by
    show (getW a >>= _) hp = _
    rw [bind_at (getW_of h)]; rfl
  rw [bind_at e2, bind_at (a1_at he)]
  show (getW a >>= _) hp = _
  rw [bind_at (getW_of h)]
  show (guardM (decide (ds.length < lim)) >>= fun _ => setW a (.lst (ds ++ [d])) >>= fun _ => pure DV.non) hp = _
  rw [show decide (ds.length < lim) = true from decide_eq_true hl]; rfl
end D
namespace D
open PySem PySem.Spec PyProof.Rows L2
end D
namespace D
open PySem PySem.Spec PyProof.Rows L2
section
variable {X : Cx} {e : Expr} {f : DEx} {pos : Pos}
end
end D
namespace D
open PySem PySem.Spec PyProof.Rows L2
def Pl : Nat → DV → Prop
  | _, .non => True
  | _, .bl _ => True
  | _, .int _ => True
  | _, .str x => PyData.strOk x = true
  | n + 1, .tup ds => ∀ d ∈ ds, Pl n d
  | n + 1, .lst ds => ∀ d ∈ ds, Pl n d
  | _, _ => False
theorem drf_pl : ∀ (n : Nat) (d : DV) (k : Nat) (hp : Hs), Pl n d → drf (n + k + 1) hp d = some d
  | n, .non, k, hp, _ => rfl
  | n, .bl _, k, hp, _ => rfl
  | n, .int _, k, hp, _ => rfl
  | n, .str _, k, hp, _ => rfl
  | 0, .tup ds, k, hp, h => h.elim
  | 0, .lst ds, k, hp, h => h.elim
  | 0, .ref _, k, hp, h => h.elim
  | n + 1, .ref _, k, hp, h => h.elim
  | n + 1, .tup ds, k, hp, h => by
    show (ds.mapM (drf (n + 1 + k) hp)).map DV.tup = _
    rw [mapM_same fun d hd => (by rw [Nat.add_right_comm]; exact drf_pl n d k hp (h d hd))]; rfl
  | n + 1, .lst ds, k, hp, h => by
    show (ds.mapM (drf (n + 1 + k) hp)).map DV.lst = _
    rw [mapM_same fun d hd => (by rw [Nat.add_right_comm]; exact drf_pl n d k hp (h d hd))]; rfl
theorem lay_all : ∀ (ds : List DV), (∀ d ∈ ds, (toP d).canLay0 = true) → PyData.canLayAll0 (toPs ds) = true
  | [], _ => by unfold toPs PyData.canLayAll0; rfl
  | d :: ds, h => by unfold toPs PyData.canLayAll0; rw [h d (by simp), lay_all ds fun x hx => h x (List.mem_cons_of_mem _ hx)]; rfl
theorem lay_pl : ∀ (n : Nat) (d : DV), Pl n d → (toP d).canLay0 = true
  | n, .non, _ => by unfold toP PyData.canLay0; rfl
  | n, .bl _, _ => by unfold toP PyData.canLay0; rfl
  | n, .int _, _ => by unfold toP PyData.canLay0; rfl
  | n, .str x, h => by cases n <;> (unfold toP PyData.canLay0; exact h)
  | 0, .tup ds, h => h.elim
  | 0, .lst ds, h => h.elim
  | 0, .ref _, h => h.elim
  | n + 1, .ref _, h => h.elim
  | n + 1, .tup ds, h => by unfold toP PyData.canLay0; exact lay_all ds fun d hd => lay_pl n d (h d hd)
  | n + 1, .lst ds, h => by unfold toP PyData.canLay0; exact lay_all ds fun d hd => lay_pl n d (h d hd)
theorem depth_all (n : Nat) : ∀ (ds : List DV), (∀ d ∈ ds, (toP d).depth ≤ n) → PyData.depthAll (toPs ds) ≤ n
  | [], _ => by unfold toPs PyData.depthAll; exact Nat.zero_le _
  | d :: ds, h => by unfold toPs PyData.depthAll; exact Nat.max_le.mpr ⟨h d (by simp), depth_all n ds fun x hx => h x (List.mem_cons_of_mem _ hx)⟩
theorem depth_pl : ∀ (n : Nat) (d : DV), Pl n d → (toP d).depth ≤ n
  | n, .non, _ => by unfold toP PyData.depth; exact Nat.zero_le _
  | n, .bl _, _ => by unfold toP PyData.depth; exact Nat.zero_le _
  | n, .int _, _ => by unfold toP PyData.depth; exact Nat.zero_le _
  | n, .str x, h => by unfold toP PyData.depth; exact Nat.zero_le _
  | 0, .tup ds, h => h.elim
  | 0, .lst ds, h => h.elim
  | 0, .ref _, h => h.elim
  | n + 1, .ref _, h => h.elim
  | n + 1, .tup ds, h => by unfold toP PyData.depth; exact Nat.succ_le_succ (depth_all n ds fun d hd => depth_pl n d (h d hd))
  | n + 1, .lst ds, h => by unfold toP PyData.depth; exact Nat.succ_le_succ (depth_all n ds fun d hd => depth_pl n d (h d hd))
theorem shaped_pl {n : Nat} {d : DV} (h : Pl n d) (hn : n ≤ 64) : SeqAt.shaped (toP d) = true := by
  unfold SeqAt.shaped; rw [lay_pl n d h, decide_eq_true (Nat.le_trans (depth_pl n d h) hn)]; rfl
theorem drf_pl40 {n : Nat} {d : DV} (h : Pl n d) (hn : n < 40) (hp : Hs) : drf 40 hp d = some d := by
  have := drf_pl n d (39 - n) hp h
  rwa [show n + (39 - n) + 1 = 40 by omega] at this
theorem Pl.mono : ∀ {n m : Nat} {d : DV}, Pl n d → n ≤ m → Pl m d
  | n, m, .non, h, hn => by cases m <;> trivial
  | n, m, .bl _, h, hn => by cases m <;> trivial
  | n, m, .int _, h, hn => by cases m <;> trivial
  | n, m, .str _, h, hn => by cases n <;> cases m <;> exact h
  | 0, m, .tup ds, h, hn => h.elim
  | 0, m, .lst ds, h, hn => h.elim
  | 0, m, .ref _, h, hn => h.elim
  | n + 1, m, .ref _, h, hn => h.elim
  | n + 1, 0, .tup ds, h, hn => absurd hn (Nat.not_succ_le_zero _)
  | n + 1, 0, .lst ds, h, hn => absurd hn (Nat.not_succ_le_zero _)
  | n + 1, m + 1, .tup ds, h, hn => fun d hd => (h d hd).mono (Nat.le_of_succ_le_succ hn)
  | n + 1, m + 1, .lst ds, h, hn => fun d hd => (h d hd).mono (Nat.le_of_succ_le_succ hn)
theorem pl_int (n : Nat) (i : Int) : Pl n (.int i) := by cases n <;> trivial
theorem pl_ints (n : Nat) (ks : List Int) : Pl (n + 1) (.tup (ks.map .int)) := fun d hd => by
  obtain ⟨x, _, rfl⟩ := List.mem_map.mp hd; exact pl_int n x
theorem eqvG_data {x y : DV} {n m : Nat} (h : Pl n x) (h' : Pl m y) (hn : n < 40) (hm : m < 40) (hp : Hs) : eqvG x y hp = some (PyData.eqv (toP x) (toP y), hp) := by
  unfold eqvG drfM
  show ((Option.map _ (drf 40 hp x)).bind _) = _
  rw [drf_pl40 h hn]
  show ((Option.map _ (drf 40 hp y)).bind _) = _
  rw [drf_pl40 h' hm]
  show (guardM (SeqAt.shaped (toP x) && SeqAt.shaped (toP y)) >>= fun _ => pure (PyData.eqv (toP x) (toP y)) : M Bool) hp = _
  rw [shaped_pl h (by omega), shaped_pl h' (by omega)]
  rfl
theorem eqvG_same {x : DV} {n : Nat} (h : Pl n x) (hn : n < 40) (hp : Hs) : eqvG x x hp = some (true, hp) := by
  rw [eqvG_data h h hn hn, SeqAt.eqv_refl _ (lay_pl n x h)]
theorem eqG_same {x : DV} {n : Nat} (h : Pl n x) (hn : n < 40) (hp : Hs) : eqG x x hp = some (.bl true, hp) := by
  unfold eqG; rw [bind_at (eqvG_same h hn hp)]; rfl
theorem compX_map {t : DV → M Bool} {f : DV → M DV} {g : DV → DV} {hp : Hs} (ds : List DV) (ht : ∀ d ∈ ds, t d hp = some (true, hp)) (hf : ∀ d ∈ ds, f d hp = some (g d, hp)) (hl : ds.length < 100000) : compX (nxD ds) t f 100000 0 hp = some (ds.map g, hp) := by
  suffices h : ∀ (m i n : Nat), m + i = ds.length → m < n → compX (nxD ds) t f n i hp = some ((ds.drop i).map g, hp) by simpa using h ds.length 0 100000 rfl hl
  intro m
  induction m with
  | zero =>
    intro i n e hn'
    obtain ⟨n, rfl⟩ : ∃ k, n = k + 1 := ⟨n - 1, by omega⟩
    have : i = ds.length := by omega
    subst this
    have e1 := nxD_at ds ds.length (Nat.le_refl _) hp
    rw [show ds[ds.length]? = none by simp] at e1
    rw [compX, bind_at e1, List.drop_length]; rfl
  | succ m ih =>
    intro i n e hn'
    obtain ⟨n, rfl⟩ : ∃ k, n = k + 1 := ⟨n - 1, by omega⟩
    have hlt : i < ds.length := by omega
    have e1 := nxD_at ds i (by omega) hp
    rw [List.getElem?_eq_getElem hlt] at e1
    rw [compX, bind_at e1]
    simp only
    rw [bind_at (ht ds[i] (List.getElem_mem hlt)), List.drop_eq_getElem_cons hlt]
    simp only [if_true]
    rw [bind_at (hf ds[i] (List.getElem_mem hlt)), bind_at (ih (i + 1) n (by omega) (by omega))]; rfl
theorem at_pure {α : Type} {m : M α} {x : α} (h : ∀ hp, m hp = some (x, hp)) : m = pure x := funext h
section
variable {env : En} {hp hp1 hp2 hp3 hp4 hp5 hp6 hp7 : Hs} {e e' e'' e3 e4 e5 e6 : DEx} {v v' v'' v3 v4 v5 v6 : DV}
end
end D
namespace L2
open PySem PySem.Spec PyProof.Rows
def Itr3 (lo c : Int) (n : Nat) : It := ⟨fun i _ => i < n, fun i H x H' => H' = H ∧ x = .int (lo + (i : Nat) * c), fun i _ => n ≤ i⟩
theorem turn_range3 {P : Program} {w : World} {K : PySem.W.Frag} {tg : Expr} (it : Addr) (lo c : Int) (n : Nat) : Turn P w K tg (Itr3 lo c n) [it] it (fun i h => IsRangeIter h it (lo + (i : Nat) * c) ((n : Int) - (i : Nat)) c) where
  mem := by simp
  obj := fun i h st b hb => by
    have e : b = it := by simpa using hb
    subst e
    exact ⟨_, st, fun v z => by
      have z' : Data.fields _ = Data.cell v := z
      cases z'⟩
  keep := fun i h h' st k => k it (by simp) _ st
  item := by
    intro X hP hw hK hc i pins s σ H E I hf st hg
    subst hP hw hK
    obtain ⟨f0, f1, f2, f3, f4, f5⟩ := hf it (by simp)
    have W := Walks.range (prog := X.prog) (w := X.w) (I.ok.hd hc) it lo c n
    refine W.item i s _ _ hg st fun v h' tk hv st' kk => ?_
    obtain ⟨t, rfl⟩ := hv
    have I1 : Inv X pins σ H { s with heap := h', toks := tk } := I.turned (fun b o hb e => kk b o (by simpa using hb) e) f0 f1 f3 f4 f5
    exact ⟨_, rfl, go_of (s := { s with heap := h', toks := tk }) (n := "range_iterator") st' rfl rfl (by decide) ⟨.int (lo + (i : Nat) * c), H, I1, ⟨t, rfl⟩, ⟨rfl, rfl⟩, st', fun b hb => (hf b hb).1⟩⟩
  done := by
    intro X hP hw hK hc i pins s σ H E I hf st hg
    subst hP hw hK
    obtain ⟨f0, f1, f2, f3, f4, f5⟩ := hf it (by simp)
    exact wpAny_pyNext_range_end (I.ok.hd hc) st (by have : n ≤ i := hg; omega) fun h' eb => ⟨rfl, I.turned (t' := s.toks) (fun b o hb e => eb b o hb e) f0 f1 f3 f4 f5⟩
  self := fun _ _ _ _ _ st h => wpAny_pyIter_rangeiter st h
section
variable {X : Cx} {tg : Expr}
def rcnt (hi c : Int) : Nat := ((hi + c - 1) / c).toNat
theorem rsize {hi c : Int} (hc : 1 ≤ c) (hh : 0 ≤ hi) : Builtin.Range.rangeSize 0 hi c = (rcnt hi c : Int) := by
  rw [rangeSize_pos hc hh]
  unfold rcnt
  have : 0 ≤ (hi + c - 1) / c := Int.ediv_nonneg (by omega) (by omega)
  omega
theorem rcnt_le {hi c : Int} (hc : 1 ≤ c) (hh : 0 ≤ hi) : (rcnt hi c : Int) ≤ hi + c := by
  rw [← rsize hc hh, rangeSize_pos hc hh]
  have := Int.ediv_le_self (b := c) (a := hi + c - 1) (by omega)
  omega
theorem small3 {hi c : Int} (hc : 1 ≤ c) (hh : 0 ≤ hi) (h1 : hi < 2 ^ 40) (h2 : c < 1073741824) : Builtin.Range.small 0 hi c = true := by
  have l := rcnt_le hc hh
  unfold Builtin.Range.small
  rw [rsize hc hh]
  simp only [Builtin.Range.rangeFitsLong, Bool.and_eq_true, Bool.or_eq_true, decide_eq_true_eq, beq_iff_eq, show c > 0 by omega, if_true]
  omega
theorem range_it3 {pins : List (Addr × Obj)} {σ : St} {H : Hp} {s : Shared} {R : It → Hp → Prop} {E : Value → Shared → Prop} {hi c : Int} {t u v : Tok} {tk : Nat} (I : Inv X pins σ H s) (hc : 1 ≤ c) (hh : 0 ≤ hi) (h1 : hi < 2 ^ 40) (h2 : c < 1073741824)
    (q : R (Itr3 0 c (rcnt hi c)) H) : wpAny (model X.prog X.w) X.A (pyIter (.ref s.heap.objs.size)) (PIE X pins σ tg R) E { s with heap := s.heap.push { cls := .type "range", data := .fields #[.int 0 t, .int hi u, .int c v] }, toks := tk } := by
  refine wpAny_pyIter_range (IsRange.new ..) (small3 hc hh h1 h2) ?_
  have I1 : Inv X pins σ H { s with heap := s.heap.push { cls := .type "range", data := .fields #[.int 0 t, .int hi u, .int c v] }, toks := tk } := I.kept fun b o e => Heap.get?_push_of_some _ e
  refine ⟨(s.heap.push { cls := .type "range", data := .fields #[.int 0 t, .int hi u, .int c v] }).objs.size, [(s.heap.push { cls := .type "range", data := .fields #[.int 0 t, .int hi u, .int c v] }).objs.size], _, _, H, rfl,
    I1.kept (t' := tk) fun b o e => Heap.get?_push_of_some _ e, turn_range3 _ 0 c (rcnt hi c), ?_, fun b hb => ?_, q⟩
  · have e1 : (0 : Int) + ((0 : Nat) : Int) * c = 0 := by simp
    have e2 : ((rcnt hi c : Nat) : Int) - ((0 : Nat) : Int) = Builtin.Range.rangeSize 0 hi c := by rw [rsize hc hh]; simp
    show IsRangeIter _ _ ((0 : Int) + ((0 : Nat) : Int) * c) (((rcnt hi c : Nat) : Int) - ((0 : Nat) : Int)) c
    rw [e1, e2]
    exact Heap.get?_push_size _ rfl
  · have e : b = (s.heap.push { cls := .type "range", data := .fields #[.int 0 t, .int hi u, .int c v] }).objs.size := by simpa using hb
    subst e
    exact I1.fpOk (Nat.le_refl _) (I1.hok.fresh (Nat.le_refl _))
def R3 (vs : List V) (hi c : Int) : Prop := vs = [.int 0, .int hi, .int c] ∧ 1 ≤ c ∧ 0 ≤ hi ∧ hi < 2 ^ 40 ∧ c < 1073741824
def iRng3 (ta : TA) : TI := fun σ H R => ta σ H fun vs H1 => ∃ hi c : Int, R3 vs hi c ∧ R (Itr3 0 c (rcnt hi c)) H1
theorem pylong3 {hi c : Int} (hc : 1 ≤ c) (h2 : c < 1073741824) : Builtin.divisionGoesByPylong (hi - 0) c = false := by
  exact PyProof.noPylong_small (by omega)
theorem pi_range3 {a b d : Expr} {ta : TA} {p pos : Pos} (hg : Gl X "range") (hm : X.mg "range" = none) (ha : PA X [a, b, d] ta) (hs : starEach [a, b, d] X.env = [(false, eval a X.env), (false, eval b X.env), (false, eval d X.env)] := by rfl) (hs2 : starEach [b, d] X.env = [(false, eval b X.env), (false, eval d X.env)] := by rfl) :
    PI X tg (.Call (.Name "range" p) [a, b, d] [] pos) (iRng3 ta) := by
  intro pins s σ H R I h
  refine Call_ (ld_blt I hg hm boot_range (PyProof.Rows.callWith_type1 (thn (ha pos pins s σ H _ I h) fun us s1 ⟨vs, H1, I1, r1, q1⟩ => ?_) (by rw [hs, hs2]) (by rw [hs2]; rfl)))
  obtain ⟨hi, c, ⟨e, q1, q2, q3, q4⟩, q⟩ := q1
  subst e
  cases r1 with
  | cons r rr =>
    cases rr with
    | cons r' rr =>
      cases rr with
      | cons r'' rr =>
        cases rr
        obtain ⟨t, rfl⟩ := r
        obtain ⟨t', rfl⟩ := r'
        obtain ⟨t'', rfl⟩ := r''
        exact call_range_3 (by omega) (range_it3 I1 q1 q2 q3 q4 q) (.inl (pylong3 q1 q4))
end
end L2
namespace D
open PySem PySem.Spec PyProof.Rows L2
section
variable {X : Cx} {tg : Expr} {pos : Pos}
def rangeS (c : Int) (n : Nat) : List DV := (List.range n).map fun (i : Nat) => .int ((i : Int) * c)
theorem it_range3 {K : PySem.W.Frag} {ρ : List Addr} {B : Addr → Prop} {H : Hp} {c : Int} {n : Nat} : ItOk K ρ B H (rangeS c n) (Itr3 0 c n) := fun ρ1 B1 H1 g _ _ => by
  refine ⟨fun i d e => ?_, by show n ≤ _; simp [rangeS]⟩
  have hi : i < n := by have := (List.getElem?_eq_some_iff.mp e).1; simpa [rangeS] using this
  refine ⟨hi, fun y H' ⟨e', q⟩ => ?_⟩
  subst e' q
  have : d = .int ((i : Int) * c) := by simp [rangeS, hi] at e; exact e.symm
  subst this
  rw [Int.zero_add]
  exact ⟨rep_int, .inl rfl⟩
def ok3 (a hi c : Int) : Bool := decide (a = 0 ∧ 1 ≤ c ∧ 0 ≤ hi ∧ hi < 2 ^ 40 ∧ c < 1073741824)
def rng3 : List DV → M (List DV)
  | [.int a, .int hi, .int c] => do guardM (ok3 a hi c); pure (rangeS c (rcnt hi c))
  | _ => failure
def iRg3 (f : DAx) : DIx := fun env => do rng3 (← f env)
theorem rng3_some {ds out : List DV} {hp hp' : Hs} (h : rng3 ds hp = some (out, hp')) : ∃ hi c : Int, ds = [.int 0, .int hi, .int c] ∧ (1 ≤ c ∧ 0 ≤ hi ∧ hi < 2 ^ 40 ∧ c < 1073741824) ∧ out = rangeS c (rcnt hi c) ∧ hp = hp' := by
  unfold rng3 at h
  split at h
  · obtain ⟨u, hp1, e1, e2⟩ := bind_some h
    obtain ⟨h1, rfl⟩ := guardM_some e1
    obtain ⟨rfl, rfl⟩ := pure_some e2
    obtain ⟨rfl, h2⟩ := of_decide_eq_true h1
    exact ⟨_, _, rfl, h2, rfl, rfl⟩
  · cases h
theorem RepL.ints3 {K : PySem.W.Frag} {ρ : List Addr} {B : Addr → Prop} {H : Hp} {i j k : Int} {vs : List V} (h : RepL K ρ B H [.int i, .int j, .int k] vs) : vs = [.int i, .int j, .int k] := by
  unfold RepL at h
  obtain ⟨x, r, rfl, h1, h2⟩ := h
  rw [h1.intI, h2.ints2]
theorem di_range3 {x y z : Expr} {p : Pos} {f : DAx} (hg : Gl X "range") (hm : X.mg "range" = none) (ha : DA X [x, y, z] f) (hs : starEach [x, y, z] X.env = [(false, eval x X.env), (false, eval y X.env), (false, eval z X.env)] := by rfl) (hs2 : starEach [y, z] X.env = [(false, eval y X.env), (false, eval z X.env)] := by rfl) :
    DI X tg (.Call (.Name "range" p) [x, y, z] [] pos) (iRg3 f) :=
  (pi_range3 hg hm ha hs hs2).imp fun σ H R ⟨Z, env, ρ, B, hp, ds, hp', S, e, k⟩ => by
    obtain ⟨d, hp1, e1, e2⟩ := bind_some e
    obtain ⟨hi, c, rfl, ⟨h1, h2, h3, h4⟩, rfl, rfl⟩ := rng3_some e2
    refine tDA.run S e1 fun vs ρ1 B1 H1 g1 S1 r1 => ?_
    exact ⟨hi, c, ⟨r1.ints3, h1, h2, h3, h4⟩, k _ ρ1 B1 H1 g1 S1.wo it_range3⟩
end
end D
namespace PySem
section
variable {prog : Program} {w : World} {A : Around} {E : Value → Shared → Prop} {s : Shared}
theorem wpAny_collect_range {Q : List Value → Shared → Prop} {r : Addr} {a b c : Int} {t u v : Tok} {n : Nat} (hh : A.handled = none) (hr : IsRange s.heap r a b c t u v) (hsmall : Builtin.Range.small a b c = true) (hn : Builtin.Range.rangeSize a b c = n) (hlen : n ≤ 2 ^ 24)
    (hQ : ∀ (h' : Heap) (tk : Nat) (acc : Array Value), (∀ b o', s.heap.get? b = some o' → h'.get? b = some o') → ItemsOf (fun i v => ∃ t, v = .int (a + i * c) t) acc n → Q acc.toList { s with heap := h', toks := tk }) :
    wpAny (model prog w) A (collect (.ref r)) Q E s := by
  unfold collect
  refine wpAny_bind (wpAny_runValue (codeAny_builtin F.entry_proto_collect ?_))
  rw [Around.under_plainId F.plain_proto_collect _]
  show wpAny _ A.in1 (newList [] >>= fun l => again (.builtin "list.__iadd__" ⟨[l, .ref r], []⟩)) _ _ s
  refine wpAny_bind (wpAny_newObj_type ?_)
  refine wpAny_pure ⟨plainId_quiet F.plain_list_iadd _, codeAny_builtin F.entry_list_iadd ?_⟩
  rw [Around.under_plainId F.plain_list_iadd _]
  show wpAny _ A.in1 (Builtin.List.listExtendWith (.ref s.heap.objs.size) (.ref r) (.ref s.heap.objs.size)) _ _ _
  have hS : (s.heap.push { cls := .type "list", data := .seq ([] : List Value).toArray }).get? s.heap.objs.size = some { cls := .type "list", data := .seq #[] 0 } := Heap.get?_push_size _ rfl
  let G : Shared → Prop := fun s' => ∃ h' tk acc' c', (∀ b o, b ≠ s.heap.objs.size → (s.heap.push { cls := .type "list", data := .seq ([] : List Value).toArray }).get? b = some o → h'.get? b = some o) ∧ h'.get? s.heap.objs.size = some { cls := .type "list", dict := none, data := .seq acc' c', slots := #[] } ∧ ItemsOf (fun i v => ∃ t, v = .int (a + i * c) t) acc' n ∧ s' = { s with heap := h', toks := tk }
  have fin' : ∀ s', G s' → wpAny (model prog w) A (match Value.ref s.heap.objs.size with
      | Value.ref a => do
        match (← load a).data with
          | Data.seq xs _ => pure xs.toList
          | _ => unsupported "internal:collect"
      | _ => unsupported "internal:collect") Q E s' := by
    rintro s' ⟨h', tk, acc', c', k1, k2, k3, rfl⟩
    show wpAny _ A (load s.heap.objs.size >>= _) _ _ _
    refine wpAny_bind (wpAny_load k2 ?_)
    refine wpAny_pure ?_
    exact hQ h' tk acc' (fun b o' hb => k1 b o' (Nat.ne_of_lt (Heap.lt_size hb)) (Heap.get?_push_of_some _ hb)) k3
  refine wpAny_mono (wpAny_extend_range (A := A) (R := fun r s' => r = .ok (.ret (.ref s.heap.objs.size)) ∧ G s')
    (s := { s with heap := s.heap.push { cls := .type "list", data := .seq ([] : List Value).toArray } }) hh (Heap.get?_push_of_some _ hr) hsmall hn hlen _ _ 0 hS fun h' tk acc' c' k1 k2 k3 => ⟨rfl, h', tk, acc', c', k1, k2, k3, rfl⟩) (fun fin s' h => ?_) (fun e s' h => ?_)
  · cases fin with
    | done f =>
      obtain ⟨e, g⟩ := h
      cases e
      exact fin' _ g
    | again c' => exact ⟨h.1, codeAny_mono h.2 fun r s'' hr => by obtain ⟨rfl, g⟩ := hr; exact fin' _ g⟩
  · exact absurd h.1 (by simp)
theorem code_tuple_new_range {Q₁ : Value → Shared → Prop} {r : Addr} {a b c : Int} {t u v : Tok} {n : Nat} (hh : A.handled = none) (hr : IsRange s.heap r a b c t u v) (hsmall : Builtin.Range.small a b c = true) (hn : Builtin.Range.rangeSize a b c = n) (hlen : n ≤ 2 ^ 20)
    (h : ∀ (h' : Heap) (tk : Nat) (acc : Array Value), (∀ b o', s.heap.get? b = some o' → h'.get? b = some o') → ItemsOf (fun i v => ∃ t, v = .int (a + i * c) t) acc n → Q₁ (.ref h'.objs.size) { s with heap := h'.push { cls := .type "tuple", data := .seq acc }, toks := tk }) :
    codeAny (model prog w) A (.call (.builtin "tuple.__new__") ⟨[.type "tuple", .ref r], []⟩) (wants Q₁ E) s := by
  refine codeAny_of_tree ?_
  show wpAny _ A.in1 (do checkBuiltinCall "tuple.__new__" ⟨[.type "tuple", .ref r], []⟩; again (.builtin "tuple.__new__" ⟨[.type "tuple", .ref r], []⟩)) _ _ s
  refine wpAny_bind (wpAny_of_eq (F.newCall_tuple_1 _) (wpAny_pure ⟨plainId_quiet F.plain_tuple_new _, codeAny_builtin F.entry_tuple_new ?_⟩))
  rw [Around.under_plainId F.plain_tuple_new _]
  have hsub := sub_tuple_self
  have hinit := init_tuple_lookup
  have hmh := madeHere_tuple
  have hTI : s.TypeIs (.ref r) "range" := ⟨_, hr, rfl⟩
  wp_walk using wpAny_typeOf hTI, wpAny_collect_range (A := A.in1) hh hr hsmall hn (Nat.le_trans hlen (by decide))
  intro h' tk acc hm hacc
  show wpAny _ _ (Builtin.Tuple.tupleExact acc.toList.toArray >>= fun v => ret v) _ _ _
  unfold Builtin.Tuple.tupleExact
  have sz : n ≤ sizeLine := Nat.le_trans hlen (by decide)
  refine wpAny_bind (wpAny_newObj_type ?_ (by show acc.toList.toArray.size ≤ sizeLine; simp only [Array.toArray_toList]; rw [hacc.1]; exact sz))
  refine wpAny_pure ?_
  have e : acc.toList.toArray = acc := by simp
  rw [e]
  exact h h' tk acc hm hacc
theorem call_tuple_range {Q : Value → Shared → Prop} {r : Addr} {a b c : Int} {t u v : Tok} {n : Nat} (hh : A.handled = none) (hr : IsRange s.heap r a b c t u v) (hsmall : Builtin.Range.small a b c = true) (hn : Builtin.Range.rangeSize a b c = n) (hlen : n ≤ 2 ^ 20)
    (hQ : ∀ (h' : Heap) (tk : Nat) (acc : Array Value), (∀ b o', s.heap.get? b = some o' → h'.get? b = some o') → ItemsOf (fun i v => ∃ t, v = .int (a + i * c) t) acc n → Q (.ref h'.objs.size) { s with heap := h'.push { cls := .type "tuple", data := .seq acc }, toks := tk }) :
    wpAny (model prog w) A (call (.type "tuple") [.ref r]) Q E s := by
  refine callType_codes (Q₁ := fun obj s₁ => s₁.TypeIs obj "tuple" ∧ Q obj s₁) F.called_tuple (F.typeCall_tuple_1 _) F.entry_object_init
    (code_tuple_new_range (A := A.in1) hh hr hsmall hn hlen fun h' tk acc hm hacc => ⟨⟨_, Heap.get?_push_size _ rfl, rfl⟩, hQ h' tk acc hm hacc⟩) fun obj s₁ h₁ => ?_
  exact ⟨h₁.1, F.args_object_init_2 obj _, object_init_meets F.called_tuple.init.lookup F.called_tuple.made (by decide) prog w A.in1 _ s₁ ⟨h₁.1, rfl, h₁.2⟩⟩
end
end PySem
namespace L2
open PySem PySem.Spec PyProof.Rows
section
variable {X : Cx}
theorem vals_of : ∀ {ns : List Int} {us : List Value}, us.length = ns.length → (∀ (j : Nat) (u : Value) (n : Int), us[j]? = some u → ns[j]? = some n → ∃ t, u = .int n t) → Vals (ns.map V.int) us
  | [], [], _, _ => .nil
  | [], _ :: _, h, _ => by cases h
  | _ :: _, [], h, _ => by cases h
  | n :: ns, u :: us, h, f => .cons (f 0 u n rfl rfl) (vals_of (Nat.succ.inj h) fun j v m a b => f (j + 1) v m a b)
def seqI (a c : Int) (n : Nat) : List Int := (List.range n).map fun (i : Nat) => a + (i : Int) * c
theorem vals_items {a c : Int} {n : Nat} {acc : Array Value} (h : ItemsOf (fun i v => ∃ t, v = .int (a + i * c) t) acc n) : Vals ((seqI a c n).map V.int) acc.toList := by
  refine vals_of (by simp [seqI, h.1]) fun j u m h1 h2 => ?_
  obtain ⟨t, e⟩ := h.2 j u (by simpa using h1)
  have hj : j < n := by have := (List.getElem?_eq_some_iff.mp h2).1; simpa [seqI] using this
  have : m = a + (j : Int) * c := by simp [seqI, hj] at h2; exact h2.symm
  subst this
  exact ⟨t, e⟩
theorem pe_tupR {a b : Expr} {ta : TA} {p p' pos pos' : Pos} (hgt : Gl X "tuple") (hmt : X.mg "tuple" = none) (hg : Gl X "range") (hm : X.mg "range" = none) (hc : X.calm = true) (ha : PA X [a, b] ta)
    (hs : starEach [a, b] X.env = [(false, eval a X.env), (false, eval b X.env)] := by rfl) (hs2 : starEach [b] X.env = [(false, eval b X.env)] := by rfl) (hs3 : starEach [.Call (.Name "range" p') [a, b] [] pos'] X.env = [(false, eval (.Call (.Name "range" p') [a, b] [] pos') X.env)] := by rfl) :
    PE X (.Call (.Name "tuple" p) [.Call (.Name "range" p') [a, b] [] pos'] [] pos) (fun σ H Q => ta σ H fun vs H1 => ∃ i j : Int, vs = [.int i, .int j] ∧ (-(2 ^ 62) ≤ i ∧ i < 2 ^ 62 ∧ -(2 ^ 62) ≤ j ∧ j < 2 ^ 62) ∧ (j - i).toNat ≤ 2 ^ 20 ∧ ∀ l, H1 l = none → Q (.ref l) (upd H1 l (.tup ((seqI i 1 (j - i).toNat).map .int)))) := by
  intro pins s σ H Q I h
  refine wpAny_Call_Name_kw (ld_blt I hgt hmt boot_tuple ?_)
  refine PyProof.Rows.callWith_type1 ?_ hs3 rfl
  rw [hs3]
  show wpAny _ _ (spliced ((false, eval (.Call (.Name "range" p') [a, b] [] pos') X.env) :: [])) _ _ s
  refine Calls.spliced_cons (Call_ (ld_blt I hg hm boot_range (PyProof.Rows.callWith_type1 (thn (ha pos' pins s σ H _ I h) fun us s1 ⟨vs, H1, I1, r1, q1⟩ => ?_) (by rw [hs, hs2]) (by rw [hs2]; rfl))))
  obtain ⟨i, j, e, ⟨q1, q2, q3, q4⟩, q5, q⟩ := q1
  subst e
  cases r1 with
  | cons r rr =>
    cases rr with
    | cons r' rr =>
      cases rr
      obtain ⟨t, rfl⟩ := r
      obtain ⟨t', rfl⟩ := r'
      refine call_range_2 (Calls.spliced_nil ?_)
      refine call_tuple_range (n := (j - i).toNat) (I1.ok.hd hc) (IsRange.new ..) (small_one q1 q2 q3 q4) (by rw [rangeSize_one]; split <;> omega) q5 fun h' tk acc k it => ?_
      have I2 : Inv X pins σ H1 { s1 with heap := h', toks := tk } := I1.kept fun b o e => k b o (Heap.get?_push_of_some _ e)
      have hf : H1 h'.objs.size = none := I2.hok.fresh (Nat.le_refl _)
      refine ⟨.ref h'.objs.size, upd H1 h'.objs.size (.tup ((seqI i 1 (j - i).toNat).map .int)), I2.laid (t' := tk) (fun b u e => Heap.get?_push_of_some _ e) (Nat.le_refl _) ?_, rfl, q _ hf⟩
      exact ⟨by rw [List.length_map]; simp only [seqI, List.length_map, List.length_range]; exact Nat.le_trans q5 (by decide), acc.toList, vals_items it, ⟨_, Heap.get?_push_size _ rfl, rfl, _, rfl⟩⟩
end
end L2
namespace D
open PySem PySem.Spec PyProof.Rows L2
open AutoListH (joined_fits)
theorem list_mulW (l : Addr) (items : Array Value) (n : Nat) (sl : Array (Option Value)) (x : Int) (u : Tok) (hc0 : ¬(!Builtin.List.listFitsIndex x) = true) (hc1 : ¬items.size * x.toNat > (2 ^ 63 - 1) / 8) (hc2 : ¬Builtin.List.listTooLong (items.size * x.toNat) = true) :
    Meets (Builtin.«list.__mul__» ⟨[.ref l, .int x u], []⟩) (fun _ R s => s.heap.get? l = some { cls := .type "list", dict := none, data := .seq items n, slots := sl } ∧ R (.ok (.ret (Value.ref s.heap.objs.size))) { s with heap := s.heap.push { cls := Value.type "list", data := Data.seq (List.foldl (fun x1 x2 => x1 ++ x2) #[] (List.replicate (if items.isEmpty = true then 0 else x.toNat) items)) }, toks := s.toks }) :=
  .of_wp fun prog w A R s h => by
    obtain ⟨hp, g, d, tk, os⟩ := s; obtain ⟨hl, h⟩ := h
    have hsz := joined_fits hc2
    wp_walk; refine wpAny_ite_false (decide_eq_false (Nat.not_lt.mpr hsz)) ?_; wp_walk; exact ⟨_, rfl, h⟩
theorem int_rmulW (a : Int) (t : Tok) (l : Addr) (items : Array Value) (n : Nat) (sl : Array (Option Value)) :
    Meets (Builtin.«int.__rmul__» ⟨[.int a t, .ref l], []⟩) (fun _ R s => s.heap.get? l = some { cls := .type "list", dict := none, data := .seq items n, slots := sl } ∧ R (.ok (.ret Value.notImplemented)) s) :=
  .of_wp fun prog w A R s h => by obtain ⟨hp, g, d, tk, os⟩ := s; obtain ⟨hl, h⟩ := h; wp_walk; exact ⟨_, rfl, h⟩
theorem fold_one (v : Value) : ∀ (n : Nat) (a : Array Value), (List.replicate n #[v]).foldl (fun x1 x2 => x1 ++ x2) a = a ++ (List.replicate n v).toArray
  | 0, a => by simp
  | n + 1, a => by
    rw [List.replicate_succ, List.foldl_cons, fold_one v n, List.replicate_succ]
    apply Array.ext'
    simp
section
variable {X : Cx} {tg e a b c : Expr} {f fa fb : DEx} {pos : Pos}
theorem rd_mulL : OpR X (binaryOp .Mult) (fun x y H Q => ∃ l z n, x = .ref l ∧ y = .int n ∧ SqL X.K H l [z] ∧ 0 ≤ n ∧ n.toNat ≤ 100000 ∧ ∀ p, H p = none → Q (.ref p) (upd H p (.lst (List.replicate n.toNat z)))) := by
  intro pins s σ H x y v u Q I rx ry h
  obtain ⟨l, z, n, rfl, rfl, hl, h0, h1, q⟩ := h
  cases rx
  obtain ⟨t, rfl⟩ := ry
  obtain ⟨its, r1, ⟨⟨k1, dd1, da1, sl1⟩, n1, e1, c1, d1, s1⟩, _⟩ := I.list hl
  simp only at c1 d1 s1
  subst c1 d1 s1
  cases r1 with
  | cons r rr =>
    cases rr
    rename_i w
    have hz : (([w] : List Value).toArray.size) * n.toNat = n.toNat := by simp
    refine wpAny_binaryOp_repeat_ref (T := "list") (U := "int") (by decide) ⟨_, e1, rfl⟩ (fun s' => typeIs_int s' n t) noFill_list_mul F.fills_int_mul F.slot_int_rmul repeat_list F.slot_int_index.lookup
      (call_meets F.slot_int_rmul (typeIs_int s n t) F.entry_int_rmul (F.args_int_rmul_2 _ _) (int_rmulW n t l _ n1 sl1)
        ⟨e1, rfl, ⟨_, e1, rfl⟩, call_meets F.slot_list_mul ⟨_, e1, rfl⟩ F.entry_list_mul (F.args_list_mul_2 _ _)
          (list_mulW l _ n1 sl1 n t (by simp [Builtin.List.listFitsIndex]; omega) (by rw [hz]; omega) (by rw [hz]; simp [Builtin.List.listTooLong, sizeLine]; omega))
          ⟨e1, ?_⟩⟩)
    have ef : List.foldl (fun x1 x2 => x1 ++ x2) #[] (List.replicate (if ([w] : List Value).toArray.isEmpty = true then 0 else n.toNat) [w].toArray) = (List.replicate n.toNat w).toArray := by
      rw [if_neg (by simp)]
      have := fold_one w n.toNat #[]
      simpa using this
    rw [ef]
    have vr : Vals (List.replicate n.toNat z) (List.replicate n.toNat w) := by
      generalize n.toNat = m
      induction m with
      | zero => exact .nil
      | succ m ih => exact .cons r ih
    exact ⟨.ref _, _, I.lnew (t' := s.toks) vr (by rw [List.length_replicate]; exact Nat.le_trans h1 (by decide)), rfl, q _ I.fresh⟩
def mulL : DV → DV → M DV
  | .lst [d], .int n => do guardM (decide (0 ≤ n ∧ n.toNat ≤ 100000)); pure (.lst (List.replicate n.toNat d))
  | x, y => mulD x y
theorem repL_rep {K : PySem.W.Frag} {ρ : List Addr} {B : Addr → Prop} {H : Hp} {d : DV} {z : V} (r : RepV K ρ B H d z) : ∀ n : Nat, RepL K ρ B H (List.replicate n d) (List.replicate n z)
  | 0 => RepL.nil
  | n + 1 => by unfold List.replicate RepL; exact ⟨z, _, rfl, r, repL_rep r n⟩
theorem p_mulL : P2 X (binaryOp .Mult) mulL := by
  intro pins s σ H x y v u Q I rx ry h
  obtain ⟨ρ, B, hp, dx, dy, d, hp', W, r1, r2, e, k⟩ := h
  unfold mulL at e
  split at e
  · rename_i d0 n
    obtain ⟨_, hp1, e1, e2⟩ := bind_some e
    obtain ⟨hs, rfl⟩ := guardM_some e1
    obtain ⟨rfl, rfl⟩ := pure_some e2
    obtain ⟨h0, h1⟩ := of_decide_eq_true hs
    obtain ⟨l, vs, rfl, nb, sq, rl⟩ := r1.lstI
    obtain ⟨z, rfl, rz⟩ := rl.oneI
    exact rd_mulL pins s σ H _ _ v u Q I rx ry ⟨l, z, n, rfl, r2.intI, sq, h0, h1, fol_lst W (repL_rep rz _) k⟩
  · exact p_mul pins s σ H x y v u Q I rx ry ⟨ρ, B, hp, _, _, d, hp', W, r1, r2, e, k⟩
def eTupR (f : DAx) : DEx := fun env => do let xs ← f env; let ds ← rng2 xs; guardM (short ds); pure (.tup ds)
theorem rep_intsL {K : PySem.W.Frag} {ρ : List Addr} {B : Addr → Prop} {H : Hp} : ∀ ns : List Int, RepL K ρ B H (ns.map .int) (ns.map .int)
  | [] => RepL.nil
  | n :: ns => by rw [List.map_cons, List.map_cons]; unfold RepL; exact ⟨_, _, rfl, rep_int, rep_intsL ns⟩
theorem rangeL_seq (i : Int) (n : Nat) : rangeL i n = (seqI i 1 n).map .int := by simp [rangeL, seqI]
theorem de_tupR {f : DAx} {p p' pos' : Pos} (hmt : X.mg "tuple" = none) (hm : X.mg "range" = none) (hc : X.calm = true) (ha : DA X [a, b] f) (hgt : Gl X "tuple" := by rfl) (hg : Gl X "range" := by rfl)
    (hs : starEach [a, b] X.env = [(false, eval a X.env), (false, eval b X.env)] := by rfl) (hs2 : starEach [b] X.env = [(false, eval b X.env)] := by rfl) (hs3 : starEach [.Call (.Name "range" p') [a, b] [] pos'] X.env = [(false, eval (.Call (.Name "range" p') [a, b] [] pos') X.env)] := by rfl) :
    DE X (.Call (.Name "tuple" p) [.Call (.Name "range" p') [a, b] [] pos'] [] pos) (eTupR f) :=
  (pe_tupR hgt hmt hg hm hc ha hs hs2 hs3).imp fun σ H Q ⟨Z, env, ρ, B, hp, d, hp', S, e, k⟩ => by
    obtain ⟨xs, hp1, e1, e2⟩ := bind_some e
    obtain ⟨ds, hp2, e3, e4⟩ := bind_some e2
    obtain ⟨i, j, rfl, h1, h2, rfl, rfl⟩ := rng2_some e3
    obtain ⟨_, hp3, e5, e6⟩ := bind_some e4
    obtain ⟨hs, rfl⟩ := guardM_some e5
    obtain ⟨rfl, rfl⟩ := pure_some e6
    refine tDA.run S e1 fun vs ρ1 B1 H1 g1 S1 r1 => ?_
    have h1' := of_decide_eq_true h1
    have h2' := of_decide_eq_true h2
    have hl : (j - i).toNat ≤ 100000 := by have := of_decide_eq_true hs; rw [rangeL_len] at this; exact this
    refine ⟨i, j, r1.ints2, ⟨h1'.1, h1'.2, h2'.1, h2'.2⟩, Nat.le_trans hl (by decide), fol_tup S1.wo (rep_intsL _) ?_⟩
    rw [← rangeL_seq]
    exact k.after g1
end
end D
namespace D
open PySem PySem.Spec PyProof.Rows L2
section
variable {X : Cx} {tg e a b c : Expr} {f fa fb : DEx} {pos : Pos}
def tru : DV → M Bool
  | .lst ds => pure (!ds.isEmpty)
  | .tup ds => pure (!ds.isEmpty)
  | .ref n => do
    match ← getW n with
    | .lst ds => pure (!ds.isEmpty)
    | _ => failure
  | _ => failure
theorem emp_len {α β : Type} {xs : List α} {ys : List β} (h : xs.length = ys.length) : xs.isEmpty = ys.isEmpty := by
  cases xs <;> cases ys <;> first | rfl | cases h
theorem tru_rep {K : PySem.W.Frag} {ρ : List Addr} {B : Addr → Prop} {H : Hp} {hp hp' : Hs} {d : DV} {v : V} {k : Bool} (W : WOk K ρ B hp H) (r : RepV K ρ B H d v) (h : tru d hp = some (k, hp')) : hp = hp' ∧ TruV K v H k := by
  cases d with
  | lst ds =>
    obtain ⟨rfl, rfl⟩ := pure_some h
    obtain ⟨a, xs, rfl, nb, sq, rl⟩ := r.lstI
    exact ⟨rfl, .inl ⟨xs, sq, by rw [emp_len rl.length]⟩⟩
  | tup ds =>
    obtain ⟨rfl, rfl⟩ := pure_some h
    obtain ⟨a, xs, rfl, nb, sq, rl⟩ := r.tupI
    exact ⟨rfl, .inr (.inl ⟨xs, sq, by rw [emp_len rl.length]⟩)⟩
  | ref n =>
    obtain ⟨o, hp1, e1, e2⟩ := bind_some h
    obtain ⟨e3, rfl⟩ := getW_some e1
    cases o with
    | lst zs =>
      obtain ⟨rfl, rfl⟩ := pure_some e2
      obtain ⟨a, rfl, _, ys, h1, l1⟩ := RepV.refW W r e3
      exact ⟨rfl, .inl ⟨ys, SqL.of h1, by rw [emp_len l1.length]⟩⟩
    | dic _ => cases e2
    | ins _ _ => cases e2
  | non => cases h
  | bl _ => cases h
  | int _ => cases h
  | str _ => cases h
def eTru (f : DEx) : DTx := fun env => do tru (← f env)
theorem dt_tru (h : DE X e f) (he : ∀ whole, isTrue e X.env whole = (do let v ← whole; standAt e.pos; holding [v] (truthy v)) := by intro _; rfl) : DT X e (eTru f) :=
  (pt_truth h he).imp fun σ H Q ⟨Z, env, ρ, B, hp, d, hp', S, e, k⟩ => by
    obtain ⟨x, hp1, e1, e2⟩ := bind_some e
    refine tD.run S e1 fun v ρ1 B1 H1 g1 S1 r1 => ?_
    obtain ⟨rfl, t⟩ := tru_rep S1.wo r1 e2
    exact ⟨d, t, k ρ1 B1 H1 g1 S1.wo⟩
def slG (d : DV) (lo hi : Option Int) : M DV := match d with
  | .ref n => do
    match ← getW n with
    | .lst ds => pure (.lst (cutD ds lo hi))
    | _ => failure
  | d => slD d lo hi
def eSlG (f : DEx) (lo hi : DOx) : DEx := fun env => do let d ← f env; let l ← lo env; let h ← hi env; slG d l h
def tPsG (K : PySem.W.Frag) : V → Option Int → Option Int → Hp → VK → Prop := fun x lo hi H Q => ∃ ρ B hp d r hp', WOk K ρ B hp H ∧ RepV K ρ B H d x ∧ slG d lo hi hp = some (r, hp') ∧ Fol K ρ B H r hp' Q
theorem p_slG : SlR X (tPsG X.K) := by
  intro pins s σ H x v vl vu lo hi sl Q I rx hs pl pu h
  obtain ⟨ρ, B, hp, d, r, hp', W, rv, e, k⟩ := h
  cases d with
  | ref n =>
    obtain ⟨o, hp1, e1, e2⟩ := bind_some e
    obtain ⟨e3, rfl⟩ := getW_some e1
    cases o with
    | lst ds =>
      obtain ⟨rfl, rfl⟩ := pure_some e2
      obtain ⟨a, rfl, _, xs, h1, l1⟩ := RepV.refW W rv e3
      exact sl_list pins s σ H _ v vl vu lo hi sl Q I rx hs pl pu ⟨a, xs, rfl, SqL.of h1, fol_lst W (cutD_rep l1) k⟩
    | dic _ => cases e2
    | ins _ _ => cases e2
  | lst ds => exact p_sl pins s σ H x v vl vu lo hi sl Q I rx hs pl pu ⟨ρ, B, hp, _, r, hp', W, rv, e, k⟩
  | tup ds => exact p_sl pins s σ H x v vl vu lo hi sl Q I rx hs pl pu ⟨ρ, B, hp, _, r, hp', W, rv, e, k⟩
  | non => cases e
  | bl _ => cases e
  | int _ => cases e
  | str _ => cases e
theorem de_slG {lo hi : Option Expr} {ol oh : DOx} {p2 : Pos} (h : DE X e f) (hl : DO X lo ol) (hh : DO X hi oh) : DE X (.Subscript e (.Slice lo hi none p2) pos) (eSlG f ol oh) :=
  L2.PE.imp (pe_slice p_slG h hl hh) fun σ H Q ⟨Z, env, ρ, B, hp, d, hp', S, e, k⟩ => by
    obtain ⟨x, hp1, e1, e⟩ := bind_some e
    obtain ⟨l, hp2, e2, e⟩ := bind_some e
    obtain ⟨u, hp3, e3, e⟩ := bind_some e
    refine tD.run S e1 fun v ρ1 B1 H1 g1 S1 r1 => tDO.run S1 e2 fun ρ2 B2 H2 g2 S2 => tDO.run S2 e3 fun ρ3 B3 H3 g3 S3 => ?_
    exact ⟨ρ3, B3, hp3, x, d, hp', S3.wo, RepV.grow S1.wo.rb (g2.trans g3) _ _ r1, e, k.after (g1.trans (g2.trans g3))⟩
end
end D
namespace TP
def qn (n m : Nat) : Nat := (max 1 n + m - 1) / m
theorem qn_facts {n m : Nat} (hm : 1 ≤ m) : 1 ≤ qn n m ∧ max 1 n ≤ qn n m * m ∧ (qn n m - 1) * m < max 1 n := by
  unfold qn
  have a := Nat.div_add_mod (max 1 n + m - 1) m
  have b := Nat.mod_lt (max 1 n + m - 1) (show 0 < m by omega)
  have e : m * ((max 1 n + m - 1) / m) = (max 1 n + m - 1) / m * m := Nat.mul_comm _ _
  have h1 : 1 ≤ (max 1 n + m - 1) / m := by
    rw [Nat.le_div_iff_mul_le (by omega)]; omega
  refine ⟨h1, by omega, ?_⟩
  have : ((max 1 n + m - 1) / m - 1) * m = (max 1 n + m - 1) / m * m - m := by rw [Nat.sub_mul, Nat.one_mul]
  omega
def sx (n m : Nat) (fork : Bool) (k : Nat) : Nat := if k = qn n m then n else if fork = true ∧ 1 < qn n m ∧ n = (qn n m - 1) * m + 1 ∧ k + 1 = qn n m then k * m - 1 else k * m
theorem sx_end (n m : Nat) (fork : Bool) : sx n m fork (qn n m) = n := by unfold sx; rw [if_pos rfl]
theorem sx_zero {n m : Nat} (hm : 1 ≤ m) (fork : Bool) : sx n m fork 0 = 0 := by
  have := (qn_facts (n := n) hm).1
  unfold sx
  rw [if_neg (by omega)]
  split
  · omega
  · omega
theorem sx_leaf {n m k : Nat} (h : k < qn n m) : sx n m false k = k * m := by
  unfold sx; rw [if_neg (by omega), if_neg (by simp)]
abbrev Rw := List (Int × Int)
def chunk (rows : Rw) (m : Nat) (fork : Bool) (k : Nat) : Rw := (rows.drop (sx rows.length m fork k)).take (sx rows.length m fork (k + 1) - sx rows.length m fork k)
theorem chunk_leaf {rows : Rw} {m k : Nat} (hm : 1 ≤ m) (h : k < qn rows.length m) : chunk rows m false k = (rows.drop (k * m)).take m := by
  obtain ⟨h1, h2, h3⟩ := qn_facts (n := rows.length) hm
  unfold chunk
  rw [sx_leaf h]
  by_cases e : k + 1 = qn rows.length m
  · rw [e, sx_end]
    have hk : k * m = (qn rows.length m - 1) * m := by rw [← e]; simp
    have h4 : qn rows.length m * m = k * m + m := by rw [← e, Nat.add_mul, Nat.one_mul]
    rw [List.take_of_length_le (by rw [List.length_drop]; exact Nat.le_refl _), List.take_of_length_le (by rw [List.length_drop]; omega)]
  · rw [sx_leaf (by omega), Nat.add_mul, Nat.one_mul]
    congr 1; omega
theorem sx_lt {n m : Nat} (hm : 1 ≤ m) {fork : Bool} (hf : fork = true → 3 ≤ m) (hn : 1 ≤ n) {k : Nat} (h : k < qn n m) : sx n m fork k < sx n m fork (k + 1) := by
  obtain ⟨h1, h2, h3⟩ := qn_facts (n := n) hm
  have e1 : (k + 1) * m = k * m + m := by rw [Nat.add_mul, Nat.one_mul]
  unfold sx
  rw [if_neg (by omega : ¬ k = qn n m)]
  by_cases e : k + 1 = qn n m
  · rw [if_pos e]
    have hk : k * m = (qn n m - 1) * m := by rw [← e]; simp
    split <;> omega
  · rw [if_neg e, if_neg (by omega)]
    by_cases c : fork = true ∧ 1 < qn n m ∧ n = (qn n m - 1) * m + 1 ∧ k + 1 + 1 = qn n m
    · rw [if_pos c]
      have := hf c.1
      omega
    · rw [if_neg c]; omega
theorem sx_le {n m : Nat} (hm : 1 ≤ m) (fork : Bool) {k : Nat} (h : k ≤ qn n m) (hn : 1 ≤ n) : sx n m fork k ≤ n := by
  obtain ⟨h1, h2, h3⟩ := qn_facts (n := n) hm
  unfold sx
  by_cases e : k = qn n m
  · rw [if_pos e]; exact Nat.le_refl _
  · rw [if_neg e]
    have : k * m ≤ (qn n m - 1) * m := Nat.mul_le_mul_right _ (by omega)
    split <;> omega
theorem chunk_len {rows : Rw} {m : Nat} (hm : 1 ≤ m) {fork : Bool} (hf : fork = true → 3 ≤ m) (hn : 1 ≤ rows.length) {k : Nat} (h : k < qn rows.length m) : (chunk rows m fork k).length = sx rows.length m fork (k + 1) - sx rows.length m fork k ∧ 1 ≤ (chunk rows m fork k).length := by
  have a := sx_lt hm hf hn h
  have b := sx_le (n := rows.length) hm fork (k := k + 1) (by omega) hn
  unfold chunk
  rw [List.length_take, List.length_drop]
  omega
def cnts (n m : Nat) : List Nat := if n % m = 1 then List.replicate (n / m - 1) m ++ [m - 1, 2] else if 0 < n % m then List.replicate (n / m) m ++ [n % m] else List.replicate (n / m) m
theorem map_repl (q m : Nat) (f : Nat → Nat) (h : ∀ k, k < q → f k = m) : (List.range q).map f = List.replicate q m := by
  rw [List.eq_replicate_iff]
  refine ⟨by simp, fun b hb => ?_⟩
  obtain ⟨k, hk, rfl⟩ := List.mem_map.mp hb
  exact h k (List.mem_range.mp hk)
theorem cnts_eq {n m : Nat} (hm : 3 ≤ m) (hn : 2 ≤ n) : cnts n m = (List.range (qn n m)).map fun k => sx n m true (k + 1) - sx n m true k := by
  obtain ⟨h1, h2, h3⟩ := qn_facts (n := n) (show 1 ≤ m by omega)
  have mx : max 1 n = n := by omega
  rw [mx] at h2 h3
  have dm := Nat.div_add_mod n m
  have lt := Nat.mod_lt n (show 0 < m by omega)
  have cm : m * (n / m) = n / m * m := Nat.mul_comm _ _
  have mulk : ∀ k : Nat, (k + 1) * m = k * m + m := fun k => by rw [Nat.add_mul, Nat.one_mul]
  have qv : qn n m = if n % m = 0 then n / m else n / m + 1 := by
    have low : ∀ x : Nat, (x - 1) * m < n → n ≤ x * m → 1 ≤ x → x = qn n m := fun x a b c => by
      rcases Nat.lt_trichotomy x (qn n m) with l | l | l
      · have : x * m ≤ (qn n m - 1) * m := Nat.mul_le_mul_right _ (by omega)
        omega
      · exact l
      · have : qn n m * m ≤ (x - 1) * m := Nat.mul_le_mul_right _ (by omega)
        omega
    by_cases r : n % m = 0
    · rw [if_pos r]
      have q1 : 1 ≤ n / m := by
        rcases Nat.eq_zero_or_pos (n / m) with z | z
        · rw [z, Nat.mul_zero] at dm; omega
        · exact z
      have := mulk (n / m - 1)
      rw [Nat.sub_add_cancel q1] at this
      exact (low _ (by omega) (by omega) q1).symm
    · rw [if_neg r]
      exact (low _ (by rw [Nat.add_sub_cancel]; omega) (by rw [mulk]; omega) (Nat.le_add_left 1 _)).symm
  unfold cnts
  by_cases r1 : n % m = 1
  · rw [if_pos r1]
    rw [if_neg (by omega)] at qv
    have q1 : 1 ≤ n / m := by
      rcases Nat.eq_zero_or_pos (n / m) with z | z
      · rw [z, Nat.mul_zero] at dm; omega
      · exact z
    have e : qn n m = (n / m - 1) + 1 + 1 := by omega
    have adj : n = (qn n m - 1) * m + 1 := by rw [qv]; simp; omega
    have s : ∀ k, k + 1 < qn n m → sx n m true k = k * m := fun k h => by unfold sx; rw [if_neg (by omega), if_neg (by omega)]
    have sl : sx n m true (n / m) = n / m * m - 1 := by
      unfold sx; rw [if_neg (by omega), if_pos ⟨rfl, by omega, adj, by omega⟩]
    have se := sx_end n m true
    rw [e, List.range_succ, List.range_succ, List.map_append, List.map_append, map_repl (n / m - 1) m _ (fun k hk => by rw [s k (by omega), s (k + 1) (by omega), mulk]; omega)]
    have m1 := mulk (n / m - 1)
    rw [Nat.sub_add_cancel q1] at m1
    simp only [List.map_cons, List.map_nil, List.append_assoc, List.cons_append, List.nil_append]
    congr 1
    rw [Nat.sub_add_cancel q1, s (n / m - 1) (by omega), sl, show n / m + 1 = qn n m by omega, se]
    congr 1
    · omega
    · congr 1; omega
  · rw [if_neg r1]
    have s : ∀ k, k < qn n m → sx n m true k = k * m := fun k h => by
      unfold sx
      rw [if_neg (by omega), if_neg ?_]
      rintro ⟨_, _, c, _⟩
      by_cases r : n % m = 0
      · rw [if_pos r] at qv
        have q1 : 1 ≤ n / m := by omega
        have m1 := mulk (n / m - 1)
        rw [Nat.sub_add_cancel q1] at m1
        rw [qv] at c; omega
      · rw [if_neg r] at qv
        rw [qv] at c
        simp at c; omega
    have se := sx_end n m true
    by_cases r : 0 < n % m
    · rw [if_pos r]
      rw [if_neg (by omega)] at qv
      rw [qv, List.range_succ, List.map_append, map_repl (n / m) m _ (fun k hk => by rw [s k (by omega), s (k + 1) (by omega), mulk]; omega)]
      congr 1
      simp only [List.map_cons, List.map_nil]
      rw [← qv, se, s (n / m) (by omega)]
      congr 1; omega
    · rw [if_neg r]
      rw [if_pos (by omega)] at qv
      have q1 : 1 ≤ n / m := by omega
      rw [qv]
      refine (map_repl (n / m) m _ fun k hk => ?_).symm
      rw [s k (by omega)]
      by_cases e : k + 1 = qn n m
      · rw [e, se]
        have : qn n m * m = k * m + m := by rw [← e, mulk]
        rw [qv] at this; omega
      · rw [s (k + 1) (by omega), mulk]; omega
def begI (rows : Rw) (m : Nat) (fork : Bool) (k : Nat) : Int := ((chunk rows m fork k).headD (0, 0)).1
def nextR (rows : Rw) (m : Nat) (fork : Bool) (first : Nat) : Rw := (List.range (qn rows.length m)).map fun k => (begI rows m fork k, ((first + k : Nat) : Int))
theorem nextR_len (rows : Rw) (m : Nat) (fork : Bool) (first : Nat) : (nextR rows m fork first).length = qn rows.length m := by simp [nextR]
theorem qn_less {n m : Nat} (hm : 2 ≤ m) (hn : 2 ≤ n) : qn n m < n := by
  obtain ⟨h1, h2, h3⟩ := qn_facts (n := n) (show 1 ≤ m by omega)
  have mx : max 1 n = n := by omega
  rw [mx] at h3
  have : (qn n m - 1) * 2 ≤ (qn n m - 1) * m := Nat.mul_le_mul_left _ hm
  omega
end TP
namespace D
open PySem PySem.Spec PyProof.Rows L2
theorem cutN (ds : List DV) (a b : Nat) (h : a ≤ b) : D.cutD ds (some (a : Int)) (some (b : Int)) = (ds.drop a).take (b - a) := by
  unfold D.cutD
  rw [HT.sIx_nat, HT.sIx_nat]
  rcases Nat.le_total a ds.length with q | q
  · rw [Nat.min_eq_left q]
    rcases Nat.le_total b ds.length with q2 | q2
    · rw [Nat.min_eq_left q2]
    · rw [Nat.min_eq_right q2, List.take_of_length_le (by simp), List.take_of_length_le (by simp; omega)]
  · rw [Nat.min_eq_right q, List.drop_of_length_le q, List.drop_of_length_le (Nat.le_refl _)]
    simp
section
variable {env : En} {hp hp1 hp2 hp3 : Hs} {f g h : DEx} {ds : List DV} {d : DV}
theorem slice_at {a b : Nat} (hf : f env hp = some (.lst ds, hp)) (hg : g env hp = some (.int (a : Int), hp)) (hh : h env hp = some (.int (b : Int), hp)) (hab : a ≤ b) : eSl f (oSome g) (oSome h) env hp = some (.lst ((ds.drop a).take (b - a)), hp) := by
  unfold eSl oSome
  rw [bind_at hf]
  have e1 : (do let i ← asI (← g env); pure (some i) : M (Option Int)) hp = some (some (a : Int), hp) := by rw [bind_at hg]; rfl
  have e2 : (do let i ← asI (← h env); pure (some i) : M (Option Int)) hp = some (some (b : Int), hp) := by rw [bind_at hh]; rfl
  rw [bind_at e1, bind_at e2, ← cutN ds a b hab]; rfl
theorem tail_at {a : Nat} (hf : f env hp = some (.lst ds, hp)) (hg : g env hp = some (.int (a : Int), hp)) : eSl f (oSome g) oNone env hp = some (.lst (ds.drop a), hp) := by
  unfold eSl oSome oNone
  rw [bind_at hf]
  have e1 : (do let i ← asI (← g env); pure (some i) : M (Option Int)) hp = some (some (a : Int), hp) := by rw [bind_at hg]; rfl
  rw [bind_at e1, bind_at (rfl : (pure none : M (Option Int)) hp = some (none, hp)), ← cut_drop ds a]; rfl
theorem sliceG_at {a b : Nat} (hf : f env hp = some (d, hp)) (hg : g env hp = some (.int (a : Int), hp)) (hh : h env hp = some (.int (b : Int), hp)) (hab : a ≤ b) (hd : d = .lst ds ∨ ∃ n, d = .ref n ∧ hp[n]? = some (.lst ds)) : eSlG f (oSome g) (oSome h) env hp = some (.lst ((ds.drop a).take (b - a)), hp) := by
  unfold eSlG oSome
  rw [bind_at hf]
  have e1 : (do let i ← asI (← g env); pure (some i) : M (Option Int)) hp = some (some (a : Int), hp) := by rw [bind_at hg]; rfl
  have e2 : (do let i ← asI (← h env); pure (some i) : M (Option Int)) hp = some (some (b : Int), hp) := by rw [bind_at hh]; rfl
  rw [bind_at e1, bind_at e2, ← cutN ds a b hab]
  rcases hd with rfl | ⟨n, rfl, hn⟩
  · rfl
  · show (getW n >>= _) hp = _
    rw [bind_at (getW_of hn)]; rfl
theorem tailG_at {a n : Nat} (hf : f env hp = some (.ref n, hp)) (hn : hp[n]? = some (.lst ds)) (hg : g env hp = some (.int (a : Int), hp)) : eSlG f (oSome g) oNone env hp = some (.lst (ds.drop a), hp) := by
  unfold eSlG oSome oNone
  rw [bind_at hf]
  have e1 : (do let i ← asI (← g env); pure (some i) : M (Option Int)) hp = some (some (a : Int), hp) := by rw [bind_at hg]; rfl
  rw [bind_at e1, bind_at (rfl : (pure none : M (Option Int)) hp = some (none, hp)), ← cut_drop ds a]
  show (getW n >>= _) hp = _
  rw [bind_at (getW_of hn)]; rfl
theorem ixN_at {i : Nat} (hf : f env hp = some (.lst ds, hp)) (hg : g env hp = some (.int (i : Int), hp)) (hd : ds[i]? = some d) : eBin ixG f g env hp = some (d, hp) := by
  refine eBin_atW hf hg ?_
  show ixD (.lst ds) (.int (i : Int)) hp = _
  rw [ixD_lst (d := d)]
  · rfl
  · rw [atI_lt (by omega) (by have := (List.getElem?_eq_some_iff.mp hd).1; omega)]; exact hd
theorem ixT_at {i : Nat} (hf : f env hp = some (.tup ds, hp)) (hg : g env hp = some (.int (i : Int), hp)) (hd : ds[i]? = some d) : eBin ixG f g env hp = some (d, hp) := eBin_atW hf hg (tup_ix hd hp)
theorem ixR_at {i n : Nat} (hf : f env hp = some (.ref n, hp)) (hn : hp[n]? = some (.lst ds)) (hg : g env hp = some (.int (i : Int), hp)) (hd : ds[i]? = some d) : eBin ixG f g env hp = some (d, hp) := eBin_atW hf hg (ixG_lst hn hd)
theorem len_at (hf : f env hp = some (.lst ds, hp)) : eBlt lenG (aCons f aNil) env hp = some (.int ds.length, hp) := blt_at (a1_at hf) (lenG_lst ds hp)
theorem lenR_at {n : Nat} (hf : f env hp = some (.ref n, hp)) (hn : hp[n]? = some (.lst ds)) : eBlt lenG (aCons f aNil) env hp = some (.int ds.length, hp) := blt_at (a1_at hf) (lenG_ref hn)
theorem addI_at {i j : Int} (hf : f env hp = some (.int i, hp)) (hg : g env hp = some (.int j, hp)) : eBin addD f g env hp = some (.int (i + j), hp) := eBin_atW hf hg rfl
theorem subI_at {i j : Int} (hf : f env hp = some (.int i, hp)) (hg : g env hp = some (.int j, hp)) : eBin subD f g env hp = some (.int (i - j), hp) := eBin_atW hf hg rfl
theorem addN_at {i j : Nat} (hf : f env hp = some (.int (i : Int), hp)) (hg : g env hp = some (.int (j : Int), hp)) : eBin addD f g env hp = some (.int ((i + j : Nat) : Int), hp) := by
  rw [addI_at hf hg]; simp
theorem gtI_at {i j : Int} (hf : f env hp = some (.int i, hp)) (hg : g env hp = some (.int j, hp)) : eBin gtD f g env hp = some (.bl (decide (j < i)), hp) := eBin_atW hf hg rfl
theorem eqI_at {i j : Int} (hf : f env hp = some (.int i, hp)) (hg : g env hp = some (.int j, hp)) : eBin eqG f g env hp = some (.bl (i == j), hp) := eBin_atW hf hg (eqI i j hp)
theorem comp_at {nw : Bool} {src : DXx} {idx : List Nat} {t : DTx} {e : DEx} {m : DV → DV} (hs : src env hp = some (nxD ds, hp)) (ht : ∀ x ∈ ds, t (cE idx env x) hp = some (true, hp)) (he : ∀ x ∈ ds, e (cE idx env x) hp = some (m x, hp)) (hl : ds.length < 100000) : eCompX false src idx t e env hp = some (.lst (ds.map m), hp) := by
  unfold eCompX
  rw [bind_at hs]
  exact (bind_at (compX_map (t := fun d => t (cE idx env d)) (f := fun d => e (cE idx env d)) ds ht he hl)).trans rfl
theorem app_at {i : Nat} (hf : f env hp = some (d, hp1)) (ha : env[i]? = some (.acc ds)) (hl : ds.length < 100000) : sApp i f env hp = some ((.nx, env.set i (.acc (ds ++ [d]))), hp1) := by
  unfold sApp
  rw [bind_at hf]
  simp only [ha]
  rw [if_pos (show ds.length < lim from hl)]; rfl
end
theorem forL_at {b : DV → DSx} (J : Nat → En) (hp : Hs) (ds : List DV) (hs : ∀ (i : Nat) d, ds[i]? = some d → b d (J i) hp = some ((.nx, J (i + 1)), hp)) : forL b ds (J 0) hp = some ((.nx, J ds.length), hp) := by
  suffices h : ∀ (m i : Nat), m + i = ds.length → forL b (ds.drop i) (J i) hp = some ((.nx, J ds.length), hp) by simpa using h ds.length 0 rfl
  intro m
  induction m with
  | zero =>
    intro i e
    have : i = ds.length := by omega
    subst this
    rw [List.drop_length]; rfl
  | succ m ih =>
    intro i e
    have hlt : i < ds.length := by omega
    rw [List.drop_eq_getElem_cons hlt, forL_nx (hs i ds[i] (List.getElem?_eq_getElem hlt))]
    exact ih (i + 1) (by omega)
theorem forL_atW {b : DV → DSx} (J : Nat → En) (W : Nat → Hs) (ds : List DV) (hs : ∀ (i : Nat) d, ds[i]? = some d → b d (J i) (W i) = some ((.nx, J (i + 1)), W (i + 1))) : forL b ds (J 0) (W 0) = some ((.nx, J ds.length), W ds.length) := by
  suffices h : ∀ (m i : Nat), m + i = ds.length → forL b (ds.drop i) (J i) (W i) = some ((.nx, J ds.length), W ds.length) by simpa using h ds.length 0 rfl
  intro m
  induction m with
  | zero =>
    intro i e
    have : i = ds.length := by omega
    subst this
    rw [List.drop_length]; rfl
  | succ m ih =>
    intro i e
    have hlt : i < ds.length := by omega
    rw [List.drop_eq_getElem_cons hlt, forL_nx (hs i ds[i] (List.getElem?_eq_getElem hlt))]
    exact ih (i + 1) (by omega)
theorem forX_atW {b : DV → DSx} (J : Nat → En) (W : Nat → Hs) (ds : List DV) (hl : ds.length < 100000) (hs : ∀ (i : Nat) d, ds[i]? = some d → b d (J i) (W i) = some ((.nx, J (i + 1)), W (i + 1))) : forX (nxD ds) b 100000 0 (J 0) (W 0) = some ((.nx, J ds.length), W ds.length) := by
  have := WP_forXD (b := b) (env := J 0) (hp := W 0) (Q := fun r h => r = (.nx, J ds.length) ∧ h = W ds.length) ds (fun i env h => env = J i ∧ h = W i) hl ⟨rfl, rfl⟩ (fun i d hd env h ⟨e1, e2⟩ => by
    subst e1 e2
    exact WP.of (hs i d hd) ⟨rfl, rfl⟩) (fun env h ⟨e1, e2⟩ => ⟨by rw [e1], e2⟩)
  obtain ⟨r, h, e, rfl, rfl⟩ := this
  exact e
def begD (rows : TP.Rw) (m : Nat) (fork : Bool) (k : Nat) : DV := match TP.chunk rows m fork k with
  | [] => .non
  | r :: _ => .int r.1
def keysD (rows : TP.Rw) (m : Nat) (fork : Bool) (k : Nat) : DV := .tup (((TP.chunk rows m fork k).drop (if fork then 1 else 0)).map fun r => .int r.1)
def partsD (rows : TP.Rw) (m : Nat) (fork : Bool) (k : Nat) : DV := .tup ((TP.chunk rows m fork k).map fun r => .int r.2)
def fillD (rows : TP.Rw) (m : Nat) (fork : Bool) (k : Nat) : DV := .tup [begD rows m fork k, keysD rows m fork k, partsD rows m fork k]
def fillsD (rows : TP.Rw) (m : Nat) (fork : Bool) : List DV := (List.range (TP.qn rows.length m)).map (fillD rows m fork)
def pageK (rows : TP.Rw) (m : Nat) (fork : Bool) (lv first : Nat) (k : Nat) : DV := .tup [.int lv, keysD rows m fork k, partsD rows m fork k, if k + 1 = TP.qn rows.length m then .non else begD rows m fork (k + 1), if k + 1 = TP.qn rows.length m then .non else .int ((first + (k + 1) : Nat) : Int)]
def pagesD (rows : TP.Rw) (m : Nat) (fork : Bool) (lv first : Nat) : List DV := (List.range (TP.qn rows.length m)).map (pageK rows m fork lv first)
theorem range_get {n i : Nat} {f : Nat → DV} (h : i < n) : ((List.range n).map f)[i]? = some (f i) := by
  rw [List.getElem?_map, List.getElem?_range h]; rfl
theorem prD_drop (r : TP.Rw) (a : Nat) : (prD r).drop a = prD (r.drop a) := by unfold prD; rw [List.map_drop]
theorem prD_take (r : TP.Rw) (a : Nat) : (prD r).take a = prD (r.take a) := by unfold prD; rw [List.map_take]
theorem prD_map (r : TP.Rw) (g : DV → DV) : (prD r).map g = r.map fun p => g (.tup [.int p.1, .int p.2]) := by unfold prD; rw [List.map_map]; rfl
def fstD : DV → DV
  | .tup (x :: _) => x
  | _ => .non
def sndD : DV → DV
  | .tup (_ :: y :: _) => y
  | _ => .non
theorem while_F' {c : DTx} {b : DSx} {n : Nat} {env : En} {hp : Hs} (h : c env hp = some (false, hp)) : whileD c b (n + 1) env hp = some ((.nx, env), hp) := while_F h
end D
namespace TR
def prs (p : Pg) : List (Int × Int) := p.ks.zip p.ps
theorem mem_zip_iff {xs ys : List Int} {a b : Int} : (a, b) ∈ xs.zip ys ↔ ∃ i : Nat, xs[i]? = some a ∧ ys[i]? = some b := by
  rw [List.mem_iff_getElem?]
  constructor
  · rintro ⟨i, h⟩
    have := List.getElem?_zip_eq_some.mp h
    exact ⟨i, this.1, this.2⟩
  · rintro ⟨i, h1, h2⟩
    exact ⟨i, List.getElem?_zip_eq_some.mpr ⟨h1, h2⟩⟩
theorem lt_cLt {ks : List Int} (h : ks.Pairwise (· < ·)) {i : Nat} {a k : Int} (ha : ks[i]? = some a) : i < cLt ks k ↔ a < k := by
  obtain ⟨h1, h2⟩ := sorted_takeL h k
  constructor
  · intro hi
    have : a ∈ ks.take (cLt ks k) := List.mem_iff_getElem?.mpr ⟨i, by rw [List.getElem?_take, if_pos hi]; exact ha⟩
    rw [h1] at this
    simpa using (List.mem_filter.mp this).2
  · intro hl
    refine Nat.lt_of_not_le fun hi => ?_
    have : a ∈ ks.drop (cLt ks k) := List.mem_iff_getElem?.mpr ⟨i - cLt ks k, by rw [List.getElem?_drop, show cLt ks k + (i - cLt ks k) = i by omega]; exact ha⟩
    rw [h2] at this
    have : k ≤ a := by simpa using (List.mem_filter.mp this).2
    omega
theorem lt_cLe {ks : List Int} (h : ks.Pairwise (· < ·)) {i : Nat} {a k : Int} (ha : ks[i]? = some a) : i < cLe ks k ↔ a ≤ k := by
  obtain ⟨h1, h2⟩ := sorted_take h k
  constructor
  · intro hi
    have : a ∈ ks.take (cLe ks k) := List.mem_iff_getElem?.mpr ⟨i, by rw [List.getElem?_take, if_pos hi]; exact ha⟩
    rw [h1] at this
    simpa using (List.mem_filter.mp this).2
  · intro hl
    refine Nat.lt_of_not_le fun hi => ?_
    have : a ∈ ks.drop (cLe ks k) := List.mem_iff_getElem?.mpr ⟨i - cLe ks k, by rw [List.getElem?_drop, show cLe ks k + (i - cLe ks k) = i by omega]; exact ha⟩
    rw [h2] at this
    have : k < a := by simpa using (List.mem_filter.mp this).2
    omega
theorem at_cLt {ks : List Int} (h : ks.Pairwise (· < ·)) {i : Nat} {k : Int} (hi : ks[i]? = some k) : cLt ks k = i ∧ cLe ks k = i + 1 := by
  have a := not_congr (lt_cLt (k := k) h hi)
  have b := (lt_cLe (k := k) h hi).mpr (Int.le_refl _)
  have c := cLe_cLt1 h k
  have d := a.mpr (by omega)
  omega
theorem worth_iff {p : Pg} (h : p.ks.Pairwise (· < ·)) {k v : Int} : worthP p k = some v ↔ (k, v) ∈ prs p := by
  unfold worthP prs
  rw [mem_zip_iff]
  constructor
  · intro e
    by_cases q : cLt p.ks k = cLe p.ks k
    · rw [if_pos q] at e; cases e
    · rw [if_neg q] at e
      have hk : k ∈ p.ks := Classical.byContradiction fun z => q (cLt_eq z)
      obtain ⟨i, hi⟩ := List.mem_iff_getElem?.mp hk
      have := (at_cLt h hi).1
      exact ⟨i, hi, by rw [← this]; exact e⟩
  · rintro ⟨i, hi, hv⟩
    obtain ⟨a, b⟩ := at_cLt h hi
    rw [if_neg (by omega), a]; exact hv
section
variable {S : Sh} {bg : Bg} {n : Nat} {p P : Pg} {k v : Int} {F : Int → Option Int}
end
end TR
namespace TR
def Aim (S : Sh) (bg : Bg) (w : Wk) : Prop := w.goal = 0 → match w.deed with
  | .stretch l h => l < h ∧ (w.aim = l ∨ ∃ (s : Nat) (p : Pg), w.place = some s ∧ S.pg[s]? = some p ∧ p.lv = 0 ∧ bg s = some w.aim ∧ l < w.aim ∧ w.aim < h)
  | .find k => w.aim = k
  | .put k _ => w.aim = k
  | .cut k => w.aim = k
theorem Aim.grow {S S' : Sh} {bg bg' : Bg} {w : Wk} (A : Aim S bg w) (g : Grow S bg S' bg') : Aim S' bg' w := fun h0 => by
  have a := A h0
  cases hd : w.deed with
  | find k => rw [hd] at a; exact a
  | put k x => rw [hd] at a; exact a
  | cut k => rw [hd] at a; exact a
  | stretch l h =>
    rw [hd] at a
    obtain ⟨a1, a2⟩ := a
    refine ⟨a1, a2.imp id ?_⟩
    rintro ⟨s, p, b1, b2, b0, b3, b4⟩
    obtain ⟨e, p', e1, e2⟩ := g.old s p b2
    exact ⟨s, p', b1, e1, e2.trans b0, by rw [e]; exact b3, b4⟩
section
variable {S S' : Sh} {bg : Bg} {n : Nat} {p P : Pg} {w w' : Wk} {F : Int → Option Int} {r : Row}
end
end TR
namespace TR
def Kd (S : Sh) (c : Nat) : Prop := ∃ (m : Nat) (q : Pg), S.pg[m]? = some q ∧ 0 < q.lv ∧ (c : Int) ∈ q.ps
def Tells (ws : List Wk) (c : Nat) : Prop := ∃ (i : Nat) (w : Wk), ws[i]? = some w ∧ w.ended = false ∧ 0 < w.goal ∧ w.newp = some c
def Tld (S : Sh) (ws : List Wk) : Prop := ∀ n : Nat, n < S.pg.length → n ≠ S.top → Kd S n ∨ Tells ws n
section
variable {S S' : Sh} {bg : Bg} {n : Nat} {p P : Pg} {w w' : Wk} {r : Row} {ws : List Wk} {i : Nat}
theorem settle_kd {w : Wk} (hn : S.pg[n]? = some p) (hl : P.lv = p.lv) (hsub : 0 < p.lv → ∀ x ∈ p.ps, x ∈ P.ps) {c : Nat} (h : Kd S c ∨ (0 < P.lv ∧ (c : Int) ∈ P.ps)) : Kd (settleP S w n P).2.1 c := by
  have ln := lt_of_get hn
  have key : (∃ (m : Nat) (q : Pg), m ≠ n ∧ S.pg[m]? = some q ∧ 0 < q.lv ∧ (c : Int) ∈ q.ps) ∨ (0 < P.lv ∧ (c : Int) ∈ P.ps) := by
    rcases h with ⟨m, q, h1, h2, h3⟩ | h
    · by_cases e : m = n
      · subst e; rw [hn] at h1; cases h1; exact .inr ⟨by omega, hsub h2 _ h3⟩
      · exact .inl ⟨m, q, e, h1, h2, h3⟩
    · exact .inr h
  unfold settleP
  by_cases hr : P.ks.length ≤ S.room
  · rw [if_pos hr]
    rcases key with ⟨m, q, e, h1, h2, h3⟩ | ⟨h1, h2⟩
    · exact ⟨m, q, by show (S.pg.set n P)[m]? = _; rw [List.getElem?_set_ne (fun x => e x.symm)]; exact h1, h2, h3⟩
    · exact ⟨n, P, by show (S.pg.set n P)[n]? = _; rw [List.getElem?_set_self ln], h1, h2⟩
  · rw [if_neg hr]
    rcases key with ⟨m, q, e, h1, h2, h3⟩ | ⟨h1, h2⟩
    · exact ⟨m, q, by show ((S.pg ++ [newHalf P]).set n (oldHalf P S.pg.length))[m]? = _; rw [List.getElem?_set_ne (fun x => e x.symm)]; exact app_get h1, h2, h3⟩
    · rw [← List.take_append_drop (cutAt P) P.ps] at h2
      rcases List.mem_append.mp h2 with h | h
      · exact ⟨n, oldHalf P S.pg.length, by show ((S.pg ++ [newHalf P]).set n (oldHalf P S.pg.length))[n]? = _; rw [List.getElem?_set_self (by simp; omega)], h1, h⟩
      · exact ⟨S.pg.length, newHalf P, by show ((S.pg ++ [newHalf P]).set n (oldHalf P S.pg.length))[S.pg.length]? = _; rw [List.getElem?_set_ne (by omega)]; simp, h1, h⟩
theorem Tells.other {c : Nat} (h : Tells ws c) (hi : ws[i]? = some w) (hne : w.ended = false → 0 < w.goal → w.newp ≠ some c) : Tells (ws.set i w') c := by
  obtain ⟨j, v, a, b, d, e⟩ := h
  have ne : j ≠ i := fun z => by subst z; rw [hi] at a; cases a; exact hne b d e
  exact ⟨j, v, by rw [List.getElem?_set_ne (fun x => ne x.symm)]; exact a, b, d, e⟩
theorem Tells.self {c : Nat} (hi : ws[i]? = some w) (h1 : w'.ended = false) (h2 : 0 < w'.goal) (h3 : w'.newp = some c) : Tells (ws.set i w') c :=
  ⟨i, w', List.getElem?_set_self (lt_of_get hi), h1, h2, h3⟩
theorem settle_tells {w : Wk} (S : Sh) (n : Nat) (P : Pg) (h : S.room < P.ks.length) (hw : w.ended = false) : (settleP S w n P).2.2.ended = false ∧ 0 < (settleP S w n P).2.2.goal ∧ (settleP S w n P).2.2.newp = some S.pg.length := by
  unfold settleP; rw [if_neg (by omega)]; exact ⟨hw, Nat.succ_pos _, rfl⟩
theorem settle_len {w : Wk} (S : Sh) (n : Nat) (P : Pg) {c : Nat} (hc : c < (settleP S w n P).2.1.pg.length) : c < S.pg.length ∨ (c = S.pg.length ∧ S.room < P.ks.length) := by
  unfold settleP at hc
  by_cases hr : P.ks.length ≤ S.room
  · rw [if_pos hr] at hc; exact .inl (by simpa using hc)
  · rw [if_neg hr] at hc
    have : c < S.pg.length + 1 := by simpa using hc
    rcases Nat.lt_or_ge c S.pg.length with h | h
    · exact .inl h
    · exact .inr ⟨by omega, by omega⟩
theorem settle_top {w : Wk} (S : Sh) (n : Nat) (P : Pg) : (settleP S w n P).2.1.top = S.top := by
  unfold settleP; split <;> rfl
theorem Tld.step (D : Tld S ws) (T : Tree S bg) (W : WOk S bg w) (hi : ws[i]? = some w) (hw : w.ended = false) (hs : stepP S w = some (r, S', w')) : Tld S' (ws.set i w') := by
  obtain ⟨n, hn0, hpl⟩ : ∃ n, w.place.getD S.top = n ∧ (w.place = some n ∨ (w.place = none ∧ n = S.top)) := by
    cases e : w.place with
    | none => exact ⟨S.top, rfl, .inr ⟨rfl, rfl⟩⟩
    | some m => exact ⟨m, rfl, .inl rfl⟩
  obtain ⟨p, hn⟩ : ∃ p, S.pg[n]? = some p := by
    rcases hpl with hp | ⟨_, rfl⟩
    · obtain ⟨p, a, _⟩ := W.at_ n hp; exact ⟨p, a⟩
    · obtain ⟨p, a, _⟩ := T.root; exact ⟨p, a⟩
  have still : ∀ {x : Wk} {S2 : Sh}, S2.pg = S.pg → S2.top = S.top → (w.ended = false → 0 < w.goal → x.ended = false ∧ x.goal = w.goal ∧ x.newp = w.newp) → Tld S2 (ws.set i x) := fun {x S2} e1 e2 e3 c hc ht => by
    rw [e1] at hc; rw [e2] at ht
    rcases D c hc ht with ⟨m, q, h⟩ | ⟨j, v, a, b, d, e⟩
    · exact .inl ⟨m, q, by rw [e1]; exact h⟩
    · by_cases z : j = i
      · subst z; rw [hi] at a; cases a
        obtain ⟨f1, f2, f3⟩ := e3 b d
        exact .inr (Tells.self hi f1 (by omega) (f3.trans e))
      · exact .inr ⟨j, v, by rw [List.getElem?_set_ne (fun x => z x.symm)]; exact a, b, d, e⟩
  unfold stepP at hs
  rw [if_neg (by rw [hw]; simp), hn0] at hs
  simp only [hn] at hs
  by_cases hr : w.place = none ∧ p.lv < w.goal
  · rw [if_pos hr] at hs
    obtain ⟨k, q, a1, a2, a3, a4⟩ := W.tell (by omega)
    simp only [a1] at hs
    cases hs
    intro c hc ht
    have hc : c < S.pg.length + 1 := by simpa using hc
    have ht : c ≠ S.pg.length := ht
    have newf : (S.pg ++ [(⟨p.lv + 1, [w.aim], [(S.top : Int), (k : Int)], none, none⟩ : Pg)])[S.pg.length]? = some ⟨p.lv + 1, [w.aim], [(S.top : Int), (k : Int)], none, none⟩ := by simp
    by_cases e : c = S.top
    · exact .inl ⟨S.pg.length, _, newf, Nat.succ_pos _, by simp [e]⟩
    by_cases e' : c = k
    · exact .inl ⟨S.pg.length, _, newf, Nat.succ_pos _, by simp [e']⟩
    rcases D c (by omega) e with ⟨m, q, h1, h2, h3⟩ | h
    · exact .inl ⟨m, q, app_get h1, h2, h3⟩
    · exact .inr (h.other hi fun _ _ h => by rw [a1] at h; exact e' (Option.some.inj h).symm)
  · rw [if_neg hr] at hs
    cases hb : beyondP p w.aim with
    | true =>
      rw [hb, if_pos rfl] at hs
      cases hsd : p.sd with
      | none => rw [hsd] at hs; cases hs
      | some s =>
        rw [hsd] at hs; cases hs
        exact still rfl rfl fun a _ => ⟨a, rfl, rfl⟩
    | false =>
      rw [hb, if_neg (by simp)] at hs
      by_cases hd : w.goal < p.lv
      · rw [if_pos hd] at hs
        cases hq : p.ps[cLe p.ks w.aim]? with
        | none => rw [hq] at hs; cases hs
        | some c =>
          rw [hq] at hs; cases hs
          exact still rfl rfl fun a _ => ⟨a, rfl, rfl⟩
      · rw [if_neg hd] at hs
        have back : ∀ (w0 : Wk) (P : Pg), w0.ended = false → P.lv = p.lv → (0 < p.lv → ∀ x ∈ p.ps, x ∈ P.ps) → (∀ c, 0 < w.goal → w.newp = some c → 0 < P.lv ∧ (c : Int) ∈ P.ps) → Tld (settleP { S with rd := S.rd + 1 } w0 n P).2.1 (ws.set i (settleP { S with rd := S.rd + 1 } w0 n P).2.2) := fun w0 P e0 hl hsub hnew c hc ht => by
          rw [settle_top] at ht
          rcases settle_len _ n P hc with hc | ⟨hc, hroom⟩
          · rcases D c hc ht with h | h
            · exact .inl (settle_kd (S := { S with rd := S.rd + 1 }) hn hl hsub (.inl h))
            · by_cases z : w.newp = some c ∧ 0 < w.goal
              · exact .inl (settle_kd (S := { S with rd := S.rd + 1 }) hn hl hsub (.inr (hnew c z.2 z.1)))
              · exact .inr (h.other hi fun _ a b => z ⟨b, a⟩)
          · obtain ⟨f1, f2, f3⟩ := settle_tells (w := w0) { S with rd := S.rd + 1 } n P hroom e0
            exact .inr (Tells.self hi f1 f2 (by rw [f3]; exact congrArg some hc.symm))
        by_cases h0 : 0 < w.goal
        · rw [if_pos h0] at hs
          obtain ⟨k, q, a1, a2, a3, a4⟩ := W.tell h0
          simp only [a1] at hs
          simp only [Option.some.injEq, Prod.mk.injEq] at hs
          obtain ⟨rfl, rfl, rfl⟩ := hs
          have hg : w.goal ≤ p.lv := by
            rcases hpl with hp | ⟨hp, _⟩
            · obtain ⟨p', b1, b2, _⟩ := W.at_ n hp
              rw [hn] at b1; cases b1; exact b2
            · exact Nat.le_of_not_lt fun h => hr ⟨hp, h⟩
          refine back w (withKid p w.aim k) hw rfl (fun _ x hx => ?_) fun c _ hc => ⟨by show 0 < p.lv; omega, ?_⟩
          · show x ∈ p.ps.take (cLe p.ks w.aim + 1) ++ (k : Int) :: p.ps.drop (cLe p.ks w.aim + 1)
            rw [← List.take_append_drop (cLe p.ks w.aim + 1) p.ps] at hx
            rcases List.mem_append.mp hx with h | h
            · exact List.mem_append_left _ h
            · exact List.mem_append_right _ (List.mem_cons_of_mem _ h)
          · rw [a1] at hc; cases hc
            show (k : Int) ∈ p.ps.take (cLe p.ks w.aim + 1) ++ (k : Int) :: p.ps.drop (cLe p.ks w.aim + 1)
            simp
        · rw [if_neg h0] at hs
          have hs := Option.some.inj hs
          unfold leafP at hs
          have g0 : ∀ {x : Wk}, w.ended = false → 0 < w.goal → x.ended = false ∧ x.goal = w.goal ∧ x.newp = w.newp := fun _ h => absurd h h0
          cases hdd : w.deed with
          | find k => rw [hdd] at hs; cases hs; exact still rfl rfl g0
          | put k x =>
            rw [hdd] at hs
            dsimp only at hs
            simp only [Prod.mk.injEq] at hs
            obtain ⟨rfl, rfl, rfl⟩ := hs
            exact back _ (withPair p w.aim x) hw rfl (fun h => (by
              have hg : p.lv = 0 := by omega
              omega)) fun c h => absurd h h0
          | cut k =>
            rw [hdd] at hs; dsimp only at hs; cases hs
            by_cases hq : (worthP p w.aim).isSome = true
            · rw [if_pos hq]
              intro c hc ht
              have hc : c < S.pg.length := by simpa using hc
              rcases D c hc ht with ⟨m, q, h1, h2, h3⟩ | h
              · have e : m ≠ n := fun e => by subst e; rw [hn] at h1; cases h1; omega
                exact .inl ⟨m, q, by show (S.pg.set n (without p w.aim))[m]? = _; rw [List.getElem?_set_ne (fun x => e x.symm)]; exact h1, h2, h3⟩
              · exact .inr (h.other hi fun _ a => absurd a h0)
            · rw [if_neg hq]; exact still rfl rfl g0
          | stretch l h =>
            rw [hdd] at hs; dsimp only at hs
            cases hhi : p.hi with
            | none => rw [hhi] at hs; cases hs; exact still rfl rfl g0
            | some x =>
              cases hsd : p.sd with
              | none => rw [hhi, hsd] at hs; cases hs; exact still rfl rfl g0
              | some s =>
                rw [hhi, hsd] at hs
                dsimp only at hs
                by_cases hx : h ≤ x
                · rw [if_pos hx] at hs; cases hs; exact still rfl rfl g0
                · rw [if_neg hx] at hs; cases hs; exact still rfl rfl g0
theorem Tld.put (D : Tld S ws) (hi : ∀ v, ws[i]? = some v → v.ended = true) (w : Wk) : Tld S (ws.set i w) := fun c hc ht => (D c hc ht).imp id fun ⟨j, v, a, b, d, e⟩ => by
  have ne : j ≠ i := fun z => by subst z; rw [hi v a] at b; cases b
  exact ⟨j, v, by rw [List.getElem?_set_ne (fun x => ne x.symm)]; exact a, b, d, e⟩
end
end TR
namespace TP
open TR
structure Lv where
  rows : Rw
  m : Nat
  fork : Bool
  lv : Nat
  first : Nat
def Lv.q (L : Lv) : Nat := qn L.rows.length L.m
def pageP (L : Lv) (k : Nat) : Pg := ⟨L.lv, ((chunk L.rows L.m L.fork k).drop (if L.fork then 1 else 0)).map (·.1), (chunk L.rows L.m L.fork k).map (·.2), if k + 1 = L.q then none else some (begI L.rows L.m L.fork (k + 1)), if k + 1 = L.q then none else some (L.first + (k + 1))⟩
structure Lv.Ok (room : Nat) (L : Lv) : Prop where
  room2 : 2 ≤ room
  m1 : L.m = if L.fork then room + 1 else room
  fk : L.fork = true ↔ 0 < L.lv
  rise : L.rows.Pairwise (fun a b => a.1 < b.1)
  two : L.fork = true → 2 ≤ L.rows.length
def Lv.s (L : Lv) (k : Nat) : Nat := sx L.rows.length L.m L.fork k
section
variable {room : Nat} {L : Lv} {k : Nat}
theorem Lv.Ok.m_pos (O : L.Ok room) : 1 ≤ L.m := by have := O.m1; have := O.room2; split at * <;> omega
theorem Lv.Ok.m3 (O : L.Ok room) (h : L.fork = true) : 3 ≤ L.m := by have := O.m1; have := O.room2; rw [if_pos h] at *; omega
theorem Lv.Ok.q1 (O : L.Ok room) : 1 ≤ L.q := (qn_facts O.m_pos).1
theorem Lv.Ok.s_lt (O : L.Ok room) (hn : 1 ≤ L.rows.length) (h : k < L.q) : L.s k < L.s (k + 1) := sx_lt O.m_pos O.m3 hn h
theorem Lv.Ok.s_le (O : L.Ok room) (hn : 1 ≤ L.rows.length) (h : k ≤ L.q) : L.s k ≤ L.rows.length := sx_le O.m_pos L.fork h hn
theorem Lv.s_end (L : Lv) : L.s L.q = L.rows.length := sx_end _ _ _
theorem Lv.Ok.s_mono (O : L.Ok room) (hn : 1 ≤ L.rows.length) : ∀ {i j : Nat}, i ≤ j → j ≤ L.q → L.s i ≤ L.s j := by
  intro i j hij hj
  induction j with
  | zero => have : i = 0 := by omega
            subst this; exact Nat.le_refl _
  | succ j ih =>
    by_cases e : i = j + 1
    · subst e; exact Nat.le_refl _
    · have := ih (by omega) (by omega)
      have := O.s_lt hn (k := j) (by omega)
      omega
theorem Lv.Ok.s_mono_lt (O : L.Ok room) (hn : 1 ≤ L.rows.length) {i j : Nat} (hij : i < j) (hj : j ≤ L.q) : L.s i < L.s j := by
  have a := O.s_lt hn (k := i) (by omega)
  have b := O.s_mono hn (i := i + 1) (j := j) (by omega) hj
  omega
theorem chunk_get {i : Nat} {r : Int × Int} : (chunk L.rows L.m L.fork k)[i]? = some r ↔ (i < L.s (k + 1) - L.s k ∧ L.rows[L.s k + i]? = some r) := by
  unfold chunk
  rw [List.getElem?_take]
  show (if i < L.s (k + 1) - L.s k then (L.rows.drop (L.s k))[i]? else none) = some r ↔ _
  rw [List.getElem?_drop]
  by_cases h : i < L.s (k + 1) - L.s k
  · rw [if_pos h]; exact ⟨fun e => ⟨h, e⟩, fun e => e.2⟩
  · rw [if_neg h]; exact ⟨fun e => (by cases e), fun e => absurd e.1 h⟩
theorem Lv.Ok.beg (O : L.Ok room) (hn : 1 ≤ L.rows.length) (h : k < L.q) : ∃ r, L.rows[L.s k]? = some r ∧ begI L.rows L.m L.fork k = r.1 := by
  have a := O.s_lt hn h
  have b := O.s_le hn (k := k + 1) (by omega)
  have hr : L.rows[L.s k]? = some (L.rows[L.s k]'(by omega)) := List.getElem?_eq_getElem _
  refine ⟨_, hr, ?_⟩
  have c : (chunk L.rows L.m L.fork k)[0]? = some (L.rows[L.s k]'(by omega)) := chunk_get.mpr ⟨by omega, hr⟩
  unfold begI
  cases e : chunk L.rows L.m L.fork k with
  | nil => rw [e] at c; cases c
  | cons x y => rw [e] at c; cases c; rfl
theorem rise_lt {rows : Rw} (h : rows.Pairwise (fun a b => a.1 < b.1)) {i j : Nat} {x y : Int × Int} (hx : rows[i]? = some x) (hy : rows[j]? = some y) (hij : i < j) : x.1 < y.1 := by
  obtain ⟨h1, rfl⟩ := List.getElem?_eq_some_iff.mp hx
  obtain ⟨h2, rfl⟩ := List.getElem?_eq_some_iff.mp hy
  exact List.pairwise_iff_getElem.mp h i j h1 h2 hij
theorem rise_le {rows : Rw} (h : rows.Pairwise (fun a b => a.1 < b.1)) {i j : Nat} {x y : Int × Int} (hx : rows[i]? = some x) (hy : rows[j]? = some y) (hij : i ≤ j) : x.1 ≤ y.1 := by
  rcases Nat.lt_or_ge i j with l | l
  · exact Int.le_of_lt (rise_lt h hx hy l)
  · have : i = j := by omega
    subst this; rw [hx] at hy; cases hy; exact Int.le_refl _
theorem key_get' {x : Int} (h : x ∈ (pageP L k).ks) : ∃ (i : Nat) (r : Int × Int), L.s k + (if L.fork then 1 else 0) ≤ i ∧ i < L.s (k + 1) ∧ L.rows[i]? = some r ∧ x = r.1 := by
  obtain ⟨r, hr, rfl⟩ := List.mem_map.mp h
  obtain ⟨i, hi⟩ := List.mem_iff_getElem?.mp hr
  rw [List.getElem?_drop] at hi
  obtain ⟨a, b⟩ := chunk_get.mp hi
  exact ⟨L.s k + ((if L.fork then 1 else 0) + i), r, by omega, by omega, b, rfl⟩
theorem Lv.Ok.few (O : L.Ok room) (h : k < L.q) : L.s (k + 1) - L.s k ≤ L.m := by
  obtain ⟨h1, h2, h3⟩ := qn_facts (n := L.rows.length) O.m_pos
  have mul : (k + 1) * L.m = k * L.m + L.m := by rw [Nat.add_mul, Nat.one_mul]
  have hq : qn L.rows.length L.m = L.q := rfl
  unfold Lv.s sx
  rw [hq, if_neg (by omega : ¬ k = L.q)]
  by_cases e : k + 1 = L.q
  · rw [if_pos e]
    have hk : k * L.m = (L.q - 1) * L.m := by rw [← e]; simp
    have h4 : L.q * L.m = k * L.m + L.m := by rw [← e, mul]
    rw [hq] at h2 h3
    split
    · rename_i c
      have := O.m3 c.1
      omega
    · omega
  · rw [if_neg e, if_neg (c := L.fork = true ∧ 1 < L.q ∧ L.rows.length = (L.q - 1) * L.m + 1 ∧ k + 1 = L.q) (fun z => e z.2.2.2)]
    split <;> omega
def bgL (L : Lv) (k : Nat) : Option Int := if k = 0 then none else some (begI L.rows L.m L.fork k)
theorem Lv.Ok.page (O : L.Ok room) (h : k < L.q) : PageOk room (bgL L k) (pageP L k) := by
  by_cases hn : 1 ≤ L.rows.length
  · have lt := O.s_lt hn h
    obtain ⟨r0, b1, b2⟩ := O.beg hn h
    have bgv : ∀ v, bgL L k = some v → v = r0.1 := fun v hv => by
      unfold bgL at hv
      split at hv
      · cases hv
      · rw [b2] at hv; exact (Option.some.inj hv).symm
    have hiv : ∀ x, (pageP L k).hi = some x → ∃ r, L.rows[L.s (k + 1)]? = some r ∧ x = r.1 := fun x hx => by
      have hx : (if k + 1 = L.q then none else some (begI L.rows L.m L.fork (k + 1))) = some x := hx
      split at hx
      · cases hx
      · obtain ⟨r, c1, c2⟩ := O.beg hn (k := k + 1) (by omega)
        exact ⟨r, c1, by rw [← c2]; exact (Option.some.inj hx).symm⟩
    refine ⟨?_, ?_, ?_, fun x hx v hv => ?_, fun hl x hx v hv => ?_, fun x hx v hv => ?_, fun x hx v hv => ?_⟩
    · show (((chunk L.rows L.m L.fork k).drop _).map (·.1)).Pairwise (· < ·)
      rw [List.pairwise_map]
      refine List.Pairwise.drop (List.Pairwise.take (List.Pairwise.drop O.rise))
    · show (((chunk L.rows L.m L.fork k).drop _).map (·.1)).length ≤ room
      rw [List.length_map, List.length_drop]
      have cl : (chunk L.rows L.m L.fork k).length ≤ L.s (k + 1) - L.s k := by unfold chunk; rw [List.length_take]; exact Nat.min_le_left _ _
      have fw := O.few h
      have m1 := O.m1
      split <;> rename_i c <;> simp only [c] at m1 <;> simp at m1 <;> omega
    · show ((chunk L.rows L.m L.fork k).map (·.2)).length = (((chunk L.rows L.m L.fork k).drop _).map (·.1)).length + _
      rw [List.length_map, List.length_map, List.length_drop]
      have c1 := (chunk_len (rows := L.rows) (m := L.m) (fork := L.fork) O.m_pos O.m3 hn h).2
      by_cases f : L.fork = true
      · have : ¬ (pageP L k).lv = 0 := by have := O.fk.mp f; show ¬ L.lv = 0; omega
        rw [if_pos f, if_neg this]; omega
      · have : (pageP L k).lv = 0 := by have := mt O.fk.mpr f; show L.lv = 0; omega
        rw [if_neg f, if_pos this]; omega
    · obtain ⟨i, r, a1, a2, a3, rfl⟩ := key_get' hx
      rw [bgv v hv]
      exact rise_le O.rise b1 a3 (by split at a1 <;> omega)
    · obtain ⟨i, r, a1, a2, a3, rfl⟩ := key_get' hx
      rw [bgv v hv]
      rw [if_pos (O.fk.mpr hl)] at a1
      exact rise_lt O.rise b1 a3 (by omega)
    · obtain ⟨i, r, a1, a2, a3, rfl⟩ := key_get' hx
      obtain ⟨r', c1, rfl⟩ := hiv v hv
      exact rise_lt O.rise a3 c1 a2
    · obtain ⟨r', c1, rfl⟩ := hiv x hx
      rw [bgv v hv]
      exact rise_lt O.rise b1 c1 lt
  · have r0 : L.rows = [] := by cases h' : L.rows with | nil => rfl | cons a b => rw [h'] at hn; simp at hn
    have fF : L.fork = false := by
      cases f : L.fork with
      | false => rfl
      | true => have := O.two f; rw [r0] at this; simp at this
    have cn : chunk L.rows L.m L.fork k = [] := by unfold chunk; rw [r0]; simp
    have q1 : L.q = 1 := by
      obtain ⟨h1, h2, h3⟩ := qn_facts (n := L.rows.length) O.m_pos
      have hq : qn L.rows.length L.m = L.q := rfl
      rw [hq] at h1 h2 h3
      have : (L.q - 1) * 1 ≤ (L.q - 1) * L.m := Nat.mul_le_mul_left _ O.m_pos
      rw [r0] at h3
      simp at h3
      omega
    have e : pageP L k = ⟨L.lv, [], [], none, none⟩ := by
      unfold pageP
      have ek : k + 1 = L.q := by omega
      rw [cn, if_pos ek, if_pos ek]; simp
    have lz : L.lv = 0 := by have := mt O.fk.mpr (by rw [fF]; simp); omega
    rw [e]
    exact ⟨List.Pairwise.nil, Nat.zero_le _, by simp [lz], fun x hx => (by cases hx), fun _ x hx => (by cases hx), fun x hx => (by cases hx), fun x hx => (by cases hx)⟩
end
end TP
namespace TP
open TR
structure Pt (room : Nat) (pg : List Pg) (bg : Bg) (L : Lv) : Prop where
  ok : L.Ok room
  len : pg.length = L.first + L.q
  top : ∀ k, k < L.q → pg[L.first + k]? = some (pageP L k) ∧ bg (L.first + k) = bgL L k
  lvl : ∀ (n : Nat) (p : Pg), pg[n]? = some p → p.lv ≤ L.lv ∧ (p.lv = L.lv → L.first ≤ n)
  page : ∀ (n : Nat) (p : Pg), pg[n]? = some p → PageOk room (bg n) p
  link : ∀ (n : Nat) (p : Pg), pg[n]? = some p → (p.hi = none ∧ p.sd = none) ∨ ∃ (h : Int) (s : Nat) (q : Pg), p.hi = some h ∧ p.sd = some s ∧ pg[s]? = some q ∧ q.lv = p.lv ∧ bg s = some h
  kid : ∀ (n : Nat) (p : Pg), pg[n]? = some p → 0 < p.lv → ∀ j k, p.ps[j]? = some k → ∃ (c : Nat) (q : Pg), k = (c : Int) ∧ pg[c]? = some q ∧ q.lv + 1 = p.lv ∧ bg c = startAt (bg n) p.ks j
  dis : ∀ (n m : Nat) (p q : Pg), pg[n]? = some p → pg[m]? = some q → p.lv = q.lv → n ≠ m → (∃ h v, p.hi = some h ∧ bg m = some v ∧ h ≤ v) ∨ (∃ h v, q.hi = some h ∧ bg n = some v ∧ h ≤ v)
  pred : ∀ (n : Nat) (p : Pg), pg[n]? = some p → ∀ v, bg n = some v → ∃ (m : Nat) (q : Pg), pg[m]? = some q ∧ q.lv = p.lv ∧ q.hi = some v
  told : ∀ (n : Nat) (p : Pg), pg[n]? = some p → p.lv < L.lv → ∃ (m : Nat) (f : Pg), pg[m]? = some f ∧ 0 < f.lv ∧ (n : Int) ∈ f.ps
section
variable {room : Nat} {L : Lv} {pg : List Pg} {bg : Bg}
theorem Lv.Ok.rows1 (O : L.Ok room) {k : Nat} (h : k + 1 < L.q) : 1 ≤ L.rows.length := by
  obtain ⟨h1, h2, h3⟩ := qn_facts (n := L.rows.length) O.m_pos
  have hq : qn L.rows.length L.m = L.q := rfl
  rw [hq] at h1 h2 h3
  have : (L.q - 1) * 1 ≤ (L.q - 1) * L.m := Nat.mul_le_mul_left _ O.m_pos
  omega
theorem Lv.Ok.beg_le (O : L.Ok room) {i j : Nat} (hij : i ≤ j) (hj : j < L.q) (h1 : 1 < L.q) : begI L.rows L.m L.fork i ≤ begI L.rows L.m L.fork j := by
  have hn := O.rows1 (k := 0) (by omega)
  obtain ⟨r, a1, a2⟩ := O.beg hn (k := i) (by omega)
  obtain ⟨r', b1, b2⟩ := O.beg hn hj
  rw [a2, b2]
  exact rise_le O.rise a1 b1 (O.s_mono hn hij (by omega))
theorem Lv.Ok.beg_lt (O : L.Ok room) {i j : Nat} (hij : i < j) (hj : j < L.q) : begI L.rows L.m L.fork i < begI L.rows L.m L.fork j := by
  have hn := O.rows1 (k := 0) (by omega)
  obtain ⟨r, a1, a2⟩ := O.beg hn (k := i) (by omega)
  obtain ⟨r', b1, b2⟩ := O.beg hn hj
  rw [a2, b2]
  exact rise_lt O.rise a1 b1 (O.s_mono_lt hn hij (by omega))
theorem lv_link (T : ∀ k, k < L.q → pg[L.first + k]? = some (pageP L k) ∧ bg (L.first + k) = bgL L k) {k : Nat} (h : k < L.q) : ((pageP L k).hi = none ∧ (pageP L k).sd = none) ∨ ∃ (h : Int) (s : Nat) (q : Pg), (pageP L k).hi = some h ∧ (pageP L k).sd = some s ∧ pg[s]? = some q ∧ q.lv = (pageP L k).lv ∧ bg s = some h := by
  by_cases e : k + 1 = L.q
  · exact .inl ⟨by show (if k + 1 = L.q then none else _) = none; rw [if_pos e], by show (if k + 1 = L.q then none else _) = none; rw [if_pos e]⟩
  · obtain ⟨a, b⟩ := T (k + 1) (by omega)
    refine .inr ⟨begI L.rows L.m L.fork (k + 1), L.first + (k + 1), pageP L (k + 1), by show (if k + 1 = L.q then none else _) = _; rw [if_neg e], by show (if k + 1 = L.q then none else _) = _; rw [if_neg e], a, rfl, ?_⟩
    rw [b]; unfold bgL; rw [if_neg (by omega)]
theorem lv_dis (O : L.Ok room) {i j : Nat} (hij : i < j) (hj : j < L.q) : ∃ h v, (pageP L i).hi = some h ∧ bgL L j = some v ∧ h ≤ v := by
  refine ⟨begI L.rows L.m L.fork (i + 1), begI L.rows L.m L.fork j, ?_, ?_, O.beg_le (by omega) hj (by omega)⟩
  · show (if i + 1 = L.q then none else _) = _; rw [if_neg (by omega)]
  · unfold bgL; rw [if_neg (by omega)]
theorem lv_pred {k : Nat} (h : k < L.q) {v : Int} (hv : bgL L k = some v) : ∃ i, i < L.q ∧ (pageP L i).hi = some v := by
  unfold bgL at hv
  split at hv
  · cases hv
  · rename_i k0
    refine ⟨k - 1, by omega, ?_⟩
    show (if k - 1 + 1 = L.q then none else some (begI L.rows L.m L.fork (k - 1 + 1))) = _
    rw [if_neg (by omega), show k - 1 + 1 = k by omega]; exact hv
theorem map_range_get {q n : Nat} {f : Nat → Pg} {p : Pg} (h : ((List.range q).map f)[n]? = some p) : n < q ∧ p = f n := by
  have hn : n < q := by have := (List.getElem?_eq_some_iff.mp h).1; simpa using this
  rw [List.getElem?_map, List.getElem?_range hn] at h
  exact ⟨hn, (Option.some.inj h).symm⟩
theorem range_map_get {q n : Nat} {f : Nat → Pg} (h : n < q) : ((List.range q).map f)[n]? = some (f n) := by rw [List.getElem?_map, List.getElem?_range h]; rfl
def pagesP (L : Lv) : List Pg := (List.range L.q).map (pageP L)
theorem Pt.base (O : L.Ok room) (h0 : L.lv = 0) (hf : L.first = 0) : Pt room (pagesP L) (bgL L) L := by
  have T : ∀ k, k < L.q → (pagesP L)[L.first + k]? = some (pageP L k) ∧ bgL L (L.first + k) = bgL L k := fun k h => by
    rw [hf, Nat.zero_add]; exact ⟨range_map_get h, rfl⟩
  have lvp : ∀ k, (pageP L k).lv = 0 := fun k => h0
  refine ⟨O, by rw [hf]; simp [pagesP], T, fun n p h => ?_, fun n p h => ?_, fun n p h => ?_, fun n p h hl => ?_, fun n m p q hn hm _ ne => ?_, fun n p h v hv => ?_, fun n p h hl => ?_⟩
  · obtain ⟨_, rfl⟩ := map_range_get h
    exact ⟨Nat.le_refl _, fun _ => by omega⟩
  · obtain ⟨a, rfl⟩ := map_range_get h
    exact O.page a
  · obtain ⟨a, rfl⟩ := map_range_get h
    exact lv_link T a
  · obtain ⟨a, rfl⟩ := map_range_get h
    rw [lvp] at hl; omega
  · obtain ⟨a, rfl⟩ := map_range_get hn
    obtain ⟨b, rfl⟩ := map_range_get hm
    rcases Nat.lt_or_gt_of_ne ne with l | l
    · exact .inl (lv_dis O l b)
    · exact .inr (lv_dis O l a)
  · obtain ⟨a, rfl⟩ := map_range_get h
    obtain ⟨i, b1, b2⟩ := lv_pred a hv
    exact ⟨i, pageP L i, range_map_get b1, rfl, b2⟩
  · obtain ⟨a, rfl⟩ := map_range_get h
    rw [lvp] at hl; omega
def nextL (room : Nat) (L : Lv) : Lv := ⟨nextR L.rows L.m L.fork L.first, room + 1, true, L.lv + 1, L.first + L.q⟩
theorem nextL_get {i : Nat} {r : Int × Int} : (nextL room L).rows[i]? = some r ↔ i < L.q ∧ r = (begI L.rows L.m L.fork i, ((L.first + i : Nat) : Int)) := by
  show ((List.range L.q).map fun k => (begI L.rows L.m L.fork k, ((L.first + k : Nat) : Int)))[i]? = some r ↔ _
  rw [List.getElem?_map]
  by_cases h : i < L.q
  · rw [List.getElem?_range h]
    exact ⟨fun e => ⟨h, (Option.some.inj e).symm⟩, fun e => by rw [e.2]; rfl⟩
  · rw [List.getElem?_eq_none (by simp; omega)]
    exact ⟨fun e => (by cases e), fun e => absurd e.1 h⟩
theorem nextL_len : (nextL room L).rows.length = L.q := nextR_len _ _ _ _
theorem Lv.Ok.next (O : L.Ok room) (h2 : 2 ≤ L.q) : (nextL room L).Ok room where
  room2 := O.room2
  m1 := rfl
  fk := ⟨fun _ => Nat.succ_pos _, fun _ => rfl⟩
  rise := by
    rw [List.pairwise_iff_getElem]
    intro i j hi hj hij
    obtain ⟨a1, a2⟩ := (nextL_get (room := room)).mp (List.getElem?_eq_getElem hi)
    obtain ⟨b1, b2⟩ := (nextL_get (room := room)).mp (List.getElem?_eq_getElem hj)
    rw [a2, b2]
    exact O.beg_lt hij b1
  two := fun _ => by rw [nextL_len]; exact h2
theorem find_part (O : L.Ok room) (hn : 1 ≤ L.rows.length) {i : Nat} (hi : i < L.rows.length) : ∃ k, k < L.q ∧ L.s k ≤ i ∧ i < L.s (k + 1) := by
  have key : ∀ j, j ≤ L.q → L.s j ≤ i ∨ ∃ k, k < j ∧ L.s k ≤ i ∧ i < L.s (k + 1) := by
    intro j
    induction j with
    | zero => intro _; exact .inl (by have : L.s 0 = 0 := sx_zero O.m_pos _; omega)
    | succ j ih =>
      intro hj
      rcases ih (by omega) with h | ⟨k, a, b, c⟩
      · by_cases e : L.s (j + 1) ≤ i
        · exact .inl e
        · exact .inr ⟨j, by omega, h, by omega⟩
      · exact .inr ⟨k, by omega, b, c⟩
  rcases key L.q (Nat.le_refl _) with h | ⟨k, a, b, c⟩
  · rw [L.s_end] at h; omega
  · exact ⟨k, a, b, c⟩
def bgN (n0 : Nat) (bg : Bg) (L : Lv) : Bg := fun n => if n < n0 then bg n else bgL L (n - n0)
theorem Pt.next (P : Pt room pg bg L) (h2 : 2 ≤ L.q) : Pt room (pg ++ pagesP (nextL room L)) (bgN pg.length bg (nextL room L)) (nextL room L) := by
  let N := nextL room L
  have O' : N.Ok room := P.ok.next h2
  have len := P.len
  have Nf : N.first = pg.length := by show L.first + L.q = _; omega
  have n1 : 1 ≤ N.rows.length := by show 1 ≤ (nextL room L).rows.length; rw [nextL_len]; omega
  have bo : ∀ n, n < pg.length → bgN pg.length bg N n = bg n := fun n h => by unfold bgN; rw [if_pos h]
  have bn : ∀ k, bgN pg.length bg N (N.first + k) = bgL N k := fun k => by unfold bgN; rw [Nf, if_neg (by omega), Nat.add_sub_cancel_left]
  have go : ∀ {n p}, pg[n]? = some p → (pg ++ pagesP N)[n]? = some p := fun {n p} h => by
    rw [List.getElem?_append_left (List.getElem?_eq_some_iff.mp h).1]; exact h
  have T : ∀ k, k < N.q → (pg ++ pagesP N)[N.first + k]? = some (pageP N k) ∧ bgN pg.length bg N (N.first + k) = bgL N k := fun k h => by
    refine ⟨?_, bn k⟩
    rw [Nf, List.getElem?_append_right (by omega), Nat.add_sub_cancel_left]; exact range_map_get h
  have cs : ∀ {n p}, (pg ++ pagesP N)[n]? = some p → (n < pg.length ∧ pg[n]? = some p) ∨ ∃ k, k < N.q ∧ n = N.first + k ∧ p = pageP N k := fun {n p} h => by
    by_cases c : n < pg.length
    · rw [List.getElem?_append_left c] at h; exact .inl ⟨c, h⟩
    · rw [List.getElem?_append_right (by omega)] at h
      obtain ⟨a, b⟩ := map_range_get h
      exact .inr ⟨n - pg.length, a, by omega, b⟩
  have lvN : N.lv = L.lv + 1 := rfl
  refine ⟨O', ?_, T, fun n p h => ?_, fun n p h => ?_, fun n p h => ?_, fun n p h hl j x hx => ?_, fun n m p q hn hm hl ne => ?_, fun n p h v hv => ?_, fun n p h hl => ?_⟩
  · rw [List.length_append, Nf]; simp [pagesP, N]
  · rcases cs h with ⟨c, h⟩ | ⟨k, a, b, rfl⟩
    · have := (P.lvl n p h).1
      exact ⟨Nat.le_succ_of_le this, fun e => absurd (show p.lv = L.lv + 1 from e) (by omega)⟩
    · exact ⟨Nat.le_refl _, fun _ => by rw [b]; exact Nat.le_add_right _ _⟩
  · rcases cs h with ⟨c, h⟩ | ⟨k, a, rfl, rfl⟩
    · rw [bo n c]; exact P.page n p h
    · rw [bn]; exact O'.page a
  · rcases cs h with ⟨c, h⟩ | ⟨k, a, rfl, rfl⟩
    · rcases P.link n p h with a | ⟨x, s, q, a1, a2, a3, a4, a5⟩
      · exact .inl a
      · exact .inr ⟨x, s, q, a1, a2, go a3, a4, by rw [bo s (List.getElem?_eq_some_iff.mp a3).1]; exact a5⟩
    · exact lv_link T a
  · rcases cs h with ⟨c, h⟩ | ⟨k, a, rfl, rfl⟩
    · obtain ⟨cc, q, a1, a2, a3, a4⟩ := P.kid n p h hl j x hx
      exact ⟨cc, q, a1, go a2, a3, by rw [bo cc (List.getElem?_eq_some_iff.mp a2).1, bo n c]; exact a4⟩
    · have hx : ((chunk N.rows N.m N.fork k).map (·.2))[j]? = some x := hx
      rw [List.getElem?_map] at hx
      obtain ⟨r, hr, rfl⟩ := Option.map_eq_some_iff.mp hx
      obtain ⟨b1, b2⟩ := chunk_get.mp hr
      obtain ⟨c1, rfl⟩ := nextL_get.mp b2
      obtain ⟨d1, d2⟩ := P.top (N.s k + j) c1
      refine ⟨L.first + (N.s k + j), pageP L (N.s k + j), rfl, go d1, rfl, ?_⟩
      rw [bo _ (List.getElem?_eq_some_iff.mp d1).1, d2, bn]
      cases j with
      | zero =>
        show bgL L (N.s k + 0) = bgL N k
        unfold bgL
        by_cases k0 : k = 0
        · subst k0
          have : N.s 0 = 0 := sx_zero O'.m_pos _
          rw [this, if_pos rfl, if_pos rfl]
        · have sp := O'.s_mono_lt n1 (i := 0) (j := k) (by omega) (by omega)
          rw [if_neg (by omega), if_neg k0]
          obtain ⟨r', e1, e2⟩ := O'.beg n1 a
          obtain ⟨_, rfl⟩ := nextL_get.mp e1
          rw [e2]; rfl
      | succ j =>
        show bgL L (N.s k + (j + 1)) = (((chunk N.rows N.m N.fork k).drop 1).map (·.1))[j]?
        rw [List.getElem?_map, List.getElem?_drop, show 1 + j = j + 1 by omega, hr]
        unfold bgL
        rw [if_neg (by omega)]; rfl
  · rcases cs hn with ⟨c, hn⟩ | ⟨k, a, rfl, rfl⟩
    · rcases cs hm with ⟨c', hm⟩ | ⟨k', a', rfl, rfl⟩
      · rw [bo n c, bo m c']; exact P.dis n m p q hn hm hl ne
      · have := (P.lvl n p hn).1
        have hl : p.lv = N.lv := hl
        omega
    · rcases cs hm with ⟨c', hm⟩ | ⟨k', a', rfl, rfl⟩
      · have := (P.lvl m q hm).1
        have hl : N.lv = q.lv := hl
        omega
      · rw [bn, bn]
        rcases Nat.lt_or_gt_of_ne (show k ≠ k' from fun e => ne (by rw [e])) with l | l
        · exact .inl (lv_dis O' l a')
        · exact .inr (lv_dis O' l a)
  · rcases cs h with ⟨c, h⟩ | ⟨k, a, rfl, rfl⟩
    · rw [bo n c] at hv
      obtain ⟨m, q, a1, a2, a3⟩ := P.pred n p h v hv
      exact ⟨m, q, go a1, a2, a3⟩
    · rw [bn] at hv
      obtain ⟨i, b1, b2⟩ := lv_pred a hv
      exact ⟨N.first + i, pageP N i, (T i b1).1, rfl, b2⟩
  · rcases cs h with ⟨c, h⟩ | ⟨k, a, rfl, rfl⟩
    · by_cases e : p.lv = L.lv
      · have fn := (P.lvl n p h).2 e
        have hi : n - L.first < N.rows.length := by show n - L.first < (nextL room L).rows.length; rw [nextL_len]; omega
        obtain ⟨k, k1, k2, k3⟩ := find_part O' n1 hi
        refine ⟨N.first + k, pageP N k, (T k k1).1, Nat.succ_pos _, ?_⟩
        show (n : Int) ∈ (chunk N.rows N.m N.fork k).map (·.2)
        refine List.mem_map.mpr ⟨_, List.mem_of_getElem? (chunk_get.mpr ⟨by omega, show N.rows[N.s k + (n - L.first - N.s k)]? = some (begI L.rows L.m L.fork (n - L.first), ((L.first + (n - L.first) : Nat) : Int)) from nextL_get.mpr ⟨by omega, by rw [show N.s k + (n - L.first - N.s k) = n - L.first by omega]⟩⟩), ?_⟩
        show ((L.first + (n - L.first) : Nat) : Int) = n
        omega
      · have := (P.lvl n p h).1
        obtain ⟨m, f, a1, a2, a3⟩ := P.told n p h (by omega)
        exact ⟨m, f, go a1, a2, a3⟩
    · exact absurd hl (Nat.lt_irrefl _)
end
end TP
namespace TP
open TR
structure Pk (room : Nat) (L0 : Lv) (pg : List Pg) (bg : Bg) (L : Lv) : Prop where
  pt : Pt room pg bg L
  ok0 : L0.Ok room
  lf : ∀ k, k < L0.q → pg[k]? = some (pageP L0 k) ∧ bg k = bgL L0 k
  lf0 : ∀ (n : Nat) (p : Pg), pg[n]? = some p → p.lv = 0 → n < L0.q
  khi : ∀ (n : Nat) (p : Pg), pg[n]? = some p → 0 < p.lv → ∀ (j : Nat) (k : Int), p.ps[j]? = some k → ∃ (c : Nat) (q : Pg), k = (c : Int) ∧ pg[c]? = some q ∧ q.hi = if j < p.ks.length then p.ks[j]? else p.hi
  ne : ∀ (n : Nat) (p : Pg), pg[n]? = some p → 0 < p.lv → 1 ≤ p.ks.length
  small : 2 ^ L.lv * L.q ≤ L0.q
  lv0 : L0.lv = 0
  first0 : L0.first = 0
theorem fork2 {n m k : Nat} (hm : 3 ≤ m) (hn : 2 ≤ n) (h : k < qn n m) : sx n m true k + 2 ≤ sx n m true (k + 1) := by
  obtain ⟨h1, h2, h3⟩ := qn_facts (n := n) (m := m) (by omega)
  have mx : max 1 n = n := by omega
  rw [mx] at h2 h3
  have mul : (k + 1) * m = k * m + m := by rw [Nat.add_mul, Nat.one_mul]
  unfold sx
  rw [if_neg (by omega : ¬ k = qn n m)]
  by_cases e : k + 1 = qn n m
  · rw [if_pos e]
    have hk : k * m = (qn n m - 1) * m := by rw [← e]; simp
    split
    · rename_i c
      obtain ⟨_, c1, c2, c3⟩ := c
      have : 1 * m ≤ k * m := Nat.mul_le_mul_right _ (by omega)
      omega
    · rename_i c
      by_cases q1 : 1 < qn n m
      · have : ¬ n = (qn n m - 1) * m + 1 := fun z => c ⟨rfl, q1, z, e⟩
        omega
      · have : k = 0 := by omega
        subst this; omega
  · rw [if_neg e]
    have : ¬ (True ∧ 1 < qn n m ∧ n = (qn n m - 1) * m + 1 ∧ k + 1 = qn n m) := fun z => e z.2.2.2
    rw [if_neg (show ¬ (true = true ∧ 1 < qn n m ∧ n = (qn n m - 1) * m + 1 ∧ k + 1 = qn n m) from fun z => e z.2.2.2)]
    split <;> omega
section
variable {room : Nat} {L0 L : Lv} {pg : List Pg} {bg : Bg}
theorem ksF (L : Lv) (hf : L.fork = true) (k j : Nat) : (pageP L k).ks[j]? = ((chunk L.rows L.m L.fork k)[j + 1]?).map (·.1) := by
  show (((chunk L.rows L.m L.fork k).drop (if L.fork then 1 else 0)).map (·.1))[j]? = _
  rw [if_pos hf, List.getElem?_map, List.getElem?_drop, Nat.add_comm 1 j]
theorem Lv.Ok.ksLen (O : L.Ok room) (hf : L.fork = true) {k : Nat} (hk : k < L.q) : (pageP L k).ks.length + 1 = L.s (k + 1) - L.s k ∧ 1 ≤ (pageP L k).ks.length := by
  have n2 := O.two hf
  have c := chunk_len (rows := L.rows) (m := L.m) (fork := L.fork) O.m_pos O.m3 (by omega) hk
  have e : (pageP L k).ks.length = (chunk L.rows L.m L.fork k).length - 1 := by
    show (((chunk L.rows L.m L.fork k).drop (if L.fork then 1 else 0)).map (·.1)).length = _
    rw [if_pos hf, List.length_map, List.length_drop]
  have f : L.s k + 2 ≤ L.s (k + 1) := by
    unfold Lv.s; rw [hf]; exact fork2 (O.m3 hf) n2 hk
  have c1 : (chunk L.rows L.m L.fork k).length = L.s (k + 1) - L.s k := c.1
  omega
theorem q_half (O : L.Ok room) (h2 : 2 ≤ L.q) : 2 * (nextL room L).q ≤ L.q := by
  have e : (nextL room L).q = qn L.q (room + 1) := by show qn (nextL room L).rows.length (room + 1) = _; rw [nextL_len]
  obtain ⟨h1, _, h3⟩ := qn_facts (n := L.q) (m := room + 1) (by omega)
  have mx : max 1 L.q = L.q := by omega
  rw [mx] at h3
  rw [e]
  have r2 := O.room2
  have : (qn L.q (room + 1) - 1) * 3 ≤ (qn L.q (room + 1) - 1) * (room + 1) := Nat.mul_le_mul_left _ (by omega)
  omega
theorem Pk.base (O : L.Ok room) (h0 : L.lv = 0) (hf : L.first = 0) : Pk room L (pagesP L) (bgL L) L where
  pt := Pt.base O h0 hf
  ok0 := O
  lf := fun k h => ⟨range_map_get h, rfl⟩
  lf0 := fun n p h _ => (map_range_get h).1
  khi := fun n p h hl => by
    obtain ⟨_, rfl⟩ := map_range_get h
    exact absurd (show 0 < L.lv from hl) (by omega)
  ne := fun n p h hl => by
    obtain ⟨_, rfl⟩ := map_range_get h
    exact absurd (show 0 < L.lv from hl) (by omega)
  small := by rw [h0]; simp
  lv0 := h0
  first0 := hf
theorem Pk.next (P : Pk room L0 pg bg L) (h2 : 2 ≤ L.q) : Pk room L0 (pg ++ pagesP (nextL room L)) (bgN pg.length bg (nextL room L)) (nextL room L) := by
  have Q := P.pt.next h2
  have len := P.pt.len
  have O' := P.pt.ok.next h2
  have nf : (nextL room L).first = pg.length := by show L.first + L.q = _; omega
  have n1 : 1 ≤ (nextL room L).rows.length := by rw [nextL_len]; omega
  have go : ∀ {n p}, pg[n]? = some p → (pg ++ pagesP (nextL room L))[n]? = some p := fun {n p} h => by
    rw [List.getElem?_append_left (List.getElem?_eq_some_iff.mp h).1]; exact h
  have cs : ∀ {n p}, (pg ++ pagesP (nextL room L))[n]? = some p → (n < pg.length ∧ pg[n]? = some p) ∨ ∃ k, k < (nextL room L).q ∧ n = (nextL room L).first + k ∧ p = pageP (nextL room L) k := fun {n p} h => by
    by_cases c : n < pg.length
    · rw [List.getElem?_append_left c] at h; exact .inl ⟨c, h⟩
    · rw [List.getElem?_append_right (by omega)] at h
      obtain ⟨a, b⟩ := map_range_get h
      exact .inr ⟨n - pg.length, a, by omega, b⟩
  refine ⟨Q, P.ok0, fun k h => ?_, fun n p h hl => ?_, fun n p h hl j x hx => ?_, fun n p h hl => ?_, ?_, P.lv0, P.first0⟩
  · obtain ⟨a, b⟩ := P.lf k h
    refine ⟨go a, ?_⟩
    unfold bgN; rw [if_pos (List.getElem?_eq_some_iff.mp a).1]; exact b
  · rcases cs h with ⟨c, h⟩ | ⟨k, a, b, rfl⟩
    · exact P.lf0 n p h hl
    · exact absurd (show L.lv + 1 = 0 from hl) (by omega)
  · rcases cs h with ⟨c, h⟩ | ⟨k, a, b, rfl⟩
    · obtain ⟨cc, q, a1, a2, a3⟩ := P.khi n p h hl j x hx
      exact ⟨cc, q, a1, go a2, a3⟩
    · have hx : ((chunk (nextL room L).rows (nextL room L).m (nextL room L).fork k).map (·.2))[j]? = some x := hx
      rw [List.getElem?_map] at hx
      obtain ⟨r, hr, rfl⟩ := Option.map_eq_some_iff.mp hx
      obtain ⟨b1, b2⟩ := chunk_get.mp hr
      obtain ⟨c1, rfl⟩ := nextL_get.mp b2
      obtain ⟨d1, d2⟩ := P.pt.top ((nextL room L).s k + j) c1
      refine ⟨L.first + ((nextL room L).s k + j), pageP L ((nextL room L).s k + j), rfl, go d1, ?_⟩
      obtain ⟨k1, k2⟩ := O'.ksLen rfl a
      show (if (nextL room L).s k + j + 1 = L.q then none else some (begI L.rows L.m L.fork ((nextL room L).s k + j + 1))) = _
      by_cases cj : j < (pageP (nextL room L) k).ks.length
      · rw [if_pos cj, ksF _ rfl]
        have le := O'.s_le n1 (k := k + 1) (by omega)
        rw [nextL_len] at le
        have e : (chunk (nextL room L).rows (nextL room L).m (nextL room L).fork k)[j + 1]? = some (begI L.rows L.m L.fork ((nextL room L).s k + (j + 1)), ((L.first + ((nextL room L).s k + (j + 1)) : Nat) : Int)) := chunk_get.mpr ⟨by omega, nextL_get.mpr ⟨by omega, rfl⟩⟩
        rw [e, if_neg (by omega)]; rfl
      · rw [if_neg cj]
        have ij : (nextL room L).s k + j + 1 = (nextL room L).s (k + 1) := by omega
        rw [ij]
        show _ = if k + 1 = (nextL room L).q then none else some (begI (nextL room L).rows (nextL room L).m (nextL room L).fork (k + 1))
        by_cases ek : k + 1 = (nextL room L).q
        · have := (nextL room L).s_end
          rw [← ek, nextL_len] at this
          rw [if_pos ek, if_pos this]
        · have lt := O'.s_mono_lt n1 (i := k + 1) (j := (nextL room L).q) (by omega) (Nat.le_refl _)
          rw [(nextL room L).s_end, nextL_len] at lt
          rw [if_neg ek, if_neg (by omega)]
          obtain ⟨r', e1, e2⟩ := O'.beg n1 (k := k + 1) (by omega)
          obtain ⟨_, rfl⟩ := nextL_get.mp e1
          rw [e2]
  · rcases cs h with ⟨c, h⟩ | ⟨k, a, b, rfl⟩
    · exact P.ne n p h hl
    · exact (O'.ksLen rfl a).2
  · have a := P.small
    have b := q_half P.pt.ok h2
    show 2 ^ (L.lv + 1) * _ ≤ _
    rw [Nat.pow_succ, Nat.mul_assoc]
    exact Nat.le_trans (Nat.mul_le_mul_left _ b) a
def packL (room : Nat) : Nat → Lv → List Pg → List Pg
  | 0, _, P => P
  | k + 1, L, P => if L.q ≤ 1 then P else packL room k (nextL room L) (P ++ pagesP (nextL room L))
theorem Pk.all : ∀ (k : Nat) {L : Lv} {pg : List Pg} {bg : Bg}, Pk room L0 pg bg L → L.q ≤ k + 1 → ∃ bg' L', Pk room L0 (packL room k L pg) bg' L' ∧ L'.q = 1
  | 0, L, pg, bg, P, h => ⟨bg, L, P, by have := P.pt.ok.q1; omega⟩
  | k + 1, L, pg, bg, P, h => by
    have q1 := P.pt.ok.q1
    unfold packL
    by_cases c : L.q ≤ 1
    · rw [if_pos c]; exact ⟨bg, L, P, by omega⟩
    · rw [if_neg c]
      have := q_half P.pt.ok (by omega)
      exact Pk.all k (P.next (by omega)) (by omega)
end
section
variable {room : Nat} {L0 L : Lv} {pg : List Pg} {bg : Bg} {n : Nat} {p : Pg} {key : Int}
theorem Pk.step (P : Pk room L0 pg bg L) (hn : pg[n]? = some p) (h0 : 0 < p.lv) (h1 : leB (bg n) key) (h2 : ltH key p.hi) : ∃ (c : Nat) (q : Pg), p.ps[cLe p.ks key]? = some (c : Int) ∧ pg[c]? = some q ∧ q.lv + 1 = p.lv ∧ leB (bg c) key ∧ ltH key q.hi := by
  have O := P.pt.page n p hn
  have pl := O.parts
  rw [if_neg (by omega)] at pl
  have cl : cLe p.ks key ≤ p.ks.length := List.length_filter_le _ _
  obtain ⟨x, hx⟩ : ∃ x, p.ps[cLe p.ks key]? = some x := ⟨_, List.getElem?_eq_getElem (by omega)⟩
  obtain ⟨c, q, rfl, a1, a2, a3⟩ := P.pt.kid n p hn h0 _ x hx
  obtain ⟨c', q', e, b1, b2⟩ := P.khi n p hn h0 _ _ hx
  have : c = c' := by omega
  subst this
  rw [a1] at b1; cases b1
  refine ⟨c, q, hx, a1, a2, fun v hv => ?_, fun v hv => ?_⟩
  · rw [a3] at hv
    cases e : cLe p.ks key with
    | zero => rw [e] at hv; exact h1 v hv
    | succ j => rw [e] at hv; exact (lt_cLe O.sorted hv).mp (by omega)
  · rw [b2] at hv
    split at hv
    · have := mt (lt_cLe O.sorted hv (k := key)).mpr (by omega)
      omega
    · exact h2 v hv
theorem Pk.kid0 (P : Pk room L0 pg bg L) (hn : pg[n]? = some p) (h0 : 0 < p.lv) (hb : bg n = none) : ∃ (c : Nat) (q : Pg), p.ps[0]? = some (c : Int) ∧ pg[c]? = some q ∧ q.lv + 1 = p.lv ∧ bg c = none := by
  have pl := (P.pt.page n p hn).parts
  rw [if_neg (by omega)] at pl
  obtain ⟨x, hx⟩ : ∃ x, p.ps[0]? = some x := ⟨_, List.getElem?_eq_getElem (by omega)⟩
  obtain ⟨c, q, rfl, a1, a2, a3⟩ := P.pt.kid n p hn h0 _ x hx
  exact ⟨c, q, hx, a1, a2, a3.trans hb⟩
theorem Pk.leaf0 (P : Pk room L0 pg bg L) (hn : pg[n]? = some p) (h0 : p.lv = 0) (hb : bg n = none) : n = 0 := by
  have := P.lf0 n p hn h0
  have e := (P.lf n this).2
  rw [hb] at e
  unfold bgL at e
  split at e
  · assumption
  · cases e
theorem leaf_prs (O : L0.Ok room) (h0 : L0.lv = 0) (k : Nat) : prs (pageP L0 k) = chunk L0.rows L0.m L0.fork k := by
  have f : L0.fork = false := by cases e : L0.fork with | false => rfl | true => have := O.fk.mp e; omega
  show (((chunk L0.rows L0.m L0.fork k).drop (if L0.fork then 1 else 0)).map (·.1)).zip ((chunk L0.rows L0.m L0.fork k).map (·.2)) = _
  rw [f]
  show (((chunk L0.rows L0.m false k).drop 0).map (·.1)).zip ((chunk L0.rows L0.m false k).map (·.2)) = _
  rw [List.drop_zero]
  generalize chunk L0.rows L0.m false k = c
  induction c with
  | nil => rfl
  | cons a b ih => rw [List.map_cons, List.map_cons, List.zip_cons_cons, ih]
theorem Pk.worth (P : Pk room L0 pg bg L) (hn : pg[n]? = some p) (hz : p.lv = 0) (h1 : leB (bg n) key) (h2 : ltH key p.hi) {v : Int} : worthP p key = some v ↔ (key, v) ∈ L0.rows := by
  have nq := P.lf0 n p hn hz
  obtain ⟨e1, e2⟩ := P.lf n nq
  rw [hn] at e1; cases e1
  have O := P.ok0
  rw [worth_iff (P.pt.page n _ hn).sorted, leaf_prs O P.lv0]
  constructor
  · intro h
    exact List.mem_of_mem_drop (List.mem_of_mem_take h)
  · intro h
    obtain ⟨i, hi, hr⟩ := List.mem_iff_getElem.mp h
    have hr : L0.rows[i]? = some (key, v) := by rw [List.getElem?_eq_getElem hi, hr]
    have n1 : 1 ≤ L0.rows.length := by omega
    obtain ⟨k, k1, k2, k3⟩ := find_part O n1 hi
    have : k = n := by
      rcases Nat.lt_trichotomy k n with l | l | l
      · exfalso
        obtain ⟨r, a, b⟩ := O.beg n1 nq
        have sm := O.s_mono n1 (i := k + 1) (j := n) (by omega) (by omega)
        have := rise_lt O.rise hr a (by omega)
        have := h1 (begI L0.rows L0.m L0.fork n) (by rw [e2]; unfold bgL; rw [if_neg (by omega)])
        rw [b] at this
        omega
      · exact l
      · exfalso
        obtain ⟨r, a, b⟩ := O.beg n1 (k := n + 1) (by omega)
        have sm := O.s_mono n1 (i := n + 1) (j := k) (by omega) (by omega)
        have := rise_le O.rise a hr (by omega)
        have := h2 (begI L0.rows L0.m L0.fork (n + 1)) (by show (if n + 1 = L0.q then none else _) = _; rw [if_neg (by omega)])
        rw [b] at this
        omega
    subst this
    exact List.mem_iff_getElem?.mpr ⟨i - L0.s k, chunk_get.mpr ⟨by omega, by rw [show L0.s k + (i - L0.s k) = i by omega]; exact hr⟩⟩
theorem take_chunk (O : L0.Ok room) {k : Nat} (h : k < L0.q) : L0.rows.take (L0.s k) ++ chunk L0.rows L0.m L0.fork k = L0.rows.take (L0.s (k + 1)) := by
  have le : L0.s k ≤ L0.s (k + 1) := by
    by_cases n1 : 1 ≤ L0.rows.length
    · exact Nat.le_of_lt (O.s_lt n1 h)
    · have r0 : L0.rows = [] := List.length_eq_zero_iff.mp (by omega)
      have q1 : L0.q = 1 := by
        obtain ⟨h1, h2, h3⟩ := qn_facts (n := L0.rows.length) O.m_pos
        have hq : qn L0.rows.length L0.m = L0.q := rfl
        rw [hq] at h1 h2 h3
        have : (L0.q - 1) * 1 ≤ (L0.q - 1) * L0.m := Nat.mul_le_mul_left _ O.m_pos
        omega
      have : k = 0 := by omega
      subst this
      have : L0.s 0 = 0 := sx_zero O.m_pos _
      omega
  show L0.rows.take (L0.s k) ++ (L0.rows.drop (L0.s k)).take (L0.s (k + 1) - L0.s k) = _
  rw [show L0.s (k + 1) = L0.s k + (L0.s (k + 1) - L0.s k) by omega, List.take_add, Nat.add_sub_cancel_left]
end
end TP
namespace D
open PySem PySem.Spec PyProof.Rows L2
section
variable {prog : Program} {w : World} {A : Around} {E : Value → Shared → Prop} {s : Shared}
theorem gk_miss : typeLookup (.type "list") "keys" = pure none := am_miss_of_fast (by decide +kernel)
theorem gk_list {a : Addr} {o : Obj} {xs : Array Value} {k : Nat} {Q : Option Value → Shared → Prop} (hx : s.heap.get? a = some o) (hc : o.cls = .type "list") (hdat : o.data = .seq xs k) (hd : o.dict = none) (hA : A.handled = none)
    (h : ∀ h' tk e, Heap.NewExcOf s.heap h' e "AttributeError" → Q none { s with heap := h', toks := tk }) : wpAny (model prog w) A (getAttr? (.ref a) "keys") Q E s := by
  obtain ⟨c, dct, dat, sl⟩ := o
  simp only at hc hdat hd
  subst hc hdat hd
  obtain ⟨hp, g, d, tk, os⟩ := s
  have hT : ∀ tk', (⟨hp, g, d, tk', os⟩ : Shared).TypeIs (.ref a) "list" := fun _ => ⟨_, hx, rfl⟩
  have f1 := sub_AttributeError
  have f3 := PySem.F.slot_list_getattribute.lookup
  have f4 := PySem.F.slot_list_getattribute.bind (.ref a)
  have f5 := am_list_getattr_none
  unfold getAttr? getAttrBy? getAttrBy
  repeat (any_goals (first | assumption | exact hT _ | ((with_reducible show wpAny _ _ (call (Value.builtin "list.__getattribute__") _ _) _ _ _); refine call_meets PySem.F.slot_list_getattribute (hT _) am_entry_list_getattribute (PySem.F.args_list_getattribute_2 _ _) (meets_getattribute_miss_list a xs k sl "keys" _ gk_miss (by decide +kernel)) ⟨hx, hA, fun h' tk' e hx' => ?_⟩) | wp_step))
  obtain ⟨t', u', he⟩ := hx'.there
  show wpAny _ _ (getattributeRaised _ _ _ _ _ _ _) _ _ _
  unfold getattributeRaised
  repeat (any_goals (first | assumption | wp_step))
  exact h _ _ _ hx'.of
end
section
variable {prog : Program} {w : World} {K : Type} [DecidableEq K] {knd : KeyKind prog w K} {A : Around} {R : Result → Shared → Prop}
theorem dul_entry : entryFor table "dict.update.loop" = some Builtin.«dict.update.loop» := entryFor_of_tree (by kernel_rfl)
theorem dul_plain : plainId "dict.update.loop" = true := by decide +kernel
def PairAt (knd : KeyKind prog w K) (h : Heap) (u : Value) (kv : K × Value) : Prop := ∃ t o n key, u = .ref t ∧ h.get? t = some o ∧ o.cls = .type "tuple" ∧ o.data = .seq #[key, kv.2] n ∧ knd.is kv.1 key = true
theorem dul_loop {d it l : Addr} {items : Array Value} {more : List (K × Value)} (hh : A.handled = none) (hdi : d ≠ it) (hld : l ≠ d) (hli : l ≠ it) (hsz : more.length ≤ sizeLine) (hlen : items.size = more.length) :
    ∀ (k i : Nat) (s : Shared), more.length - i = k → i ≤ more.length → s.heap.IsListIter it l i → s.heap.IsList l items →
    (∀ (j : Nat) (u : Value) (kv : K × Value), items[j]? = some u → more[j]? = some kv → PairAt knd s.heap u kv ∧ u ≠ .ref d ∧ u ≠ .ref it) → s.heap.DictOf knd d (merged [] (more.take i)) →
    (∀ h' t', h'.DictOf knd d (merged [] more) → (∀ b o, b ≠ d → b ≠ it → s.heap.get? b = some o → h'.get? b = some o) → R (.ok (.ret .none)) { s with heap := h', toks := t' }) →
    codeAny (model prog w) A (.builtin "dict.update.loop" ⟨[.ref d, .ref it, rawInt i, .none], []⟩) R s := by
  intro k
  induction k with
  | zero =>
    intro i s hk hi hit hl hp hd hR
    have hin : i = more.length := by omega
    refine codeAny_builtin dul_entry ?_
    rw [Around.under_plainId dul_plain _]
    show wpAny _ A.in1 (pyNext (.ref it) >>= _) _ _ s
    refine wpAny_bind (wpAny_pyNext_list_end (by exact hh) hit hl (by rw [Array.getElem?_eq_none]; omega) fun h' hx => ?_)
    refine wpAny_bind (wpAny_pure (wpAny_pure (hR h' s.toks ?_ fun b o hb hb' e => hx b o hb' e)))
    rw [hin, List.take_length] at hd
    obtain ⟨o, es, ep, ho, r⟩ := hd
    exact ⟨o, es, ep, hx d o hdi ho, r⟩
  | succ k ih =>
    intro i s hk hi hit hl hp hd hR
    have hlt : i < more.length := by omega
    obtain ⟨u, hu⟩ : ∃ u, items[i]? = some u := ⟨items[i]'(by omega), Array.getElem?_eq_getElem _⟩
    have hkv : more[i]? = some more[i] := List.getElem?_eq_getElem _
    obtain ⟨⟨t, o, n, key, rfl, ht, htc, htd, hkey⟩, n1, n2⟩ := hp i u _ hu hkv
    refine codeAny_builtin dul_entry ?_
    rw [Around.under_plainId dul_plain _]
    show wpAny _ A.in1 (pyNext (.ref it) >>= _) _ _ s
    refine wpAny_bind (wpAny_pyNext_list_item hit hl hu fun h1 hit1 hs1 => ?_)
    have td : t ≠ d := fun e => n1 (by rw [e])
    have ti : t ≠ it := fun e => n2 (by rw [e])
    have ht1 : h1.get? t = some o := (hs1.2 t ti).trans ht
    refine wpAny_bind (wpAny_holding ?_)
    refine wpAny_bind (wpAny_tryCatch ?_)
    unfold Builtin.Dict.pairItems
    refine wpAny_bind (wpAny_typeOf ⟨o, ht1, htc⟩ ?_)
    rw [if_pos (by decide)]
    refine wpAny_bind (wpAny_seqItems ht1 htd (wpAny_pure ?_))
    show wpAny _ _ (holding [key, more[i].2] (dictSet d key more[i].2)) _ _ _
    refine wpAny_holding ?_
    unfold dictSet
    try with_reducible refine wpAny_holding ?_
    obtain ⟨od, es, ep, hod, rd⟩ := hd
    have hd1 : h1.DictOf knd d (merged [] (more.take i)) := ⟨od, es, ep, (hs1.2 d hdi).trans hod, rd⟩
    have ml : (merged [] (more.take i)).length ≤ sizeLine := by
      have := merged_length_le (K := K) [] (more.take i)
      rw [List.length_take] at this
      simp at this; omega
    refine wpAny_bind (knd.pyHash hkey (wpAny_dictSetHashed_pairs (hsz := ml) hkey hd1 fun h2 hd2 hs2 => ?_))
    rw [← merged_take_succ [] more i _ hkv] at hd2
    have keep : ∀ b o, b ≠ d → b ≠ it → s.heap.get? b = some o → h2.get? b = some o := fun b o hb hb' e => (hs2.2 b hb).trans ((hs1.2 b hb').trans e)
    obtain ⟨oi, hoi, ri⟩ := hit1
    obtain ⟨ol, hol, rl⟩ := hl
    refine wpAny_pure ⟨plainId_quiet dul_plain _, ?_⟩
    refine ih (i + 1) _ (by omega) (by omega) ⟨oi, (hs2.2 it hdi.symm).trans hoi, ri⟩ ⟨ol, keep l ol hld hli hol, rl⟩ (fun j u kv h1' h2' => ?_) hd2 fun h' t' hd' hk' => ?_
    · obtain ⟨⟨t', o', n', key', rfl, a, b⟩, c1, c2⟩ := hp j u kv h1' h2'
      exact ⟨⟨t', o', n', key', rfl, keep t' o' (fun e => c1 (by rw [e])) (fun e => c2 (by rw [e])) a, b⟩, c1, c2⟩
    · exact hR h' t' hd' fun b o hb hb' e => hk' b o hb hb' (keep b o hb hb' e)
end
section
variable {prog : Program} {w : World} {K : Type} [DecidableEq K] {knd : KeyKind prog w K} {A : Around} {E : Value → Shared → Prop} {s : Shared}
theorem call_dict_list {l : Addr} {o : Obj} {items : Array Value} {n : Nat} {more : List (K × Value)} {Q : Value → Shared → Prop} (hh : A.handled = none) (ho : s.heap.get? l = some o) (hc : o.cls = .type "list") (hdat : o.data = .seq items n) (hdn : o.dict = none)
    (hsz : more.length ≤ sizeLine) (hlen : items.size = more.length) (hp : ∀ (j : Nat) (u : Value) (kv : K × Value), items[j]? = some u → more[j]? = some kv → PairAt knd s.heap u kv)
    (h : ∀ h' t', h'.DictOf knd s.heap.objs.size (merged [] more) → (∀ b o, s.heap.get? b = some o → h'.get? b = some o) → Q (.ref s.heap.objs.size) { s with heap := h', toks := t' }) :
    wpAny (model prog w) A (call (.type "dict") [.ref l]) Q E s := by
  refine callType_codes (Q₁ := fun obj s₁ => obj = .ref s.heap.objs.size ∧ s₁ = { s with heap := s.heap.push { cls := .type "dict", data := .dict #[] } }) PySem.F.kt_called_dict (PySem.F.kt_typeCall_dict_1 _) PySem.F.entry_dict_init (kt_code_dict_new _ ⟨rfl, rfl⟩) ?_
  rintro obj s₁ ⟨rfl, rfl⟩
  have hnew : (s.heap.push { cls := .type "dict", data := .dict #[] }).DictOf knd s.heap.objs.size [] := Heap.DictOf.new s.heap
  have ho' : (s.heap.push { cls := .type "dict", data := .dict #[] }).get? l = some o := Heap.get?_push_of_some _ ho
  have lts : ∀ b q, s.heap.get? b = some q → b ≠ s.heap.objs.size := fun b q e z => absurd (Heap.lt_size e) (by rw [z]; exact Nat.lt_irrefl _)
  refine ⟨hnew.typeIs, PySem.F.args_dict_init_2 _ _, ?_⟩
  unfold Builtin.«dict.__init__»
  refine wpAny_bind ?_
  unfold Builtin.Dict.selfAndRest
  refine wpAny_bind (wpAny_notOrdered_dict hnew.typeIs ?_)
  show wpAny _ _ (pure (s.heap.objs.size, [Value.ref l])) _ _ _
  refine wpAny_pure ?_
  show wpAny _ _ (Builtin.Dict.updateFrom "dict.__init__" s.heap.objs.size (.ref l) [] .none) _ _ _
  unfold Builtin.Dict.updateFrom
  refine wpAny_bind (wpAny_typeOf ⟨o, ho', hc⟩ ?_)
  rw [if_pos (by decide)]
  refine wpAny_bind (gk_list ho' hc hdat hdn (by exact hh) fun h1 t1 e1 hx => ?_)
  rw [if_pos (show (none : Option Value).isNone = true from rfl)]
  refine wpAny_bind (wpAny_rule ?_)
  have hl1 : h1.IsList l items := ⟨o, hx.keeps l o ho', hc, n, hdat⟩
  refine wpAny_bind (wpAny_pyIter_list hl1 ?_)
  have dn : s.heap.objs.size ≠ h1.objs.size := fun z => by
    obtain ⟨od, _, _, hod, _⟩ := hnew
    exact absurd (Heap.lt_size (hx.keeps _ _ hod)) (by rw [z]; exact Nat.lt_irrefl _)
  have kp : ∀ b q, s.heap.get? b = some q → (h1.push { cls := .type "list_iterator", data := .fields #[.ref l, .int 0 0] }).get? b = some q := fun b q e => Heap.get?_push_of_some _ (hx.keeps b q (Heap.get?_push_of_some _ e))
  have li : ∀ b q, s.heap.get? b = some q → b ≠ h1.objs.size := fun b q e z => absurd (Heap.lt_size (hx.keeps b q (Heap.get?_push_of_some _ e))) (by rw [z]; exact Nat.lt_irrefl _)
  refine wpAny_pure ⟨plainId_quiet dul_plain _, ?_⟩
  refine dul_loop (knd := knd) (l := l) (items := items) (more := more) (by exact hh) dn (lts l o ho) (li l o ho) hsz hlen more.length 0 _ rfl (Nat.zero_le _) ⟨_, Heap.get?_push_size _ rfl, rfl, rfl⟩ (hl1.push _) (fun j u kv h1' h2' => ?_) ?_ fun h' t' hd' hk' => ⟨rfl, h h' t' hd' fun b q e => hk' b q (lts b q e) (li b q e) (kp b q e)⟩
  · obtain ⟨t, o', n', key, rfl, a, b⟩ := hp j u kv h1' h2'
    exact ⟨⟨t, o', n', key, rfl, kp t o' a, b⟩, fun e => lts t o' a (by injection e), fun e => li t o' a (by injection e)⟩
  · obtain ⟨od, es, ep, hod, r⟩ := hnew
    exact ⟨od, es, ep, Heap.get?_push_of_some _ (hx.keeps _ _ hod), r⟩
end
section
variable {X : Cx}
def prM : List DV → Option (List (Key × DV))
  | [] => some []
  | .tup [k, v] :: r => match dkey k, prM r with
    | some k, some ps => some ((k, v) :: ps)
    | _, _ => none
  | _ => none
def lsG : DV → M (List DV)
  | .lst ds => pure ds
  | .ref n => do
    match ← getW n with
    | .lst ds => pure ds
    | _ => failure
  | _ => failure
theorem lsG_rep {d : DV} {ds : List DV} {hp hp' : Hs} {K : PySem.W.Frag} {ρ : List Addr} {B : Addr → Prop} {H : Hp} {v : V} (W : WOk K ρ B hp H) (r : RepV K ρ B H d v) (h : lsG d hp = some (ds, hp')) : hp = hp' ∧ ∃ p xs, v = .ref p ∧ SqL K H p xs ∧ RepL K ρ B H ds xs := by
  cases d with
  | lst xs =>
    obtain ⟨rfl, rfl⟩ := pure_some h
    obtain ⟨a, ys, rfl, _, sq, l⟩ := r.lstI
    exact ⟨rfl, a, ys, rfl, sq, l⟩
  | ref n =>
    obtain ⟨o, hp1, e1, e2⟩ := bind_some (show (getW n >>= fun o => (match o with | .lst ds => pure ds | _ => failure : M (List DV))) hp = some (ds, hp') from h)
    obtain ⟨e3, rfl⟩ := getW_some e1
    cases o with
    | lst zs =>
      obtain ⟨rfl, rfl⟩ := pure_some e2
      obtain ⟨a, rfl, _, ys, h1, l1⟩ := RepV.refW W r e3
      exact ⟨rfl, a, ys, rfl, SqL.of h1, l1⟩
    | dic _ => cases e2
    | ins _ _ => cases e2
  | non => cases h
  | bl _ => cases h
  | int _ => cases h
  | str _ => cases h
  | tup _ => cases h
def opM (o : Option α) : M α := match o with
  | some a => pure a
  | none => failure
theorem opM_some {o : Option α} {a : α} {hp hp' : Hs} (h : opM o hp = some (a, hp')) : o = some a ∧ hp = hp' := by
  cases o with
  | none => cases h
  | some z => obtain ⟨rfl, rfl⟩ := pure_some h; exact ⟨rfl, rfl⟩
def dicN : List DV → M DV := one1 fun d => do
  let ds ← lsG d
  let ps ← opM (prM ds)
  allocW (.dic (mergeD [] ps))
theorem prM_rep {pins : List (Addr × Obj)} {σ : St} {H : Hp} {s : Shared} {ρ : List Addr} {B : Addr → Prop} (I : Inv X pins σ H s) : ∀ {ds : List DV} {kvs : List (Key × DV)} {ys : List V} {its : List Value}, prM ds = some kvs → RepL X.K ρ B H ds ys → Vals ys its →
    ∃ (xk : List (Key × V)) (more : List (Key × Value)), RepK X.K ρ B H kvs xk ∧ KV xk more ∧ its.length = more.length ∧ ∀ (j : Nat) (u : Value) (kv : Key × Value), its[j]? = some u → more[j]? = some kv → PairAt (mixKind X.prog X.w) s.heap u kv := by
  intro ds
  induction ds with
  | nil =>
    intro kvs ys its h r v
    cases h
    unfold RepL at r; subst r
    cases v
    exact ⟨[], [], .nil, .nil, rfl, fun j u kv h => by simp at h⟩
  | cons d ds ih =>
    intro kvs ys its h r v
    unfold RepL at r
    obtain ⟨y, ys', rfl, r1, r2⟩ := r
    cases v with
    | @cons _ u _ us v1 v2 =>
    obtain ⟨k, dv, rfl, ky, ps, hk, hps, rfl⟩ : ∃ k dv, d = .tup [k, dv] ∧ ∃ ky ps, dkey k = some ky ∧ prM ds = some ps ∧ kvs = (ky, dv) :: ps := by
      unfold prM at h
      split at h
      · rename_i e; cases e
      · rename_i k v r e
        injection e with e1 e2
        subst e1 e2
        split at h
        · rename_i a b c d; cases h; exact ⟨_, _, rfl, _, _, c, d, rfl⟩
        · cases h
      · cases h
    obtain ⟨xk, more, a1, a2, a3, a4⟩ := ih hps r2 v2
    obtain ⟨a, xs, rfl, _, sq, l⟩ := r1.tupI
    obtain ⟨x1, r', rfl, b1, l⟩ := (show ∃ x r, xs = x :: r ∧ RepV X.K ρ B H k x ∧ RepL X.K ρ B H [dv] r by unfold RepL at l; exact l)
    obtain ⟨x2, r'', rfl, b2, l⟩ := (show ∃ x r, r' = x :: r ∧ RepV X.K ρ B H dv x ∧ RepL X.K ρ B H [] r by unfold RepL at l; exact l)
    unfold RepL at l; subst l
    obtain rfl := dkey_rep hk b1
    cases v1
    obtain ⟨its2, r2', pl, hz⟩ := I.tuple sq
    cases r2' with
    | @cons _ w1 _ ws q1 q2 =>
    cases q2 with
    | @cons _ w2 _ ws q2 q3 =>
    cases q3
    obtain ⟨o, ho, hc, n, hd⟩ := pl
    refine ⟨(ky, x2) :: xk, (ky, w2) :: more, .cons ⟨rfl, b2⟩ a1, .cons ⟨rfl, q2⟩ a2, by simp [a3], fun j u kv h1 h2 => ?_⟩
    cases j with
    | zero =>
      cases h1; cases h2
      exact ⟨a, o, n, w1, rfl, ho, hc, hd, kV_is q1⟩
    | succ j => exact a4 j u kv h1 h2
theorem c_dictN (hc : X.calm = true) : CallR X (.type "dict") (tPn X.K dicN) := by
  intro pins s σ H xs us Q I r h
  obtain ⟨ρ, B, hp, ds, d, hp', W, rl, e, k⟩ := h
  obtain ⟨x, rfl, e⟩ := one1_some e
  obtain ⟨zs, hp1, e1, e2⟩ := bind_some e
  obtain ⟨kvs, hp2, e3, e4⟩ := bind_some e2
  obtain ⟨e5, rfl⟩ := opM_some e3
  cases e4
  obtain ⟨v, rfl, rv⟩ := rl.oneI
  obtain ⟨rfl, p, ys, rfl, sq, l⟩ := lsG_rep W rv e1
  obtain ⟨u, rfl, rx⟩ := vals1 r
  cases rx
  obtain ⟨its, r', pl, hz⟩ := I.list sq
  obtain ⟨o, n, ho, hc', hdn, hdat⟩ := pl
  obtain ⟨xk, more, a1, a2, a3, a4⟩ := prM_rep I e5 l r'
  have zm : more.length ≤ sizeLine := by rw [← a3, ← r'.length]; exact hz
  have zk : (mergeK [] xk).length ≤ sizeLine := by
    have h1 := length_mergeK xk []
    have h2 := a2.length
    rw [List.length_nil] at h1
    omega
  refine call_dict_list (knd := mixKind X.prog X.w) (I.ok.hd hc) ho hc' hdat hdn zm (by simpa using a3) (fun j u kv h1 h2 => a4 j u kv (by simpa using h1) h2) fun h' t' dd kp => ?_
  have hn := I.hok.fresh (Nat.le_refl s.heap.objs.size)
  refine ⟨.ref s.heap.objs.size, _, I.laid (a := s.heap.objs.size) (o := .dK (mergeK [] xk)) (t' := t') kp (Nat.le_refl _) (dk_new zk (beq_eq_false_iff_ne.mpr (Ne.symm (Nat.ne_of_lt I.big))) (a2.merge .nil) dd), rfl, ?_⟩
  have g : Gr X.K ρ B H (ρ ++ [s.heap.objs.size]) (banP B s.heap.objs.size) (upd H s.heap.objs.size (.dK (mergeK [] xk))) := Gr.wnew hn I.kfresh
  refine k _ _ _ _ g (W.wnew hn I.kfresh (RepK.orep (RepK.gs ?_ (RepK.merge a1 (kvs := []) (xs := []) .nil)) upd_same)) ?_
  · exact g.gs W.rb
  · unfold RepV
    exact ⟨_, rfl, by rw [← W.len]; simp⟩
end
end D
namespace K62
open PySem PySem.Spec PyProof.Rows L2 D
def top (i : Nat) : Stmt := PySem.Challenge.pw_sidelink_k62_whole_each_key_led_to.main.body.getD i (.Pass ⟨0, 0, 0, 0⟩)
abbrev s_Shelf_pages : Stmt := inClass (top 15) 8
def b_Shelf_pages : DSx := sRet (eBlt lenG (aCons (eFld "Shelf" "kept" (eVar 0)) (aNil)))
def F_Shelf_pages : List DV → M DV := runF 1 b_Shelf_pages
abbrev s_Shelf_check_number : Stmt := inClass (top 15) 12
def b_Shelf_check_number : DSx := sIf (eNot (eB (eChain leD ltD (eC (.int 0)) (eVar 1) (eBlt lenG (aCons (eFld "Shelf" "kept" (eVar 0)) (aNil)))))) (sFail) (sNil)
def F_Shelf_check_number : List DV → M DV := runF 2 b_Shelf_check_number
abbrev s_Shelf_read : Stmt := inClass (top 15) 1
def b_Shelf_read : DSx := sSeq (sDrop (eMeth "Shelf" "check_number" 2 F_Shelf_check_number (eVar 0) (aCons (eVar 1) (aNil)))) (sSeq (sFldA "Shelf" "read_count" addI (eVar 0) (eC (.int 1))) (sRet (eBin ixG (eFld "Shelf" "kept" (eVar 0)) (eVar 1))))
def F_Shelf_read : List DV → M DV := runF 2 b_Shelf_read
abbrev s_Shelf_root : Stmt := inClass (top 15) 4
def b_Shelf_root : DSx := sRet (eFld "Shelf" "top" (eVar 0))
def F_Shelf_root : List DV → M DV := runF 1 b_Shelf_root
abbrev s_law_leaves : Stmt := top 31
def l_law_leaves_1 : DSx := sApp 2 (eTup (aCons (eVar 4) (aCons (eVar 5) (aNil))))
def L_law_leaves_1 : DSx := sFor (iZip (eBin ixG (eVar 1) (eC (.int 1))) (eBin ixG (eVar 1) (eC (.int 2)))) (gT [4, 5]) (l_law_leaves_1)
def l_law_leaves_2 : DSx := sSeq (L_law_leaves_1) (sSeq (sIf (eB (eBin isD (eBin ixG (eVar 1) (eC (.int 4))) (eC .non))) (sDis 2 (sRet (eVar 2))) (sNil)) (sSet 1 (eMeth "Shelf" "read" 2 F_Shelf_read (eVar 0) (aCons (eBin ixG (eVar 1) (eC (.int 4))) (aNil)))))
def L_law_leaves_2 : DSx := sFor (iRg1 (aCons (eMeth "Shelf" "pages" 1 F_Shelf_pages (eVar 0) aNil) (aNil))) (gN 3) (l_law_leaves_2)
def l_law_leaves_3 : DSx := sSet 1 (eMeth "Shelf" "read" 2 F_Shelf_read (eVar 0) (aCons (eBin ixG (eBin ixG (eVar 1) (eC (.int 2))) (eC (.int 0))) (aNil)))
def L_law_leaves_3 : DSx := whileD (eB (eBin gtD (eBin ixG (eVar 1) (eC (.int 0))) (eC (.int 0)))) (l_law_leaves_3) 100000
def b_law_leaves : DSx := sSeq (sSet 1 (eMeth "Shelf" "read" 2 F_Shelf_read (eVar 0) (aCons (eMeth "Shelf" "root" 1 F_Shelf_root (eVar 0) aNil) (aNil)))) (sSeq (L_law_leaves_3) (sSeq (sAcc 2) (sSeq (L_law_leaves_2) (sRet (eC .non)))))
def F_law_leaves : List DV → M DV := runF 6 b_law_leaves
abbrev s_is_full : Stmt := top 24
def b_is_full : DSx := sRet (eBin gtD (eBlt lenF (aCons (eBin ixD (eVar 0) (eC (.int 1))) (aNil))) (eVar 1))
def F_is_full : List DV → M DV := runF 2 b_is_full
abbrev s_law_cell_at : Stmt := top 26
def b_law_cell_at : DSx := sSeq (sIf (eB (eBin ltD (eVar 1) (eBlt lenF (aCons (eVar 0) (aNil))))) (sRet (eBin ixD (eVar 0) (eVar 1))) (sNil)) (sRet (eC (.int 0)))
def F_law_cell_at : List DV → M DV := runF 2 b_law_cell_at
abbrev s_law_churn : Stmt := top 27
def b_law_churn : DSx := sSeq (sSet 2 (eBin addD (eBin addD (eBin addD (eBin modD (eVar 0) (eC (.int 715827883))) (eBin mulD (eVar 1) (eVar 1))) (eBin mulD (eC (.int 3)) (eVar 1))) (eC (.int 11)))) (sRet (eBin divD (eBin modD (eBin mulD (eBin modD (eBin mulD (eVar 2) (eVar 2)) (eC (.int 715827883))) (eBin addD (eVar 2) (eBin mulD (eC (.int 7)) (eVar 1)))) (eC (.int 715827883))) (eC (.int 9))))
def F_law_churn : List DV → M DV := runF 3 b_law_churn
abbrev s_law_keys : Stmt := top 32
def C_law_keys_1 : DEx := eComp (iLst (eLst (aCons (eBin subD (eVar 4) (eC (.int 1))) (aCons (eVar 4) (aCons (eBin addD (eVar 4) (eC (.int 1))) (aNil)))))) [] (eB (eChain leD leD (eNeg (eBin powD (eC (.int 10)) (eC (.int 30)))) (eVar 0) (eBin powD (eC (.int 10)) (eC (.int 30))))) (eVar 0)
def l_law_keys_1 : DSx := sSet 3 (eBin addD (eVar 3) (C_law_keys_1))
def L_law_keys_1 : DSx := sFor (iLst (eVar 2)) (gT [4, 5]) (l_law_keys_1)
def C_law_keys_2 : DEx := eComp (iRg1 (aCons (eC (.int 40)) (aNil))) [1, 0] (tAll) (eBin ixD (eVar 1) (eBin modD (eCall 2 F_law_churn (aCons (eBin addD (eCall 2 F_law_cell_at (aCons (eVar 2) (aCons (eVar 0) (aNil)))) (eVar 0)) (aCons (eC (.int 10)) (aNil)))) (eBlt lenF (aCons (eVar 1) (aNil)))))
def b_law_keys : DSx := sSeq (sSet 2 (eVar 1)) (sSeq (sIf (eB (eBin gtD (eBlt lenF (aCons (eVar 1) (aNil))) (eC (.int 40)))) (sSet 2 (C_law_keys_2)) (sNil)) (sSeq (sSet 3 (eLst (aCons (eNeg (eBin powD (eC (.int 10)) (eC (.int 30)))) (aCons (eBin powD (eC (.int 10)) (eC (.int 30))) (aNil))))) (sSeq (L_law_keys_1) (sRet (eVar 3)))))
def F_law_keys : List DV → M DV := runF 6 b_law_keys
abbrev s_count_not_above : Stmt := top 12
def C_count_not_above_1 : DEx := eComp (iTp (eVar 0)) [1] (eB (eBin leD (eVar 0) (eVar 1))) (eVar 0)
def b_count_not_above : DSx := sRet (eBlt lenF (aCons (C_count_not_above_1) (aNil)))
def F_count_not_above : List DV → M DV := runF 2 b_count_not_above
abbrev s_count_below : Stmt := top 11
def C_count_below_1 : DEx := eComp (iTp (eVar 0)) [1] (eB (eBin ltD (eVar 0) (eVar 1))) (eVar 0)
def b_count_below : DSx := sRet (eBlt lenF (aCons (C_count_below_1) (aNil)))
def F_count_below : List DV → M DV := runF 2 b_count_below
abbrev s_worth_of : Stmt := top 10
def b_worth_of : DSx := sSeq (sSet 2 (eBin ixD (eVar 0) (eC (.int 1)))) (sSeq (sSet 3 (eCall 2 F_count_below (aCons (eVar 2) (aCons (eVar 1) (aNil))))) (sSeq (sIf (eB (eBin eqD (eVar 3) (eCall 2 F_count_not_above (aCons (eVar 2) (aCons (eVar 1) (aNil)))))) (sRet (eC .non)) (sNil)) (sRet (eBin ixD (eBin ixD (eVar 0) (eC (.int 2))) (eVar 3)))))
def F_worth_of : List DV → M DV := runF 4 b_worth_of
abbrev s_kid_for : Stmt := top 9
def b_kid_for : DSx := sRet (eBin ixD (eBin ixD (eVar 0) (eC (.int 2))) (eCall 2 F_count_not_above (aCons (eBin ixD (eVar 0) (eC (.int 1))) (aCons (eVar 1) (aNil)))))
def F_kid_for : List DV → M DV := runF 2 b_kid_for
abbrev s_beyond : Stmt := top 8
def b_beyond : DSx := sSeq (sSet 2 (eBin ixD (eVar 0) (eC (.int 3)))) (sRet (eAndV (eBin isnD (eVar 2) (eC .non)) (eBin geD (eVar 1) (eVar 2))))
def F_beyond : List DV → M DV := runF 3 b_beyond
abbrev s_law_led : Stmt := top 30
def l_law_led_1 : DSx := sSeq (sIf (eB (eCall 2 F_beyond (aCons (eVar 2) (aCons (eVar 1) (aNil))))) (sRet (eC .non)) (sNil)) (sSeq (sIf (eB (eBin eqG (eBin ixG (eVar 2) (eC (.int 0))) (eC (.int 0)))) (sRet (eVar 2)) (sNil)) (sSeq (sSet 4 (eMeth "Shelf" "read" 2 F_Shelf_read (eVar 0) (aCons (eCall 2 F_kid_for (aCons (eVar 2) (aCons (eVar 1) (aNil)))) (aNil)))) (sSeq (sIf (eB (eBin neG (eBin ixG (eVar 4) (eC (.int 0))) (eBin subD (eBin ixG (eVar 2) (eC (.int 0))) (eC (.int 1))))) (sRet (eC .non)) (sNil)) (sSet 2 (eVar 4)))))
def L_law_led_1 : DSx := sFor (iRg1 (aCons (eC (.int 12)) (aNil))) (gN 3) (l_law_led_1)
def b_law_led : DSx := sSeq (sSet 2 (eMeth "Shelf" "read" 2 F_Shelf_read (eVar 0) (aCons (eMeth "Shelf" "root" 1 F_Shelf_root (eVar 0) aNil) (aNil)))) (sSeq (L_law_led_1) (sRet (eC .non)))
def F_law_led : List DV → M DV := runF 5 b_law_led
abbrev s_Shelf_make_root : Stmt := inClass (top 15) 5
def b_Shelf_make_root : DSx := sSeq (sDrop (eMeth "Shelf" "check_number" 2 F_Shelf_check_number (eVar 0) (aCons (eVar 1) (aNil)))) (sFldD "Shelf" "top" (eVar 0) (eVar 1))
def F_Shelf_make_root : List DV → M DV := runF 2 b_Shelf_make_root
abbrev s_Shelf_lay : Stmt := inClass (top 15) 3
def b_Shelf_lay : DSx := sSeq (sFldA "Shelf" "write_count" addI (eVar 0) (eC (.int 1))) (sSeq (sDrop (eMth "list" mAppend (eFld "Shelf" "kept" (eVar 0)) (aCons (eVar 1) (aNil)))) (sRet (eBin subD (eBlt lenG (aCons (eFld "Shelf" "kept" (eVar 0)) (aNil))) (eC (.int 1)))))
def F_Shelf_lay : List DV → M DV := runF 2 b_Shelf_lay
abbrev s_Shelf_write : Stmt := inClass (top 15) 2
def b_Shelf_write : DSx := sSeq (sDrop (eMeth "Shelf" "check_number" 2 F_Shelf_check_number (eVar 0) (aCons (eVar 1) (aNil)))) (sSeq (sFldA "Shelf" "write_count" addI (eVar 0) (eC (.int 1))) (sAsg (eVar 2) (gSb (eFld "Shelf" "kept" (eVar 0)) (eVar 1))))
def F_Shelf_write : List DV → M DV := runF 3 b_Shelf_write
abbrev s_Shelf___init__ : Stmt := inClass (top 15) 0
def b_Shelf___init__ : DSx := sSeq (sFldD "Shelf" "page_room" (eVar 0) (eVar 1)) (sSeq (sFldD "Shelf" "kept" (eVar 0) (eNewL (aCons (eC (.tup [.int 0, .tup [], .tup [], .non, .non])) (aNil)))) (sSeq (sFldD "Shelf" "top" (eVar 0) (eC (.int 0))) (sSeq (sFldD "Shelf" "read_count" (eVar 0) (eC (.int 0))) (sFldD "Shelf" "write_count" (eVar 0) (eC (.int 0))))))
def F_Shelf___init__ : List DV → M DV := runF 2 b_Shelf___init__
abbrev s_shelf_of : Stmt := top 22
def l_shelf_of_1 : DSx := sDrop (eMeth "Shelf" "lay" 2 F_Shelf_lay (eVar 2) (aCons (eVar 3) (aNil)))
def L_shelf_of_1 : DSx := sForX (xLs (eSlG (eVar 0) (oSome (eC (.int 1))) (oNone))) (gN 3) (l_shelf_of_1)
def b_shelf_of : DSx := sSeq (sSet 2 (eMake "Shelf" 2 F_Shelf___init__ (aCons (eVar 1) (aNil)))) (sSeq (sDrop (eMeth "Shelf" "write" 3 F_Shelf_write (eVar 2) (aCons (eC (.int 0)) (aCons (eBin ixG (eVar 0) (eC (.int 0))) (aNil))))) (sSeq (L_shelf_of_1) (sSeq (sDrop (eMeth "Shelf" "make_root" 2 F_Shelf_make_root (eVar 2) (aCons (eBin subD (eBlt lenG (aCons (eVar 0) (aNil))) (eC (.int 1))) (aNil)))) (sRet (eVar 2)))))
def F_shelf_of : List DV → M DV := runF 4 b_shelf_of
abbrev s_linked : Stmt := top 21
def l_linked_1 : DSx := sSeq (sSet 5 (eBin addD (eVar 4) (eC (.int 1)))) (sSeq (sSet 6 (eBin eqG (eVar 5) (eBlt lenG (aCons (eVar 1) (aNil))))) (sSeq (sSet 7 (eIf (eB (eVar 6)) (eC .non) (eBin ixG (eBin ixG (eVar 1) (eVar 5)) (eC (.int 0))))) (sSeq (sSet 8 (eIf (eB (eVar 6)) (eC .non) (eBin addD (eVar 2) (eVar 5)))) (sDrop (eMth "list" mAppend (eVar 3) (aCons (eTup (aCons (eVar 0) (aCons (eBin ixG (eBin ixG (eVar 1) (eVar 4)) (eC (.int 1))) (aCons (eBin ixG (eBin ixG (eVar 1) (eVar 4)) (eC (.int 2))) (aCons (eVar 7) (aCons (eVar 8) (aNil))))))) (aNil)))))))
def L_linked_1 : DSx := sFor (iRg1 (aCons (eBlt lenG (aCons (eVar 1) (aNil))) (aNil))) (gN 4) (l_linked_1)
def b_linked : DSx := sSeq (sSet 3 (eNewL (aNil))) (sSeq (L_linked_1) (sRet (eVar 3)))
def F_linked : List DV → M DV := runF 9 b_linked
abbrev s_kid_counts : Stmt := top 20
def b_kid_counts : DSx := sSeq (sSet 2 (eBin mulL (eLst (aCons (eVar 1) (aNil))) (eBin divD (eVar 0) (eVar 1)))) (sSeq (sSet 3 (eBin modD (eVar 0) (eVar 1))) (sSeq (sIf (eB (eBin eqD (eVar 3) (eC (.int 1)))) (sRet (eBin addD (eSl (eVar 2) (oNone) (oSome (eNeg (eC (.int 1))))) (eLst (aCons (eBin subD (eVar 1) (eC (.int 1))) (aCons (eC (.int 2)) (aNil)))))) (sNil)) (sRet (eIf (eB (eBin gtD (eVar 3) (eC (.int 0)))) (eBin addD (eVar 2) (eLst (aCons (eVar 3) (aNil)))) (eVar 2)))))
def F_kid_counts : List DV → M DV := runF 4 b_kid_counts
abbrev s_fork_fills : Stmt := top 19
def C_fork_fills_1 : DEx := eCompX false (xLs (eSl (eVar 0) (oSome (eVar 4)) (oSome (eVar 6)))) [] (tAll) (eBin ixG (eVar 0) (eC (.int 0)))
def l_fork_fills_1 : DSx := sSeq (sSet 6 (eBin addD (eVar 4) (eVar 5))) (sSeq (sSet 7 (C_fork_fills_1)) (sSeq (sApp 3 (eTup (aCons (eBin ixG (eVar 7) (eC (.int 0))) (aCons (eBlt tupW (aCons (eSl (eVar 7) (oSome (eC (.int 1))) (oNone)) (aNil))) (aCons (eTupR (aCons (eBin addD (eVar 1) (eVar 4)) (aCons (eBin addD (eVar 1) (eVar 6)) (aNil)))) (aNil)))))) (sSet 4 (eVar 6))))
def L_fork_fills_1 : DSx := sForX (xLs (eCall 2 F_kid_counts (aCons (eBlt lenG (aCons (eVar 0) (aNil))) (aCons (eVar 2) (aNil))))) (gN 5) (l_fork_fills_1)
def b_fork_fills : DSx := sSeq (sAcc 3) (sSeq (sSet 4 (eC (.int 0))) (sSeq (L_fork_fills_1) (sDis 3 (sRet (eVar 3)))))
def F_fork_fills : List DV → M DV := runF 8 b_fork_fills
abbrev s_leaf_fills : Stmt := top 18
def C_leaf_fills_1 : DEx := eCompX false (xLs (eVar 4)) [] (tAll) (eBin ixG (eVar 0) (eC (.int 1)))
def C_leaf_fills_2 : DEx := eCompX false (xLs (eVar 4)) [] (tAll) (eBin ixG (eVar 0) (eC (.int 0)))
def l_leaf_fills_1 : DSx := sSeq (sSet 4 (eSlG (eVar 0) (oSome (eVar 3)) (oSome (eBin addD (eVar 3) (eVar 1))))) (sSeq (sSet 5 (eBlt tupW (aCons (C_leaf_fills_2) (aNil)))) (sApp 2 (eTup (aCons (eBin ixG (eVar 5) (eC (.int 0))) (aCons (eVar 5) (aCons (eBlt tupW (aCons (C_leaf_fills_1) (aNil))) (aNil)))))))
def L_leaf_fills_1 : DSx := sFor (iRg3 (aCons (eC (.int 0)) (aCons (eBlt lenG (aCons (eVar 0) (aNil))) (aCons (eVar 1) (aNil))))) (gN 3) (l_leaf_fills_1)
def b_leaf_fills : DSx := sSeq (sIf (eNot (eTru (eVar 0))) (sRet (eLst (aCons (eTup (aCons (eC .non) (aCons (eTup (aNil)) (aCons (eTup (aNil)) (aNil))))) (aNil)))) (sNil)) (sSeq (sAcc 2) (sSeq (L_leaf_fills_1) (sDis 2 (sRet (eVar 2)))))
def F_leaf_fills : List DV → M DV := runF 6 b_leaf_fills
abbrev s_packed : Stmt := top 17
def l_packed_1 : DSx := sSeq (sAug 2 addI (eC (.int 1))) (sSeq (sSet 3 (eCall 3 F_fork_fills (aCons (eVar 3) (aCons (eBin subD (eBlt lenG (aCons (eVar 4) (aNil))) (eBlt lenG (aCons (eVar 3) (aNil)))) (aCons (eBin addD (eVar 1) (eC (.int 1))) (aNil)))))) (sDrop (eMth "list" mExtend (eVar 4) (aCons (eCall 3 F_linked (aCons (eVar 2) (aCons (eVar 3) (aCons (eBlt lenG (aCons (eVar 4) (aNil))) (aNil))))) (aNil)))))
def L_packed_1 : DSx := whileD (eB (eBin gtD (eBlt lenG (aCons (eVar 3) (aNil))) (eC (.int 1)))) (l_packed_1) 100000
def b_packed : DSx := sSeq (sSet 2 (eC (.int 0))) (sSeq (sSet 3 (eCall 2 F_leaf_fills (aCons (eVar 0) (aCons (eVar 1) (aNil))))) (sSeq (sSet 4 (eCall 3 F_linked (aCons (eVar 2) (aCons (eVar 3) (aCons (eC (.int 0)) (aNil)))))) (sSeq (L_packed_1) (sRet (eCall 2 F_shelf_of (aCons (eVar 4) (aCons (eVar 1) (aNil))))))))
def F_packed : List DV → M DV := runF 5 b_packed
abbrev s_law_size : Stmt := top 28
def b_law_size : DSx := sSeq (sSet 2 (eBin modD (eCall 2 F_law_churn (aCons (eVar 0) (aCons (eC (.int 2)) (aNil)))) (eC (.int 4)))) (sSeq (sIf (eB (eBin eqD (eVar 2) (eC (.int 0)))) (sRet (eBin modD (eCall 2 F_law_churn (aCons (eVar 0) (aCons (eC (.int 3)) (aNil)))) (eC (.int 10)))) (sNil)) (sSeq (sIf (eB (eBin eqD (eVar 2) (eC (.int 1)))) (sRet (eBlt minF (aCons (eC (.int 240)) (aCons (eBin addD (eBin mulD (eBin mulD (eVar 1) (eBin addD (eVar 1) (eC (.int 1)))) (eBin addD (eC (.int 1)) (eBin modD (eCall 2 F_law_churn (aCons (eVar 0) (aCons (eC (.int 3)) (aNil)))) (eC (.int 3))))) (eBin mulD (eBin modD (eCall 2 F_law_churn (aCons (eVar 0) (aCons (eC (.int 4)) (aNil)))) (eC (.int 3))) (eVar 1))) (aNil))))) (sNil)) (sSeq (sIf (eB (eBin eqD (eVar 2) (eC (.int 2)))) (sRet (eBlt minF (aCons (eC (.int 240)) (aCons (eBin addD (eBin mulD (eBin mulD (eVar 1) (eBin addD (eVar 1) (eC (.int 1)))) (eBin addD (eVar 1) (eC (.int 1)))) (eBin modD (eCall 2 F_law_churn (aCons (eVar 0) (aCons (eC (.int 4)) (aNil)))) (eBin addD (eBin mulD (eC (.int 2)) (eVar 1)) (eC (.int 1))))) (aNil))))) (sNil)) (sRet (eBin modD (eCall 2 F_law_churn (aCons (eVar 0) (aCons (eC (.int 3)) (aNil)))) (eC (.int 200)))))))
def F_law_size : List DV → M DV := runF 3 b_law_size
abbrev s_law_table : Stmt := top 29
def l_law_table_1 : DSx := sSeq (sSet 6 (eBin addD (eCall 2 F_law_cell_at (aCons (eVar 0) (aCons (eBin modD (eVar 5) (eBlt maxF (aCons (eC (.int 1)) (aCons (eBlt lenF (aCons (eVar 0) (aNil))) (aNil))))) (aNil)))) (eVar 5))) (sSeq (sSet 7 (eBin subD (eBin modD (eCall 2 F_law_churn (aCons (eVar 6) (aCons (eC (.int 7)) (aNil)))) (eC (.int 9))) (eC (.int 4)))) (sSeq (sIf (eB (eBin eqD (eBin modD (eCall 2 F_law_churn (aCons (eVar 6) (aCons (eC (.int 8)) (aNil)))) (eC (.int 3))) (eC (.int 0)))) (sSet 7 (eBin subD (eBin modD (eBin addD (eBin mulD (eVar 6) (eC (.int 13))) (eBin powD (eC (.int 10)) (eC (.int 30)))) (eBin addD (eBin mulD (eC (.int 2)) (eBin powD (eC (.int 10)) (eC (.int 30)))) (eC (.int 1)))) (eBin powD (eC (.int 10)) (eC (.int 30))))) (sNil)) (sSeq (sApp 4 (eTup (aCons (eVar 2) (aCons (eVar 7) (aNil))))) (sSet 2 (eBin addD (eBin addD (eVar 2) (eC (.int 1))) (eBin mulD (eBin modD (eCall 2 F_law_churn (aCons (eVar 6) (aCons (eC (.int 9)) (aNil)))) (eBin ixD (eLst (aCons (eC (.int 1)) (aCons (eC (.int 3)) (aCons (eBin mulD (eC (.int 8)) (eBin powD (eC (.int 10)) (eC (.int 7)))) (aNil))))) (eVar 3))) (eBin ixD (eLst (aCons (eC (.int 1)) (aCons (eC (.int 1)) (aCons (eBin powD (eC (.int 10)) (eC (.int 19))) (aNil))))) (eVar 3))))))))
def L_law_table_1 : DSx := sFor (iRg1 (aCons (eVar 1) (aNil))) (gN 5) (l_law_table_1)
def b_law_table : DSx := sSeq (sSet 2 (eBin subD (eBin modD (eCall 2 F_law_churn (aCons (eCall 2 F_law_cell_at (aCons (eVar 0) (aCons (eC (.int 1)) (aNil)))) (aCons (eC (.int 5)) (aNil)))) (eC (.int 40))) (eC (.int 30)))) (sSeq (sSet 3 (eBin modD (eCall 2 F_law_churn (aCons (eCall 2 F_law_cell_at (aCons (eVar 0) (aCons (eC (.int 1)) (aNil)))) (aCons (eC (.int 6)) (aNil)))) (eC (.int 3)))) (sSeq (sIf (eB (eBin eqD (eVar 3) (eC (.int 2)))) (sSet 2 (eBin subD (eCall 2 F_law_churn (aCons (eCall 2 F_law_cell_at (aCons (eVar 0) (aCons (eC (.int 1)) (aNil)))) (aCons (eC (.int 5)) (aNil)))) (eBin powD (eC (.int 10)) (eC (.int 30))))) (sNil)) (sSeq (sAcc 4) (sSeq (L_law_table_1) (sDis 4 (sRet (eVar 4)))))))
def F_law_table : List DV → M DV := runF 8 b_law_table
abbrev s_law : Stmt := top 33
def l_law_1 : DSx := sSeq (sSet 9 (eMeth "Shelf" "read" 2 F_Shelf_read (eVar 4) (aCons (eVar 7) (aNil)))) (sIf (eOr (eB (eCall 2 F_is_full (aCons (eVar 9) (aCons (eVar 2) (aNil))))) (eAnd (eB (eBin eqG (eBin ixG (eVar 9) (eC (.int 1))) (eTup (aNil)))) (eB (eBin neG (eVar 3) (eLst (aNil)))))) (sRet (eC (.bl false))) (sNil))
def L_law_1 : DSx := sFor (iRg1 (aCons (eMeth "Shelf" "pages" 1 F_Shelf_pages (eVar 4) aNil) (aNil))) (gN 7) (l_law_1)
def l_law_2 : DSx := sSeq (sSet 8 (eCall 2 F_law_led (aCons (eVar 4) (aCons (eVar 6) (aNil))))) (sIf (eOr (eB (eBin isD (eVar 8) (eC .non))) (eB (eBin neG (eCall 2 F_worth_of (aCons (eVar 8) (aCons (eVar 6) (aNil)))) (eMth "dict" mDGet (eVar 5) (aCons (eVar 6) (aNil)))))) (sRet (eC (.bl false))) (sNil))
def L_law_2 : DSx := sForX (xLs (eCall 2 F_law_keys (aCons (eVar 0) (aCons (eVar 3) (aNil))))) (gN 6) (l_law_2)
def b_law : DSx := sSeq (sSet 1 (eCall 2 F_law_cell_at (aCons (eVar 0) (aCons (eC (.int 0)) (aNil))))) (sSeq (sSet 2 (eBin addD (eC (.int 2)) (eBin modD (eCall 2 F_law_churn (aCons (eVar 1) (aCons (eC (.int 1)) (aNil)))) (eC (.int 7))))) (sSeq (sSet 3 (eCall 2 F_law_table (aCons (eVar 0) (aCons (eCall 2 F_law_size (aCons (eVar 1) (aCons (eVar 2) (aNil)))) (aNil))))) (sSeq (sSet 4 (eCall 2 F_packed (aCons (eBlt lstF (aCons (eVar 3) (aNil))) (aCons (eVar 2) (aNil))))) (sSeq (sSet 5 (eBlt dicN (aCons (eVar 3) (aNil)))) (sSeq (L_law_2) (sSeq (L_law_1) (sRet (eBin eqG (eCall 1 F_law_leaves (aCons (eVar 4) (aNil))) (eVar 3)))))))))
def F_law : List DV → M DV := runF 10 b_law
section
variable {P : Program} {w : World} {K : PySem.W.Frag} {mg : Str → Option Value} {base : Heap} {g : Addr} {fd : FuncData}
theorem sc_Shelf_pages : FnScope ["self"] ["self"] (defScope s_Shelf_pages) := ⟨rfl, rfl, rfl, by decide +kernel, rfl, by decide +kernel, by decide +kernel⟩
theorem has_Shelf_pages {C : Addr} (F : Fun K "pages" "Shelf.pages" s_Shelf_pages g fd) (nc : ClsN K "Shelf" C) (cl : Cls K C) (me : Meth K C "pages" g) (z_len : mg "len" = none) (k_Shelf_kept : FldK K "Shelf" "kept") : HasM P w K mg base "Shelf" "pages" 1 1 F_Shelf_pages :=
  meth_has nc cl me F sc_Shelf_pages (fun _ _ _ _ _ _ us hl => match us, hl with | [_], _ => rfl) fun cdv A outer s H E hr => by
    have Sc := sc_Shelf_pages
    refine dss_one ?_; (refine ds_ret ?_; (refine de_blt c_lenG z_len PySem.boot_len ?_; (refine da_cons ?_ ?_; (refine de_fld k_Shelf_kept ?_; exact de_var 0); exact da_nil)))
theorem sc_Shelf_check_number : FnScope ["self", "number"] ["self", "number"] (defScope s_Shelf_check_number) := ⟨rfl, rfl, rfl, by decide +kernel, rfl, by decide +kernel, by decide +kernel⟩
theorem has_Shelf_check_number {C : Addr} (F : Fun K "check_number" "Shelf.check_number" s_Shelf_check_number g fd) (nc : ClsN K "Shelf" C) (cl : Cls K C) (me : Meth K C "check_number" g) (z_len : mg "len" = none) (k_Shelf_kept : FldK K "Shelf" "kept") : HasM P w K mg base "Shelf" "check_number" 1 2 F_Shelf_check_number :=
  meth_has nc cl me F sc_Shelf_check_number (fun _ _ _ _ _ _ us hl => match us, hl with | [_, _], _ => rfl) fun cdv A outer s H E hr => by
    have Sc := sc_Shelf_check_number
    refine dss_one ?_; (refine ds_if ?_ ?_ ?_; (refine dt_not ?_; (refine dt_chain p_le p_lt ?_ ?_ ?_; exact de_int; exact de_var 1; (refine de_blt c_lenG z_len PySem.boot_len ?_; (refine da_cons ?_ ?_; (refine de_fld k_Shelf_kept ?_; exact de_var 0); exact da_nil)))); (refine dss_one ?_; exact ds_fail); exact dss_nil)
theorem sc_Shelf_read : FnScope ["self", "number"] ["self", "number"] (defScope s_Shelf_read) := ⟨rfl, rfl, rfl, by decide +kernel, rfl, by decide +kernel, by decide +kernel⟩
theorem has_Shelf_read {C : Addr} (F : Fun K "read" "Shelf.read" s_Shelf_read g fd) (nc : ClsN K "Shelf" C) (cl : Cls K C) (me : Meth K C "read" g) (h_Shelf_check_number : HasM P w K mg base "Shelf" "check_number" 1 2 F_Shelf_check_number) (k_Shelf_kept : FldK K "Shelf" "kept") (k_Shelf_read_count : FldK K "Shelf" "read_count") : HasM P w K mg base "Shelf" "read" 2 2 F_Shelf_read :=
  meth_has nc cl me F sc_Shelf_read (fun _ _ _ _ _ _ us hl => match us, hl with | [_, _], _ => rfl) fun cdv A outer s H E hr => by
    have Sc := sc_Shelf_read
    refine dss_cons ?_ ?_; (refine ds_expr ?_; (refine de_meth h_Shelf_check_number hr (by decide) pass0 ?_ ?_; exact de_var 0; (refine da_cons ?_ ?_; exact de_var 1; exact da_nil))); (refine dss_cons ?_ ?_; (refine ds_fldadd k_Shelf_read_count ?_ ?_; exact de_var 0; exact de_int); (refine dss_one ?_; (refine ds_ret ?_; (refine de_ixG (hu_of hr) ?_ ?_; (refine de_fld k_Shelf_kept ?_; exact de_var 0); exact de_var 1))))
theorem sc_Shelf_root : FnScope ["self"] ["self"] (defScope s_Shelf_root) := ⟨rfl, rfl, rfl, by decide +kernel, rfl, by decide +kernel, by decide +kernel⟩
theorem has_Shelf_root {C : Addr} (F : Fun K "root" "Shelf.root" s_Shelf_root g fd) (nc : ClsN K "Shelf" C) (cl : Cls K C) (me : Meth K C "root" g) (k_Shelf_top : FldK K "Shelf" "top") : HasM P w K mg base "Shelf" "root" 1 1 F_Shelf_root :=
  meth_has nc cl me F sc_Shelf_root (fun _ _ _ _ _ _ us hl => match us, hl with | [_], _ => rfl) fun cdv A outer s H E hr => by
    have Sc := sc_Shelf_root
    refine dss_one ?_; (refine ds_ret ?_; (refine de_fld k_Shelf_top ?_; exact de_var 0))
theorem sc_law_leaves : FnScope ["shelf", "page", "pairs", "k", "key", "worth"] ["shelf"] (defScope s_law_leaves) := ⟨rfl, rfl, rfl, by decide +kernel, rfl, by decide +kernel, by decide +kernel⟩
theorem has_law_leaves (F : Fun K "_law_leaves" "_law_leaves" s_law_leaves g fd) (hm : mg "_law_leaves" = some (.ref g)) (h_Shelf_pages : HasM P w K mg base "Shelf" "pages" 1 1 F_Shelf_pages) (h_Shelf_read : HasM P w K mg base "Shelf" "read" 2 2 F_Shelf_read) (h_Shelf_root : HasM P w K mg base "Shelf" "root" 1 1 F_Shelf_root) (z_range : mg "range" = none) (z_zip : mg "zip" = none) : Has P w K mg base "_law_leaves" 3 1 F_law_leaves :=
  fn_has F sc_law_leaves hm (fun _ _ _ _ _ _ us hl => match us, hl with | [_], _ => rfl) fun cdv A outer s H E hr => by
    have Sc := sc_law_leaves
    refine dss_cons ?_ ?_; (refine ds_set 1 Sc.nd ?_; (refine de_meth h_Shelf_read hr (by decide) pass0 ?_ ?_; exact de_var 0; (refine da_cons ?_ ?_; (refine de_meth0 h_Shelf_root hr (by decide) pass0 ?_; exact de_var 0); exact da_nil))); (refine dss_cons ?_ ?_; (refine ds_while 100000 PassesOwn.never ?_ ?_; (refine dt_cmp p_gt ?_ ?_ (nomark _); (refine de_ixG (hu_of hr) ?_ ?_; exact de_var 1; exact de_int); exact de_int); (refine dss_one ?_; (refine ds_set 1 Sc.nd ?_; (refine de_meth h_Shelf_read hr (by decide) pass0 ?_ ?_; exact de_var 0; (refine da_cons ?_ ?_; (refine de_ixG (hu_of hr) ?_ ?_; (refine de_ixG (hu_of hr) ?_ ?_; exact de_var 1; exact de_int); exact de_int); exact da_nil))))); (refine dss_cons ?_ ?_; exact ds_acc 2 Sc.nd; (refine dss_cons ?_ ?_; (refine ds_for PassesOwn.never rfl ?_ ?_ ?_; (refine di_range1 rfl z_range ?_; (refine da_cons ?_ ?_; (refine de_meth0 h_Shelf_pages hr (by decide) pass0 ?_; exact de_var 0); exact da_nil)); exact dg_name 3 Sc.nd; (refine dss_cons ?_ ?_; (refine ds_for PassesOwn.never rfl ?_ ?_ ?_; (refine di_zip (by rfl) (by exact z_zip) ?_ ?_; (refine de_ixG (hu_of hr) ?_ ?_; exact de_var 1; exact de_int); (refine de_ixG (hu_of hr) ?_ ?_; exact de_var 1; exact de_int)); exact dg_tup [4, 5] Sc.nd (by repeat' (first | exact trivial | refine ⟨rfl, (by first | exact .inl rfl | exact .inr rfl), .inl rfl, ?_⟩)) rfl (fun _ _ _ => rfl); (refine dss_one ?_; (refine ds_app 2 ?_; (refine de_tup ?_; (refine da_cons ?_ ?_; exact de_var 4; (refine da_cons ?_ ?_; exact de_var 5; exact da_nil)))))); (refine dss_cons ?_ ?_; (refine ds_if ?_ ?_ ?_; (refine dt_cmp p_is ?_ ?_ (nomark _); (refine de_ixG (hu_of hr) ?_ ?_; exact de_var 1; exact de_int); exact de_non); (refine dss_one ?_; (refine ds_dis 2 ?_; (refine ds_ret ?_; exact de_var 2))); exact dss_nil); (refine dss_one ?_; (refine ds_set 1 Sc.nd ?_; (refine de_meth h_Shelf_read hr (by decide) pass0 ?_ ?_; exact de_var 0; (refine da_cons ?_ ?_; (refine de_ixG (hu_of hr) ?_ ?_; exact de_var 1; exact de_int); exact da_nil))))))); (refine dss_one ?_; (refine ds_ret ?_; exact de_non)))))
theorem sc_is_full : FnScope ["page", "room"] ["page", "room"] (defScope s_is_full) := ⟨rfl, rfl, rfl, by decide +kernel, rfl, by decide +kernel, by decide +kernel⟩
theorem has_is_full (F : Fun K "is_full" "is_full" s_is_full g fd) (hm : mg "is_full" = some (.ref g)) (z_len : mg "len" = none) {t_KEYS : Tok} (g_KEYS : mg "KEYS" = some (.int 1 t_KEYS)) : Has P w K mg base "is_full" 1 2 F_is_full :=
  fn_has F sc_is_full hm (fun _ _ _ _ _ _ us hl => match us, hl with | [_, _], _ => rfl) fun cdv A outer s H E hr => by
    have Sc := sc_is_full
    refine dss_one ?_; (refine ds_ret ?_; (refine de_cmp p_gt ?_ ?_ (nomark _); (refine de_blt c_len z_len PySem.boot_len ?_; (refine da_cons ?_ ?_; (refine de_ix ?_ ?_; exact de_var 0; exact de_gint rfl g_KEYS); exact da_nil)); exact de_var 1))
theorem sc_law_cell_at : FnScope ["script", "k"] ["script", "k"] (defScope s_law_cell_at) := ⟨rfl, rfl, rfl, by decide +kernel, rfl, by decide +kernel, by decide +kernel⟩
theorem has_law_cell_at (F : Fun K "_law_cell_at" "_law_cell_at" s_law_cell_at g fd) (hm : mg "_law_cell_at" = some (.ref g)) (z_len : mg "len" = none) : Has P w K mg base "_law_cell_at" 1 2 F_law_cell_at :=
  fn_has F sc_law_cell_at hm (fun _ _ _ _ _ _ us hl => match us, hl with | [_, _], _ => rfl) fun cdv A outer s H E hr => by
    have Sc := sc_law_cell_at
    refine dss_cons ?_ ?_; (refine ds_if ?_ ?_ ?_; (refine dt_cmp p_lt ?_ ?_ (nomark _); exact de_var 1; (refine de_blt c_len z_len PySem.boot_len ?_; (refine da_cons ?_ ?_; exact de_var 0; exact da_nil))); (refine dss_one ?_; (refine ds_ret ?_; (refine de_ix ?_ ?_; exact de_var 0; exact de_var 1))); exact dss_nil); (refine dss_one ?_; (refine ds_ret ?_; exact de_int))
theorem sc_law_churn : FnScope ["cell", "turn", "number"] ["cell", "turn"] (defScope s_law_churn) := ⟨rfl, rfl, rfl, by decide +kernel, rfl, by decide +kernel, by decide +kernel⟩
theorem has_law_churn (F : Fun K "_law_churn" "_law_churn" s_law_churn g fd) (hm : mg "_law_churn" = some (.ref g)) : Has P w K mg base "_law_churn" 1 2 F_law_churn :=
  fn_has F sc_law_churn hm (fun _ _ _ _ _ _ us hl => match us, hl with | [_, _], _ => rfl) fun cdv A outer s H E hr => by
    have Sc := sc_law_churn
    refine dss_cons ?_ ?_; (refine ds_set 2 Sc.nd ?_; (refine de_bin p_add ?_ ?_; (refine de_bin p_add ?_ ?_; (refine de_bin p_add ?_ ?_; (refine de_bin p_mod ?_ ?_; exact de_var 0; exact de_int); (refine de_bin p_mul ?_ ?_; exact de_var 1; exact de_var 1)); (refine de_bin p_mul ?_ ?_; exact de_int; exact de_var 1)); exact de_int)); (refine dss_one ?_; (refine ds_ret ?_; (refine de_bin p_div ?_ ?_; (refine de_bin p_mod ?_ ?_; (refine de_bin p_mul ?_ ?_; (refine de_bin p_mod ?_ ?_; (refine de_bin p_mul ?_ ?_; exact de_var 2; exact de_var 2); exact de_int); (refine de_bin p_add ?_ ?_; exact de_var 2; (refine de_bin p_mul ?_ ?_; exact de_int; exact de_var 1))); exact de_int); exact de_int)))
theorem sc_law_keys : FnScope ["script", "table", "some", "found", "key", "worth"] ["script", "table"] (defScope s_law_keys) := ⟨rfl, rfl, rfl, by decide +kernel, rfl, by decide +kernel, by decide +kernel⟩
theorem has_law_keys (F : Fun K "_law_keys" "_law_keys" s_law_keys g fd) (hm : mg "_law_keys" = some (.ref g)) (h_law_cell_at : Has P w K mg base "_law_cell_at" 1 2 F_law_cell_at) (h_law_churn : Has P w K mg base "_law_churn" 1 2 F_law_churn) (z_len : mg "len" = none) (z_range : mg "range" = none) : Has P w K mg base "_law_keys" 2 2 F_law_keys :=
  fn_has F sc_law_keys hm (fun _ _ _ _ _ _ us hl => match us, hl with | [_, _], _ => rfl) fun cdv A outer s H E hr => by
    have Sc := sc_law_keys
    refine dss_cons ?_ ?_; (refine ds_set 2 Sc.nd ?_; exact de_var 1); (refine dss_cons ?_ ?_; (refine ds_if ?_ ?_ ?_; (refine dt_cmp p_gt ?_ ?_ (nomark _); (refine de_blt c_len z_len PySem.boot_len ?_; (refine da_cons ?_ ?_; exact de_var 1; exact da_nil)); exact de_int); (refine dss_one ?_; (refine ds_comp 2 Sc.nd (caps := ["table", "script"]) (idx := [1, 0]) ⟨by with_unfolding_all rfl, by decide +kernel, rfl, by decide +kernel, rfl, (by exact ⟨rfl, ⟨rfl, trivial⟩⟩), by with_unfolding_all rfl, (by exact ⟨rfl, .inl rfl, ⟨_, rfl⟩, (fun h => NameKind.noConfusion (Option.some.inj (show some NameKind.cell = some NameKind.local from h))), ⟨rfl, .inl rfl, ⟨_, rfl⟩, (fun h => NameKind.noConfusion (Option.some.inj (show some NameKind.cell = some NameKind.local from h))), trivial⟩⟩), by decide⟩ rfl ?_ ?_ ?_; (refine di_range1 rfl z_range ?_; (refine da_cons ?_ ?_; exact de_int; exact da_nil)); (exact fun _ _ _ _ => by exact dts_nil); (exact fun _ _ _ _ => by refine de_ix ?_ ?_; exact de_var 1; (refine de_bin p_mod ?_ ?_; (refine de_call h_law_churn hr (by decide) pass0 ?_; (refine da_cons ?_ ?_; (refine de_bin p_add ?_ ?_; (refine de_call h_law_cell_at hr (by decide) pass0 ?_; (refine da_cons ?_ ?_; exact de_var 2; (refine da_cons ?_ ?_; exact de_var 0; exact da_nil))); exact de_var 0); (refine da_cons ?_ ?_; exact de_int; exact da_nil))); (refine de_blt c_len z_len PySem.boot_len ?_; (refine da_cons ?_ ?_; exact de_var 1; exact da_nil)))))); exact dss_nil); (refine dss_cons ?_ ?_; (refine ds_set 3 Sc.nd ?_; (refine de_lst ?_; (refine da_cons ?_ ?_; (refine de_neg ?_; (refine de_bin p_pow ?_ ?_; exact de_int; exact de_int)); (refine da_cons ?_ ?_; (refine de_bin p_pow ?_ ?_; exact de_int; exact de_int); exact da_nil)))); (refine dss_cons ?_ ?_; (refine ds_for PassesOwn.never rfl ?_ ?_ ?_; (refine di_list ?_; exact de_var 2); exact dg_tup [4, 5] Sc.nd (by repeat' (first | exact trivial | refine ⟨rfl, (by first | exact .inl rfl | exact .inr rfl), .inl rfl, ?_⟩)) rfl (fun _ _ _ => rfl); (refine dss_one ?_; (refine ds_set 3 Sc.nd ?_; (refine de_bin p_add ?_ ?_; exact de_var 3; (refine de_comp (caps := []) (idx := []) ⟨by with_unfolding_all rfl, by decide +kernel, rfl, by decide +kernel, rfl, (by exact trivial), by with_unfolding_all rfl, (by exact trivial), by decide⟩ rfl ?_ ?_ ?_; (refine di_list ?_; (refine de_lst ?_; (refine da_cons ?_ ?_; (refine de_bin p_sub ?_ ?_; exact de_var 4; exact de_int); (refine da_cons ?_ ?_; exact de_var 4; (refine da_cons ?_ ?_; (refine de_bin p_add ?_ ?_; exact de_var 4; exact de_int); exact da_nil))))); (exact fun _ _ _ _ => by refine dts_one ?_; (refine dt_chain p_le p_le ?_ ?_ ?_; (refine de_neg ?_; (refine de_bin p_pow ?_ ?_; exact de_int; exact de_int)); exact de_var 0; (refine de_bin p_pow ?_ ?_; exact de_int; exact de_int))); (exact fun _ _ _ _ => by exact de_var 0)))))); (refine dss_one ?_; (refine ds_ret ?_; exact de_var 3)))))
theorem sc_count_not_above : FnScope ["keys", "key"] ["keys", "key"] (defScope s_count_not_above) := ⟨rfl, rfl, rfl, by decide +kernel, rfl, by decide +kernel, by decide +kernel⟩
theorem has_count_not_above (F : Fun K "count_not_above" "count_not_above" s_count_not_above g fd) (hm : mg "count_not_above" = some (.ref g)) (z_len : mg "len" = none) : Has P w K mg base "count_not_above" 1 2 F_count_not_above :=
  fn_has F sc_count_not_above hm (fun _ _ _ _ _ _ us hl => match us, hl with | [_, _], _ => rfl) fun cdv A outer s H E hr => by
    have Sc := sc_count_not_above
    refine dss_one ?_; (refine ds_ret ?_; (refine de_blt c_len z_len PySem.boot_len ?_; (refine da_cons ?_ ?_; (refine de_comp (caps := ["key"]) (idx := [1]) ⟨by with_unfolding_all rfl, by decide +kernel, rfl, by decide +kernel, rfl, (by exact ⟨rfl, trivial⟩), by with_unfolding_all rfl, (by exact ⟨rfl, .inl rfl, ⟨_, rfl⟩, (fun h => NameKind.noConfusion (Option.some.inj (show some NameKind.cell = some NameKind.local from h))), trivial⟩), by decide⟩ rfl ?_ ?_ ?_; (refine di_tup ?_; exact de_var 0); (exact fun _ _ _ _ => by refine dts_one ?_; (refine dt_cmp p_le ?_ ?_ (nomark _); exact de_var 0; exact de_var 1)); (exact fun _ _ _ _ => by exact de_var 0)); exact da_nil)))
theorem sc_count_below : FnScope ["keys", "key"] ["keys", "key"] (defScope s_count_below) := ⟨rfl, rfl, rfl, by decide +kernel, rfl, by decide +kernel, by decide +kernel⟩
theorem has_count_below (F : Fun K "count_below" "count_below" s_count_below g fd) (hm : mg "count_below" = some (.ref g)) (z_len : mg "len" = none) : Has P w K mg base "count_below" 1 2 F_count_below :=
  fn_has F sc_count_below hm (fun _ _ _ _ _ _ us hl => match us, hl with | [_, _], _ => rfl) fun cdv A outer s H E hr => by
    have Sc := sc_count_below
    refine dss_one ?_; (refine ds_ret ?_; (refine de_blt c_len z_len PySem.boot_len ?_; (refine da_cons ?_ ?_; (refine de_comp (caps := ["key"]) (idx := [1]) ⟨by with_unfolding_all rfl, by decide +kernel, rfl, by decide +kernel, rfl, (by exact ⟨rfl, trivial⟩), by with_unfolding_all rfl, (by exact ⟨rfl, .inl rfl, ⟨_, rfl⟩, (fun h => NameKind.noConfusion (Option.some.inj (show some NameKind.cell = some NameKind.local from h))), trivial⟩), by decide⟩ rfl ?_ ?_ ?_; (refine di_tup ?_; exact de_var 0); (exact fun _ _ _ _ => by refine dts_one ?_; (refine dt_cmp p_lt ?_ ?_ (nomark _); exact de_var 0; exact de_var 1)); (exact fun _ _ _ _ => by exact de_var 0)); exact da_nil)))
theorem sc_worth_of : FnScope ["page", "key", "keys", "place"] ["page", "key"] (defScope s_worth_of) := ⟨rfl, rfl, rfl, by decide +kernel, rfl, by decide +kernel, by decide +kernel⟩
theorem has_worth_of (F : Fun K "worth_of" "worth_of" s_worth_of g fd) (hm : mg "worth_of" = some (.ref g)) (h_count_not_above : Has P w K mg base "count_not_above" 1 2 F_count_not_above) (h_count_below : Has P w K mg base "count_below" 1 2 F_count_below) {t_PARTS : Tok} (g_PARTS : mg "PARTS" = some (.int 2 t_PARTS)) {t_KEYS : Tok} (g_KEYS : mg "KEYS" = some (.int 1 t_KEYS)) : Has P w K mg base "worth_of" 2 2 F_worth_of :=
  fn_has F sc_worth_of hm (fun _ _ _ _ _ _ us hl => match us, hl with | [_, _], _ => rfl) fun cdv A outer s H E hr => by
    have Sc := sc_worth_of
    refine dss_cons ?_ ?_; (refine ds_set 2 Sc.nd ?_; (refine de_ix ?_ ?_; exact de_var 0; exact de_gint rfl g_KEYS)); (refine dss_cons ?_ ?_; (refine ds_set 3 Sc.nd ?_; (refine de_call h_count_below hr (by decide) pass0 ?_; (refine da_cons ?_ ?_; exact de_var 2; (refine da_cons ?_ ?_; exact de_var 1; exact da_nil)))); (refine dss_cons ?_ ?_; (refine ds_if ?_ ?_ ?_; (refine dt_cmp (p_eq hr.units) ?_ ?_ (nomark _); exact de_var 3; (refine de_call h_count_not_above hr (by decide) pass0 ?_; (refine da_cons ?_ ?_; exact de_var 2; (refine da_cons ?_ ?_; exact de_var 1; exact da_nil)))); (refine dss_one ?_; (refine ds_ret ?_; exact de_non)); exact dss_nil); (refine dss_one ?_; (refine ds_ret ?_; (refine de_ix ?_ ?_; (refine de_ix ?_ ?_; exact de_var 0; exact de_gint rfl g_PARTS); exact de_var 3)))))
theorem sc_kid_for : FnScope ["page", "key"] ["page", "key"] (defScope s_kid_for) := ⟨rfl, rfl, rfl, by decide +kernel, rfl, by decide +kernel, by decide +kernel⟩
theorem has_kid_for (F : Fun K "kid_for" "kid_for" s_kid_for g fd) (hm : mg "kid_for" = some (.ref g)) (h_count_not_above : Has P w K mg base "count_not_above" 1 2 F_count_not_above) {t_PARTS : Tok} (g_PARTS : mg "PARTS" = some (.int 2 t_PARTS)) {t_KEYS : Tok} (g_KEYS : mg "KEYS" = some (.int 1 t_KEYS)) : Has P w K mg base "kid_for" 2 2 F_kid_for :=
  fn_has F sc_kid_for hm (fun _ _ _ _ _ _ us hl => match us, hl with | [_, _], _ => rfl) fun cdv A outer s H E hr => by
    have Sc := sc_kid_for
    refine dss_one ?_; (refine ds_ret ?_; (refine de_ix ?_ ?_; (refine de_ix ?_ ?_; exact de_var 0; exact de_gint rfl g_PARTS); (refine de_call h_count_not_above hr (by decide) pass0 ?_; (refine da_cons ?_ ?_; (refine de_ix ?_ ?_; exact de_var 0; exact de_gint rfl g_KEYS); (refine da_cons ?_ ?_; exact de_var 1; exact da_nil)))))
theorem sc_beyond : FnScope ["page", "key", "high"] ["page", "key"] (defScope s_beyond) := ⟨rfl, rfl, rfl, by decide +kernel, rfl, by decide +kernel, by decide +kernel⟩
theorem has_beyond (F : Fun K "beyond" "beyond" s_beyond g fd) (hm : mg "beyond" = some (.ref g)) {t_HIGH : Tok} (g_HIGH : mg "HIGH" = some (.int 3 t_HIGH)) : Has P w K mg base "beyond" 1 2 F_beyond :=
  fn_has F sc_beyond hm (fun _ _ _ _ _ _ us hl => match us, hl with | [_, _], _ => rfl) fun cdv A outer s H E hr => by
    have Sc := sc_beyond
    refine dss_cons ?_ ?_; (refine ds_set 2 Sc.nd ?_; (refine de_ix ?_ ?_; exact de_var 0; exact de_gint rfl g_HIGH)); (refine dss_one ?_; (refine ds_ret ?_; (refine de_and ?_ ?_; (refine de_cmp p_isn ?_ ?_ (nomark _); exact de_var 2; exact de_non); (refine de_one ?_; (refine de_cmp p_ge ?_ ?_ (nomark _); exact de_var 1; exact de_var 2)))))
theorem sc_law_led : FnScope ["shelf", "key", "page", "k", "below"] ["shelf", "key"] (defScope s_law_led) := ⟨rfl, rfl, rfl, by decide +kernel, rfl, by decide +kernel, by decide +kernel⟩
theorem has_law_led (F : Fun K "_law_led" "_law_led" s_law_led g fd) (hm : mg "_law_led" = some (.ref g)) (h_Shelf_read : HasM P w K mg base "Shelf" "read" 2 2 F_Shelf_read) (h_kid_for : Has P w K mg base "kid_for" 2 2 F_kid_for) (h_beyond : Has P w K mg base "beyond" 1 2 F_beyond) (h_Shelf_root : HasM P w K mg base "Shelf" "root" 1 1 F_Shelf_root) (z_range : mg "range" = none) : Has P w K mg base "_law_led" 3 2 F_law_led :=
  fn_has F sc_law_led hm (fun _ _ _ _ _ _ us hl => match us, hl with | [_, _], _ => rfl) fun cdv A outer s H E hr => by
    have Sc := sc_law_led
    refine dss_cons ?_ ?_; (refine ds_set 2 Sc.nd ?_; (refine de_meth h_Shelf_read hr (by decide) pass0 ?_ ?_; exact de_var 0; (refine da_cons ?_ ?_; (refine de_meth0 h_Shelf_root hr (by decide) pass0 ?_; exact de_var 0); exact da_nil))); (refine dss_cons ?_ ?_; (refine ds_for PassesOwn.never rfl ?_ ?_ ?_; (refine di_range1 rfl z_range ?_; (refine da_cons ?_ ?_; exact de_int; exact da_nil)); exact dg_name 3 Sc.nd; (refine dss_cons ?_ ?_; (refine ds_if ?_ ?_ ?_; (refine dt_of ?_; (refine de_call h_beyond hr (by decide) pass0 ?_; (refine da_cons ?_ ?_; exact de_var 2; (refine da_cons ?_ ?_; exact de_var 1; exact da_nil)))); (refine dss_one ?_; (refine ds_ret ?_; exact de_non)); exact dss_nil); (refine dss_cons ?_ ?_; (refine ds_if ?_ ?_ ?_; (refine dt_cmp (p_eqG hr.units) ?_ ?_ (nomark _); (refine de_ixG (hu_of hr) ?_ ?_; exact de_var 2; exact de_int); exact de_int); (refine dss_one ?_; (refine ds_ret ?_; exact de_var 2)); exact dss_nil); (refine dss_cons ?_ ?_; (refine ds_set 4 Sc.nd ?_; (refine de_meth h_Shelf_read hr (by decide) pass0 ?_ ?_; exact de_var 0; (refine da_cons ?_ ?_; (refine de_call h_kid_for hr (by decide) pass0 ?_; (refine da_cons ?_ ?_; exact de_var 2; (refine da_cons ?_ ?_; exact de_var 1; exact da_nil))); exact da_nil))); (refine dss_cons ?_ ?_; (refine ds_if ?_ ?_ ?_; (refine dt_cmp (p_neG hr.units) ?_ ?_ (nomark _); (refine de_ixG (hu_of hr) ?_ ?_; exact de_var 4; exact de_int); (refine de_bin p_sub ?_ ?_; (refine de_ixG (hu_of hr) ?_ ?_; exact de_var 2; exact de_int); exact de_int)); (refine dss_one ?_; (refine ds_ret ?_; exact de_non)); exact dss_nil); (refine dss_one ?_; (refine ds_set 2 Sc.nd ?_; exact de_var 4))))))); (refine dss_one ?_; (refine ds_ret ?_; exact de_non)))
theorem sc_Shelf_make_root : FnScope ["self", "number"] ["self", "number"] (defScope s_Shelf_make_root) := ⟨rfl, rfl, rfl, by decide +kernel, rfl, by decide +kernel, by decide +kernel⟩
theorem has_Shelf_make_root {C : Addr} (F : Fun K "make_root" "Shelf.make_root" s_Shelf_make_root g fd) (nc : ClsN K "Shelf" C) (cl : Cls K C) (me : Meth K C "make_root" g) (h_Shelf_check_number : HasM P w K mg base "Shelf" "check_number" 1 2 F_Shelf_check_number) (k_Shelf_top : FldK K "Shelf" "top") : HasM P w K mg base "Shelf" "make_root" 2 2 F_Shelf_make_root :=
  meth_has nc cl me F sc_Shelf_make_root (fun _ _ _ _ _ _ us hl => match us, hl with | [_, _], _ => rfl) fun cdv A outer s H E hr => by
    have Sc := sc_Shelf_make_root
    refine dss_cons ?_ ?_; (refine ds_expr ?_; (refine de_meth h_Shelf_check_number hr (by decide) pass0 ?_ ?_; exact de_var 0; (refine da_cons ?_ ?_; exact de_var 1; exact da_nil))); (refine dss_one ?_; (refine ds_fld k_Shelf_top ?_ ?_; exact de_var 0; exact de_var 1))
theorem sc_Shelf_lay : FnScope ["self", "page"] ["self", "page"] (defScope s_Shelf_lay) := ⟨rfl, rfl, rfl, by decide +kernel, rfl, by decide +kernel, by decide +kernel⟩
theorem has_Shelf_lay {C : Addr} (F : Fun K "lay" "Shelf.lay" s_Shelf_lay g fd) (nc : ClsN K "Shelf" C) (cl : Cls K C) (me : Meth K C "lay" g) (z_len : mg "len" = none) (k_Shelf_kept : FldK K "Shelf" "kept") (k_Shelf_write_count : FldK K "Shelf" "write_count") : HasM P w K mg base "Shelf" "lay" 1 2 F_Shelf_lay :=
  meth_has nc cl me F sc_Shelf_lay (fun _ _ _ _ _ _ us hl => match us, hl with | [_, _], _ => rfl) fun cdv A outer s H E hr => by
    have Sc := sc_Shelf_lay
    refine dss_cons ?_ ?_; (refine ds_fldadd k_Shelf_write_count ?_ ?_; exact de_var 0; exact de_int); (refine dss_cons ?_ ?_; (refine ds_expr ?_; (refine de_mth m_append PySem.F.plainAttrs_list PySem.F.slot_list_append PySem.F.type_list_append ?_ ?_; (refine de_fld k_Shelf_kept ?_; exact de_var 0); (refine da_cons ?_ ?_; exact de_var 1; exact da_nil))); (refine dss_one ?_; (refine ds_ret ?_; (refine de_bin p_sub ?_ ?_; (refine de_blt c_lenG z_len PySem.boot_len ?_; (refine da_cons ?_ ?_; (refine de_fld k_Shelf_kept ?_; exact de_var 0); exact da_nil)); exact de_int))))
theorem sc_Shelf_write : FnScope ["self", "number", "page"] ["self", "number", "page"] (defScope s_Shelf_write) := ⟨rfl, rfl, rfl, by decide +kernel, rfl, by decide +kernel, by decide +kernel⟩
theorem has_Shelf_write {C : Addr} (F : Fun K "write" "Shelf.write" s_Shelf_write g fd) (nc : ClsN K "Shelf" C) (cl : Cls K C) (me : Meth K C "write" g) (h_Shelf_check_number : HasM P w K mg base "Shelf" "check_number" 1 2 F_Shelf_check_number) (k_Shelf_kept : FldK K "Shelf" "kept") (k_Shelf_write_count : FldK K "Shelf" "write_count") : HasM P w K mg base "Shelf" "write" 2 3 F_Shelf_write :=
  meth_has nc cl me F sc_Shelf_write (fun _ _ _ _ _ _ us hl => match us, hl with | [_, _, _], _ => rfl) fun cdv A outer s H E hr => by
    have Sc := sc_Shelf_write
    refine dss_cons ?_ ?_; (refine ds_expr ?_; (refine de_meth h_Shelf_check_number hr (by decide) pass0 ?_ ?_; exact de_var 0; (refine da_cons ?_ ?_; exact de_var 1; exact da_nil))); (refine dss_cons ?_ ?_; (refine ds_fldadd k_Shelf_write_count ?_ ?_; exact de_var 0; exact de_int); (refine dss_one ?_; (refine ds_asg ?_ ?_; exact de_var 2; (refine dg_sub (hu_of hr) ?_ ?_; (refine de_fld k_Shelf_kept ?_; exact de_var 0); exact de_var 1))))
theorem sc_Shelf___init__ : FnScope ["self", "room"] ["self", "room"] (defScope s_Shelf___init__) := ⟨rfl, rfl, rfl, by decide +kernel, rfl, by decide +kernel, by decide +kernel⟩
theorem has_Shelf___init__ {C : Addr} (F : Fun K "__init__" "Shelf.__init__" s_Shelf___init__ g fd) (nc : ClsN K "Shelf" C) (hm : mg "Shelf" = some (.ref C)) (me : Mk K C g) {a_EMPTY_LEAF : Addr} (g_EMPTY_LEAF : mg "EMPTY_LEAF" = some (.ref a_EMPTY_LEAF)) (q_EMPTY_LEAF : KRep K (.tup [.int 0, .tup [], .tup [], .non, .non]) (.ref a_EMPTY_LEAF)) (k_Shelf_write_count : FldK K "Shelf" "write_count") (k_Shelf_read_count : FldK K "Shelf" "read_count") (k_Shelf_top : FldK K "Shelf" "top") (k_Shelf_kept : FldK K "Shelf" "kept") (k_Shelf_page_room : FldK K "Shelf" "page_room") : HasI P w K mg base "Shelf" 1 2 F_Shelf___init__ :=
  init_has nc hm me F sc_Shelf___init__ (fun _ _ _ _ _ _ us hl => match us, hl with | [_, _], _ => rfl) fun cdv A outer s H E hr => by
    have Sc := sc_Shelf___init__
    refine dss_cons ?_ ?_; (refine ds_fld k_Shelf_page_room ?_ ?_; exact de_var 0; exact de_var 1); (refine dss_cons ?_ ?_; (refine ds_fld k_Shelf_kept ?_ ?_; exact de_var 0; (refine de_newL ?_; (refine da_cons ?_ ?_; exact de_gtup rfl g_EMPTY_LEAF q_EMPTY_LEAF; exact da_nil))); (refine dss_cons ?_ ?_; (refine ds_fld k_Shelf_top ?_ ?_; exact de_var 0; exact de_int); (refine dss_cons ?_ ?_; (refine ds_fld k_Shelf_read_count ?_ ?_; exact de_var 0; exact de_int); (refine dss_one ?_; (refine ds_fld k_Shelf_write_count ?_ ?_; exact de_var 0; exact de_int)))))
theorem sc_shelf_of : FnScope ["pages", "room", "shelf", "page"] ["pages", "room"] (defScope s_shelf_of) := ⟨rfl, rfl, rfl, by decide +kernel, rfl, by decide +kernel, by decide +kernel⟩
theorem has_shelf_of (F : Fun K "shelf_of" "shelf_of" s_shelf_of g fd) (hm : mg "shelf_of" = some (.ref g)) (h_Shelf_make_root : HasM P w K mg base "Shelf" "make_root" 2 2 F_Shelf_make_root) (h_Shelf_lay : HasM P w K mg base "Shelf" "lay" 1 2 F_Shelf_lay) (h_Shelf_write : HasM P w K mg base "Shelf" "write" 2 3 F_Shelf_write) (h_Shelf___init__ : HasI P w K mg base "Shelf" 1 2 F_Shelf___init__) (z_len : mg "len" = none) : Has P w K mg base "shelf_of" 3 2 F_shelf_of :=
  fn_has F sc_shelf_of hm (fun _ _ _ _ _ _ us hl => match us, hl with | [_, _], _ => rfl) fun cdv A outer s H E hr => by
    have Sc := sc_shelf_of
    refine dss_cons ?_ ?_; (refine ds_set 2 Sc.nd ?_; (refine de_make h_Shelf___init__ hr (by decide) pass0 ?_; (refine da_cons ?_ ?_; exact de_var 1; exact da_nil))); (refine dss_cons ?_ ?_; (refine ds_expr ?_; (refine de_meth h_Shelf_write hr (by decide) pass0 ?_ ?_; exact de_var 2; (refine da_cons ?_ ?_; exact de_int; (refine da_cons ?_ ?_; (refine de_ixG (hu_of hr) ?_ ?_; exact de_var 0; exact de_int); exact da_nil)))); (refine dss_cons ?_ ?_; (refine ds_forX PassesOwn.never rfl ?_ ?_ ?_; (refine dx_list ?_; (refine de_slG ?_ ?_ ?_; exact de_var 0; (refine do_some ?_; exact de_int); exact do_none)); exact dg_name 3 Sc.nd; (refine dss_one ?_; (refine ds_expr ?_; (refine de_meth h_Shelf_lay hr (by decide) pass0 ?_ ?_; exact de_var 2; (refine da_cons ?_ ?_; exact de_var 3; exact da_nil))))); (refine dss_cons ?_ ?_; (refine ds_expr ?_; (refine de_meth h_Shelf_make_root hr (by decide) pass0 ?_ ?_; exact de_var 2; (refine da_cons ?_ ?_; (refine de_bin p_sub ?_ ?_; (refine de_blt c_lenG z_len PySem.boot_len ?_; (refine da_cons ?_ ?_; exact de_var 0; exact da_nil)); exact de_int); exact da_nil))); (refine dss_one ?_; (refine ds_ret ?_; exact de_var 2)))))
theorem sc_linked : FnScope ["level", "fills", "first", "pages", "place", "behind", "is_last", "high", "side"] ["level", "fills", "first"] (defScope s_linked) := ⟨rfl, rfl, rfl, by decide +kernel, rfl, by decide +kernel, by decide +kernel⟩
theorem has_linked (F : Fun K "linked" "linked" s_linked g fd) (hm : mg "linked" = some (.ref g)) (z_len : mg "len" = none) (z_range : mg "range" = none) : Has P w K mg base "linked" 1 3 F_linked :=
  fn_has F sc_linked hm (fun _ _ _ _ _ _ us hl => match us, hl with | [_, _, _], _ => rfl) fun cdv A outer s H E hr => by
    have Sc := sc_linked
    refine dss_cons ?_ ?_; (refine ds_set 3 Sc.nd ?_; (refine de_newL ?_; exact da_nil)); (refine dss_cons ?_ ?_; (refine ds_for PassesOwn.never rfl ?_ ?_ ?_; (refine di_range1 rfl z_range ?_; (refine da_cons ?_ ?_; (refine de_blt c_lenG z_len PySem.boot_len ?_; (refine da_cons ?_ ?_; exact de_var 1; exact da_nil)); exact da_nil)); exact dg_name 4 Sc.nd; (refine dss_cons ?_ ?_; (refine ds_set 5 Sc.nd ?_; (refine de_bin p_add ?_ ?_; exact de_var 4; exact de_int)); (refine dss_cons ?_ ?_; (refine ds_set 6 Sc.nd ?_; (refine de_cmp (p_eqG hr.units) ?_ ?_ (nomark _); exact de_var 5; (refine de_blt c_lenG z_len PySem.boot_len ?_; (refine da_cons ?_ ?_; exact de_var 1; exact da_nil)))); (refine dss_cons ?_ ?_; (refine ds_set 7 Sc.nd ?_; (refine de_if ?_ ?_ ?_; (refine dt_of ?_; exact de_var 6); exact de_non; (refine de_ixG (hu_of hr) ?_ ?_; (refine de_ixG (hu_of hr) ?_ ?_; exact de_var 1; exact de_var 5); exact de_int))); (refine dss_cons ?_ ?_; (refine ds_set 8 Sc.nd ?_; (refine de_if ?_ ?_ ?_; (refine dt_of ?_; exact de_var 6); exact de_non; (refine de_bin p_add ?_ ?_; exact de_var 2; exact de_var 5))); (refine dss_one ?_; (refine ds_expr ?_; (refine de_mth m_append PySem.F.plainAttrs_list PySem.F.slot_list_append PySem.F.type_list_append ?_ ?_; exact de_var 3; (refine da_cons ?_ ?_; (refine de_tup ?_; (refine da_cons ?_ ?_; exact de_var 0; (refine da_cons ?_ ?_; (refine de_ixG (hu_of hr) ?_ ?_; (refine de_ixG (hu_of hr) ?_ ?_; exact de_var 1; exact de_var 4); exact de_int); (refine da_cons ?_ ?_; (refine de_ixG (hu_of hr) ?_ ?_; (refine de_ixG (hu_of hr) ?_ ?_; exact de_var 1; exact de_var 4); exact de_int); (refine da_cons ?_ ?_; exact de_var 7; (refine da_cons ?_ ?_; exact de_var 8; exact da_nil)))))); exact da_nil))))))))); (refine dss_one ?_; (refine ds_ret ?_; exact de_var 3)))
theorem sc_kid_counts : FnScope ["kids", "most", "counts", "rest"] ["kids", "most"] (defScope s_kid_counts) := ⟨rfl, rfl, rfl, by decide +kernel, rfl, by decide +kernel, by decide +kernel⟩
theorem has_kid_counts (F : Fun K "kid_counts" "kid_counts" s_kid_counts g fd) (hm : mg "kid_counts" = some (.ref g)) : Has P w K mg base "kid_counts" 1 2 F_kid_counts :=
  fn_has F sc_kid_counts hm (fun _ _ _ _ _ _ us hl => match us, hl with | [_, _], _ => rfl) fun cdv A outer s H E hr => by
    have Sc := sc_kid_counts
    refine dss_cons ?_ ?_; (refine ds_set 2 Sc.nd ?_; (refine de_bin p_mulL ?_ ?_; (refine de_lst ?_; (refine da_cons ?_ ?_; exact de_var 1; exact da_nil)); (refine de_bin p_div ?_ ?_; exact de_var 0; exact de_var 1))); (refine dss_cons ?_ ?_; (refine ds_set 3 Sc.nd ?_; (refine de_bin p_mod ?_ ?_; exact de_var 0; exact de_var 1)); (refine dss_cons ?_ ?_; (refine ds_if ?_ ?_ ?_; (refine dt_cmp (p_eq hr.units) ?_ ?_ (nomark _); exact de_var 3; exact de_int); (refine dss_one ?_; (refine ds_ret ?_; (refine de_bin p_add ?_ ?_; (refine de_sl ?_ ?_ ?_; exact de_var 2; exact do_none; (refine do_some ?_; (refine de_neg ?_; exact de_int))); (refine de_lst ?_; (refine da_cons ?_ ?_; (refine de_bin p_sub ?_ ?_; exact de_var 1; exact de_int); (refine da_cons ?_ ?_; exact de_int; exact da_nil)))))); exact dss_nil); (refine dss_one ?_; (refine ds_ret ?_; (refine de_if ?_ ?_ ?_; (refine dt_cmp p_gt ?_ ?_ (nomark _); exact de_var 3; exact de_int); (refine de_bin p_add ?_ ?_; exact de_var 2; (refine de_lst ?_; (refine da_cons ?_ ?_; exact de_var 3; exact da_nil))); exact de_var 2)))))
theorem sc_fork_fills : FnScope ["kids", "first", "most", "fills", "start", "count", "stop", "begins"] ["kids", "first", "most"] (defScope s_fork_fills) := ⟨rfl, rfl, rfl, by decide +kernel, rfl, by decide +kernel, by decide +kernel⟩
theorem has_fork_fills (F : Fun K "fork_fills" "fork_fills" s_fork_fills g fd) (hm : mg "fork_fills" = some (.ref g)) (h_kid_counts : Has P w K mg base "kid_counts" 1 2 F_kid_counts) (z_len : mg "len" = none) (z_tuple : mg "tuple" = none) (z_range : mg "range" = none) : Has P w K mg base "fork_fills" 2 3 F_fork_fills :=
  fn_has F sc_fork_fills hm (fun _ _ _ _ _ _ us hl => match us, hl with | [_, _, _], _ => rfl) fun cdv A outer s H E hr => by
    have Sc := sc_fork_fills
    refine dss_cons ?_ ?_; exact ds_acc 3 Sc.nd; (refine dss_cons ?_ ?_; (refine ds_set 4 Sc.nd ?_; exact de_int); (refine dss_cons ?_ ?_; (refine ds_forX PassesOwn.never rfl ?_ ?_ ?_; (refine dx_list ?_; (refine de_call h_kid_counts hr (by decide) pass0 ?_; (refine da_cons ?_ ?_; (refine de_blt c_lenG z_len PySem.boot_len ?_; (refine da_cons ?_ ?_; exact de_var 0; exact da_nil)); (refine da_cons ?_ ?_; exact de_var 2; exact da_nil)))); exact dg_name 5 Sc.nd; (refine dss_cons ?_ ?_; (refine ds_set 6 Sc.nd ?_; (refine de_bin p_add ?_ ?_; exact de_var 4; exact de_var 5)); (refine dss_cons ?_ ?_; (refine ds_compX 7 Sc.nd (caps := []) (idx := []) ⟨by with_unfolding_all rfl, by decide +kernel, rfl, by decide +kernel, rfl, (by exact trivial), by with_unfolding_all rfl, (by exact trivial), by decide⟩ rfl ?_ ?_ ?_; (refine dx_list ?_; (refine de_sl ?_ ?_ ?_; exact de_var 0; (refine do_some ?_; exact de_var 4); (refine do_some ?_; exact de_var 6))); (exact fun _ _ _ _ => by exact dts_nil); (exact fun _ _ _ _ => by refine de_ixG (hu_of hr) ?_ ?_; exact de_var 0; exact de_int)); (refine dss_cons ?_ ?_; (refine ds_app 3 ?_; (refine de_tup ?_; (refine da_cons ?_ ?_; (refine de_ixG (hu_of hr) ?_ ?_; exact de_var 7; exact de_int); (refine da_cons ?_ ?_; (refine de_ty c_tupleW z_tuple boot_tuple ?_; (refine da_cons ?_ ?_; (refine de_sl ?_ ?_ ?_; exact de_var 7; (refine do_some ?_; exact de_int); exact do_none); exact da_nil)); (refine da_cons ?_ ?_; (refine de_tupR z_tuple z_range rfl ?_; (refine da_cons ?_ ?_; (refine de_bin p_add ?_ ?_; exact de_var 1; exact de_var 4); (refine da_cons ?_ ?_; (refine de_bin p_add ?_ ?_; exact de_var 1; exact de_var 6); exact da_nil))); exact da_nil))))); (refine dss_one ?_; (refine ds_set 4 Sc.nd ?_; exact de_var 6)))))); (refine dss_one ?_; (refine ds_dis 3 ?_; (refine ds_ret ?_; exact de_var 3)))))
theorem sc_leaf_fills : FnScope ["table", "room", "fills", "start", "pairs", "keys"] ["table", "room"] (defScope s_leaf_fills) := ⟨rfl, rfl, rfl, by decide +kernel, rfl, by decide +kernel, by decide +kernel⟩
theorem has_leaf_fills (F : Fun K "leaf_fills" "leaf_fills" s_leaf_fills g fd) (hm : mg "leaf_fills" = some (.ref g)) (z_len : mg "len" = none) (z_range : mg "range" = none) (z_tuple : mg "tuple" = none) : Has P w K mg base "leaf_fills" 1 2 F_leaf_fills :=
  fn_has F sc_leaf_fills hm (fun _ _ _ _ _ _ us hl => match us, hl with | [_, _], _ => rfl) fun cdv A outer s H E hr => by
    have Sc := sc_leaf_fills
    refine dss_cons ?_ ?_; (refine ds_if ?_ ?_ ?_; (refine dt_not ?_; (refine dt_tru ?_; exact de_var 0)); (refine dss_one ?_; (refine ds_ret ?_; (refine de_lst ?_; (refine da_cons ?_ ?_; (refine de_tup ?_; (refine da_cons ?_ ?_; exact de_non; (refine da_cons ?_ ?_; (refine de_tup ?_; exact da_nil); (refine da_cons ?_ ?_; (refine de_tup ?_; exact da_nil); exact da_nil)))); exact da_nil)))); exact dss_nil); (refine dss_cons ?_ ?_; exact ds_acc 2 Sc.nd; (refine dss_cons ?_ ?_; (refine ds_for PassesOwn.never rfl ?_ ?_ ?_; (refine di_range3 rfl z_range ?_; (refine da_cons ?_ ?_; exact de_int; (refine da_cons ?_ ?_; (refine de_blt c_lenG z_len PySem.boot_len ?_; (refine da_cons ?_ ?_; exact de_var 0; exact da_nil)); (refine da_cons ?_ ?_; exact de_var 1; exact da_nil)))); exact dg_name 3 Sc.nd; (refine dss_cons ?_ ?_; (refine ds_set 4 Sc.nd ?_; (refine de_slG ?_ ?_ ?_; exact de_var 0; (refine do_some ?_; exact de_var 3); (refine do_some ?_; (refine de_bin p_add ?_ ?_; exact de_var 3; exact de_var 1)))); (refine dss_cons ?_ ?_; (refine ds_set 5 Sc.nd ?_; (refine de_ty c_tupleW z_tuple boot_tuple ?_; (refine da_cons ?_ ?_; (refine de_compX (caps := []) (idx := []) ⟨by with_unfolding_all rfl, by decide +kernel, rfl, by decide +kernel, rfl, (by exact trivial), by with_unfolding_all rfl, (by exact trivial), by decide⟩ rfl ?_ ?_ ?_; (refine dx_list ?_; exact de_var 4); (exact fun _ _ _ _ => by exact dts_nil); (exact fun _ _ _ _ => by refine de_ixG (hu_of hr) ?_ ?_; exact de_var 0; exact de_int)); exact da_nil))); (refine dss_one ?_; (refine ds_app 2 ?_; (refine de_tup ?_; (refine da_cons ?_ ?_; (refine de_ixG (hu_of hr) ?_ ?_; exact de_var 5; exact de_int); (refine da_cons ?_ ?_; exact de_var 5; (refine da_cons ?_ ?_; (refine de_ty c_tupleW z_tuple boot_tuple ?_; (refine da_cons ?_ ?_; (refine de_compX (caps := []) (idx := []) ⟨by with_unfolding_all rfl, by decide +kernel, rfl, by decide +kernel, rfl, (by exact trivial), by with_unfolding_all rfl, (by exact trivial), by decide⟩ rfl ?_ ?_ ?_; (refine dx_list ?_; exact de_var 4); (exact fun _ _ _ _ => by exact dts_nil); (exact fun _ _ _ _ => by refine de_ixG (hu_of hr) ?_ ?_; exact de_var 0; exact de_int)); exact da_nil)); exact da_nil))))))))); (refine dss_one ?_; (refine ds_dis 2 ?_; (refine ds_ret ?_; exact de_var 2)))))
theorem sc_packed : FnScope ["table", "room", "level", "fills", "pages"] ["table", "room"] (defScope s_packed) := ⟨rfl, rfl, rfl, by decide +kernel, rfl, by decide +kernel, by decide +kernel⟩
theorem has_packed (F : Fun K "packed" "packed" s_packed g fd) (hm : mg "packed" = some (.ref g)) (h_shelf_of : Has P w K mg base "shelf_of" 3 2 F_shelf_of) (h_linked : Has P w K mg base "linked" 1 3 F_linked) (h_fork_fills : Has P w K mg base "fork_fills" 2 3 F_fork_fills) (h_leaf_fills : Has P w K mg base "leaf_fills" 1 2 F_leaf_fills) (z_len : mg "len" = none) : Has P w K mg base "packed" 4 2 F_packed :=
  fn_has F sc_packed hm (fun _ _ _ _ _ _ us hl => match us, hl with | [_, _], _ => rfl) fun cdv A outer s H E hr => by
    have Sc := sc_packed
    refine dss_cons ?_ ?_; (refine ds_set 2 Sc.nd ?_; exact de_int); (refine dss_cons ?_ ?_; (refine ds_set 3 Sc.nd ?_; (refine de_call h_leaf_fills hr (by decide) pass0 ?_; (refine da_cons ?_ ?_; exact de_var 0; (refine da_cons ?_ ?_; exact de_var 1; exact da_nil)))); (refine dss_cons ?_ ?_; (refine ds_set 4 Sc.nd ?_; (refine de_call h_linked hr (by decide) pass0 ?_; (refine da_cons ?_ ?_; exact de_var 2; (refine da_cons ?_ ?_; exact de_var 3; (refine da_cons ?_ ?_; exact de_int; exact da_nil))))); (refine dss_cons ?_ ?_; (refine ds_while 100000 PassesOwn.never ?_ ?_; (refine dt_cmp p_gt ?_ ?_ (nomark _); (refine de_blt c_lenG z_len PySem.boot_len ?_; (refine da_cons ?_ ?_; exact de_var 3; exact da_nil)); exact de_int); (refine dss_cons ?_ ?_; (refine ds_augadd 2 Sc.nd ?_; exact de_int); (refine dss_cons ?_ ?_; (refine ds_set 3 Sc.nd ?_; (refine de_call h_fork_fills hr (by decide) pass0 ?_; (refine da_cons ?_ ?_; exact de_var 3; (refine da_cons ?_ ?_; (refine de_bin p_sub ?_ ?_; (refine de_blt c_lenG z_len PySem.boot_len ?_; (refine da_cons ?_ ?_; exact de_var 4; exact da_nil)); (refine de_blt c_lenG z_len PySem.boot_len ?_; (refine da_cons ?_ ?_; exact de_var 3; exact da_nil))); (refine da_cons ?_ ?_; (refine de_bin p_add ?_ ?_; exact de_var 1; exact de_int); exact da_nil))))); (refine dss_one ?_; (refine ds_expr ?_; (refine de_mth m_extend PySem.F.plainAttrs_list PySem.F.slot_list_extend PySem.F.type_list_extend ?_ ?_; exact de_var 4; (refine da_cons ?_ ?_; (refine de_call h_linked hr (by decide) pass0 ?_; (refine da_cons ?_ ?_; exact de_var 2; (refine da_cons ?_ ?_; exact de_var 3; (refine da_cons ?_ ?_; (refine de_blt c_lenG z_len PySem.boot_len ?_; (refine da_cons ?_ ?_; exact de_var 4; exact da_nil)); exact da_nil)))); exact da_nil))))))); (refine dss_one ?_; (refine ds_ret ?_; (refine de_call h_shelf_of hr (by decide) pass0 ?_; (refine da_cons ?_ ?_; exact de_var 4; (refine da_cons ?_ ?_; exact de_var 1; exact da_nil))))))))
theorem sc_law_size : FnScope ["cell", "room", "kind"] ["cell", "room"] (defScope s_law_size) := ⟨rfl, rfl, rfl, by decide +kernel, rfl, by decide +kernel, by decide +kernel⟩
theorem has_law_size (F : Fun K "_law_size" "_law_size" s_law_size g fd) (hm : mg "_law_size" = some (.ref g)) (h_law_churn : Has P w K mg base "_law_churn" 1 2 F_law_churn) (z_min : mg "min" = none) : Has P w K mg base "_law_size" 2 2 F_law_size :=
  fn_has F sc_law_size hm (fun _ _ _ _ _ _ us hl => match us, hl with | [_, _], _ => rfl) fun cdv A outer s H E hr => by
    have Sc := sc_law_size
    refine dss_cons ?_ ?_; (refine ds_set 2 Sc.nd ?_; (refine de_bin p_mod ?_ ?_; (refine de_call h_law_churn hr (by decide) pass0 ?_; (refine da_cons ?_ ?_; exact de_var 0; (refine da_cons ?_ ?_; exact de_int; exact da_nil))); exact de_int)); (refine dss_cons ?_ ?_; (refine ds_if ?_ ?_ ?_; (refine dt_cmp (p_eq hr.units) ?_ ?_ (nomark _); exact de_var 2; exact de_int); (refine dss_one ?_; (refine ds_ret ?_; (refine de_bin p_mod ?_ ?_; (refine de_call h_law_churn hr (by decide) pass0 ?_; (refine da_cons ?_ ?_; exact de_var 0; (refine da_cons ?_ ?_; exact de_int; exact da_nil))); exact de_int))); exact dss_nil); (refine dss_cons ?_ ?_; (refine ds_if ?_ ?_ ?_; (refine dt_cmp (p_eq hr.units) ?_ ?_ (nomark _); exact de_var 2; exact de_int); (refine dss_one ?_; (refine ds_ret ?_; (refine de_blt (c_min rfl) z_min boot_min ?_; (refine da_cons ?_ ?_; exact de_int; (refine da_cons ?_ ?_; (refine de_bin p_add ?_ ?_; (refine de_bin p_mul ?_ ?_; (refine de_bin p_mul ?_ ?_; exact de_var 1; (refine de_bin p_add ?_ ?_; exact de_var 1; exact de_int)); (refine de_bin p_add ?_ ?_; exact de_int; (refine de_bin p_mod ?_ ?_; (refine de_call h_law_churn hr (by decide) pass0 ?_; (refine da_cons ?_ ?_; exact de_var 0; (refine da_cons ?_ ?_; exact de_int; exact da_nil))); exact de_int))); (refine de_bin p_mul ?_ ?_; (refine de_bin p_mod ?_ ?_; (refine de_call h_law_churn hr (by decide) pass0 ?_; (refine da_cons ?_ ?_; exact de_var 0; (refine da_cons ?_ ?_; exact de_int; exact da_nil))); exact de_int); exact de_var 1)); exact da_nil))))); exact dss_nil); (refine dss_cons ?_ ?_; (refine ds_if ?_ ?_ ?_; (refine dt_cmp (p_eq hr.units) ?_ ?_ (nomark _); exact de_var 2; exact de_int); (refine dss_one ?_; (refine ds_ret ?_; (refine de_blt (c_min rfl) z_min boot_min ?_; (refine da_cons ?_ ?_; exact de_int; (refine da_cons ?_ ?_; (refine de_bin p_add ?_ ?_; (refine de_bin p_mul ?_ ?_; (refine de_bin p_mul ?_ ?_; exact de_var 1; (refine de_bin p_add ?_ ?_; exact de_var 1; exact de_int)); (refine de_bin p_add ?_ ?_; exact de_var 1; exact de_int)); (refine de_bin p_mod ?_ ?_; (refine de_call h_law_churn hr (by decide) pass0 ?_; (refine da_cons ?_ ?_; exact de_var 0; (refine da_cons ?_ ?_; exact de_int; exact da_nil))); (refine de_bin p_add ?_ ?_; (refine de_bin p_mul ?_ ?_; exact de_int; exact de_var 1); exact de_int))); exact da_nil))))); exact dss_nil); (refine dss_one ?_; (refine ds_ret ?_; (refine de_bin p_mod ?_ ?_; (refine de_call h_law_churn hr (by decide) pass0 ?_; (refine da_cons ?_ ?_; exact de_var 0; (refine da_cons ?_ ?_; exact de_int; exact da_nil))); exact de_int))))))
theorem sc_law_table : FnScope ["script", "size", "key", "wide", "table", "k", "cell", "worth"] ["script", "size"] (defScope s_law_table) := ⟨rfl, rfl, rfl, by decide +kernel, rfl, by decide +kernel, by decide +kernel⟩
theorem has_law_table (F : Fun K "_law_table" "_law_table" s_law_table g fd) (hm : mg "_law_table" = some (.ref g)) (h_law_churn : Has P w K mg base "_law_churn" 1 2 F_law_churn) (h_law_cell_at : Has P w K mg base "_law_cell_at" 1 2 F_law_cell_at) (z_range : mg "range" = none) (z_max : mg "max" = none) (z_len : mg "len" = none) : Has P w K mg base "_law_table" 2 2 F_law_table :=
  fn_has F sc_law_table hm (fun _ _ _ _ _ _ us hl => match us, hl with | [_, _], _ => rfl) fun cdv A outer s H E hr => by
    have Sc := sc_law_table
    refine dss_cons ?_ ?_; (refine ds_set 2 Sc.nd ?_; (refine de_bin p_sub ?_ ?_; (refine de_bin p_mod ?_ ?_; (refine de_call h_law_churn hr (by decide) pass0 ?_; (refine da_cons ?_ ?_; (refine de_call h_law_cell_at hr (by decide) pass0 ?_; (refine da_cons ?_ ?_; exact de_var 0; (refine da_cons ?_ ?_; exact de_int; exact da_nil))); (refine da_cons ?_ ?_; exact de_int; exact da_nil))); exact de_int); exact de_int)); (refine dss_cons ?_ ?_; (refine ds_set 3 Sc.nd ?_; (refine de_bin p_mod ?_ ?_; (refine de_call h_law_churn hr (by decide) pass0 ?_; (refine da_cons ?_ ?_; (refine de_call h_law_cell_at hr (by decide) pass0 ?_; (refine da_cons ?_ ?_; exact de_var 0; (refine da_cons ?_ ?_; exact de_int; exact da_nil))); (refine da_cons ?_ ?_; exact de_int; exact da_nil))); exact de_int)); (refine dss_cons ?_ ?_; (refine ds_if ?_ ?_ ?_; (refine dt_cmp (p_eq hr.units) ?_ ?_ (nomark _); exact de_var 3; exact de_int); (refine dss_one ?_; (refine ds_set 2 Sc.nd ?_; (refine de_bin p_sub ?_ ?_; (refine de_call h_law_churn hr (by decide) pass0 ?_; (refine da_cons ?_ ?_; (refine de_call h_law_cell_at hr (by decide) pass0 ?_; (refine da_cons ?_ ?_; exact de_var 0; (refine da_cons ?_ ?_; exact de_int; exact da_nil))); (refine da_cons ?_ ?_; exact de_int; exact da_nil))); (refine de_bin p_pow ?_ ?_; exact de_int; exact de_int)))); exact dss_nil); (refine dss_cons ?_ ?_; exact ds_acc 4 Sc.nd; (refine dss_cons ?_ ?_; (refine ds_for PassesOwn.never rfl ?_ ?_ ?_; (refine di_range1 rfl z_range ?_; (refine da_cons ?_ ?_; exact de_var 1; exact da_nil)); exact dg_name 5 Sc.nd; (refine dss_cons ?_ ?_; (refine ds_set 6 Sc.nd ?_; (refine de_bin p_add ?_ ?_; (refine de_call h_law_cell_at hr (by decide) pass0 ?_; (refine da_cons ?_ ?_; exact de_var 0; (refine da_cons ?_ ?_; (refine de_bin p_mod ?_ ?_; exact de_var 5; (refine de_blt (c_max rfl) z_max boot_max ?_; (refine da_cons ?_ ?_; exact de_int; (refine da_cons ?_ ?_; (refine de_blt c_len z_len PySem.boot_len ?_; (refine da_cons ?_ ?_; exact de_var 0; exact da_nil)); exact da_nil)))); exact da_nil))); exact de_var 5)); (refine dss_cons ?_ ?_; (refine ds_set 7 Sc.nd ?_; (refine de_bin p_sub ?_ ?_; (refine de_bin p_mod ?_ ?_; (refine de_call h_law_churn hr (by decide) pass0 ?_; (refine da_cons ?_ ?_; exact de_var 6; (refine da_cons ?_ ?_; exact de_int; exact da_nil))); exact de_int); exact de_int)); (refine dss_cons ?_ ?_; (refine ds_if ?_ ?_ ?_; (refine dt_cmp (p_eq hr.units) ?_ ?_ (nomark _); (refine de_bin p_mod ?_ ?_; (refine de_call h_law_churn hr (by decide) pass0 ?_; (refine da_cons ?_ ?_; exact de_var 6; (refine da_cons ?_ ?_; exact de_int; exact da_nil))); exact de_int); exact de_int); (refine dss_one ?_; (refine ds_set 7 Sc.nd ?_; (refine de_bin p_sub ?_ ?_; (refine de_bin p_mod ?_ ?_; (refine de_bin p_add ?_ ?_; (refine de_bin p_mul ?_ ?_; exact de_var 6; exact de_int); (refine de_bin p_pow ?_ ?_; exact de_int; exact de_int)); (refine de_bin p_add ?_ ?_; (refine de_bin p_mul ?_ ?_; exact de_int; (refine de_bin p_pow ?_ ?_; exact de_int; exact de_int)); exact de_int)); (refine de_bin p_pow ?_ ?_; exact de_int; exact de_int)))); exact dss_nil); (refine dss_cons ?_ ?_; (refine ds_app 4 ?_; (refine de_tup ?_; (refine da_cons ?_ ?_; exact de_var 2; (refine da_cons ?_ ?_; exact de_var 7; exact da_nil)))); (refine dss_one ?_; (refine ds_set 2 Sc.nd ?_; (refine de_bin p_add ?_ ?_; (refine de_bin p_add ?_ ?_; exact de_var 2; exact de_int); (refine de_bin p_mul ?_ ?_; (refine de_bin p_mod ?_ ?_; (refine de_call h_law_churn hr (by decide) pass0 ?_; (refine da_cons ?_ ?_; exact de_var 6; (refine da_cons ?_ ?_; exact de_int; exact da_nil))); (refine de_ix ?_ ?_; (refine de_lst ?_; (refine da_cons ?_ ?_; exact de_int; (refine da_cons ?_ ?_; exact de_int; (refine da_cons ?_ ?_; (refine de_bin p_mul ?_ ?_; exact de_int; (refine de_bin p_pow ?_ ?_; exact de_int; exact de_int)); exact da_nil)))); exact de_var 3)); (refine de_ix ?_ ?_; (refine de_lst ?_; (refine da_cons ?_ ?_; exact de_int; (refine da_cons ?_ ?_; exact de_int; (refine da_cons ?_ ?_; (refine de_bin p_pow ?_ ?_; exact de_int; exact de_int); exact da_nil)))); exact de_var 3)))))))))); (refine dss_one ?_; (refine ds_dis 4 ?_; (refine ds_ret ?_; exact de_var 4)))))))
theorem sc_law : FnScope ["script", "cell", "room", "table", "shelf", "worths", "key", "number", "leaf", "page"] ["script"] (defScope s_law) := ⟨rfl, rfl, rfl, by decide +kernel, rfl, by decide +kernel, by decide +kernel⟩
theorem law_fn (F : Fun K "law" "law" s_law g fd) (h_law_leaves : Has P w K mg base "_law_leaves" 3 1 F_law_leaves) (h_Shelf_pages : HasM P w K mg base "Shelf" "pages" 1 1 F_Shelf_pages) (h_is_full : Has P w K mg base "is_full" 1 2 F_is_full) (h_Shelf_read : HasM P w K mg base "Shelf" "read" 2 2 F_Shelf_read) (h_law_keys : Has P w K mg base "_law_keys" 2 2 F_law_keys) (h_worth_of : Has P w K mg base "worth_of" 2 2 F_worth_of) (h_law_led : Has P w K mg base "_law_led" 3 2 F_law_led) (h_packed : Has P w K mg base "packed" 4 2 F_packed) (h_law_size : Has P w K mg base "_law_size" 2 2 F_law_size) (h_law_table : Has P w K mg base "_law_table" 2 2 F_law_table) (h_law_churn : Has P w K mg base "_law_churn" 1 2 F_law_churn) (h_law_cell_at : Has P w K mg base "_law_cell_at" 1 2 F_law_cell_at) (z_range : mg "range" = none) (z_dict : mg "dict" = none) (z_list : mg "list" = none) : FnOk P w K mg base CX0 5 g fd ["script"] (spD K 1 F_law) :=
  fn_ok F sc_law fun cdv A outer s H E hr => by
    have Sc := sc_law
    refine dss_cons ?_ ?_; (refine ds_set 1 Sc.nd ?_; (refine de_call h_law_cell_at hr (by decide) pass0 ?_; (refine da_cons ?_ ?_; exact de_var 0; (refine da_cons ?_ ?_; exact de_int; exact da_nil)))); (refine dss_cons ?_ ?_; (refine ds_set 2 Sc.nd ?_; (refine de_bin p_add ?_ ?_; exact de_int; (refine de_bin p_mod ?_ ?_; (refine de_call h_law_churn hr (by decide) pass0 ?_; (refine da_cons ?_ ?_; exact de_var 1; (refine da_cons ?_ ?_; exact de_int; exact da_nil))); exact de_int))); (refine dss_cons ?_ ?_; (refine ds_set 3 Sc.nd ?_; (refine de_call h_law_table hr (by decide) pass0 ?_; (refine da_cons ?_ ?_; exact de_var 0; (refine da_cons ?_ ?_; (refine de_call h_law_size hr (by decide) pass0 ?_; (refine da_cons ?_ ?_; exact de_var 1; (refine da_cons ?_ ?_; exact de_var 2; exact da_nil))); exact da_nil)))); (refine dss_cons ?_ ?_; (refine ds_set 4 Sc.nd ?_; (refine de_call h_packed hr (by decide) pass0 ?_; (refine da_cons ?_ ?_; (refine de_ty c_list z_list boot_list ?_; (refine da_cons ?_ ?_; exact de_var 3; exact da_nil)); (refine da_cons ?_ ?_; exact de_var 2; exact da_nil)))); (refine dss_cons ?_ ?_; (refine ds_set 5 Sc.nd ?_; (refine de_ty (c_dictN rfl) z_dict boot_dict ?_; (refine da_cons ?_ ?_; exact de_var 3; exact da_nil))); (refine dss_cons ?_ ?_; (refine ds_forX PassesOwn.never rfl ?_ ?_ ?_; (refine dx_list ?_; (refine de_call h_law_keys hr (by decide) pass0 ?_; (refine da_cons ?_ ?_; exact de_var 0; (refine da_cons ?_ ?_; exact de_var 3; exact da_nil)))); exact dg_name 6 Sc.nd; (refine dss_cons ?_ ?_; (refine ds_set 8 Sc.nd ?_; (refine de_call h_law_led hr (by decide) pass0 ?_; (refine da_cons ?_ ?_; exact de_var 4; (refine da_cons ?_ ?_; exact de_var 6; exact da_nil)))); (refine dss_one ?_; (refine ds_if ?_ ?_ ?_; (refine DW.pt ?_; (refine dw_or ?_ ?_; (refine dt_cmp p_is ?_ ?_ (nomark _); exact de_var 8; exact de_non); (refine dw_or1 ?_; (refine dt_cmp (p_neG hr.units) ?_ ?_ (nomark _); (refine de_call h_worth_of hr (by decide) pass0 ?_; (refine da_cons ?_ ?_; exact de_var 8; (refine da_cons ?_ ?_; exact de_var 6; exact da_nil))); (refine de_mth (m_dget (hu_of hr)) PySem.F.plainAttrs_dict PySem.F.slot_dict_get PySem.F.type_dict_get ?_ ?_; exact de_var 5; (refine da_cons ?_ ?_; exact de_var 6; exact da_nil)))))); (refine dss_one ?_; (refine ds_ret ?_; exact de_bl)); exact dss_nil)))); (refine dss_cons ?_ ?_; (refine ds_for PassesOwn.never rfl ?_ ?_ ?_; (refine di_range1 rfl z_range ?_; (refine da_cons ?_ ?_; (refine de_meth0 h_Shelf_pages hr (by decide) pass0 ?_; exact de_var 4); exact da_nil)); exact dg_name 7 Sc.nd; (refine dss_cons ?_ ?_; (refine ds_set 9 Sc.nd ?_; (refine de_meth h_Shelf_read hr (by decide) pass0 ?_ ?_; exact de_var 4; (refine da_cons ?_ ?_; exact de_var 7; exact da_nil))); (refine dss_one ?_; (refine ds_if ?_ ?_ ?_; (refine DW.pt ?_; (refine dw_or ?_ ?_; (refine dt_of ?_; (refine de_call h_is_full hr (by decide) pass0 ?_; (refine da_cons ?_ ?_; exact de_var 9; (refine da_cons ?_ ?_; exact de_var 2; exact da_nil)))); (refine dw_or1 ?_; (refine DW.pt ?_; (refine dw_and ?_ ?_; (refine dt_cmp (p_eqG hr.units) ?_ ?_ (nomark _); (refine de_ixG (hu_of hr) ?_ ?_; exact de_var 9; exact de_int); (refine de_tup ?_; exact da_nil)); (refine dw_and1 ?_; (refine dt_cmp (p_neG hr.units) ?_ ?_ (nomark _); exact de_var 3; (refine de_lst ?_; exact da_nil)))))))); (refine dss_one ?_; (refine ds_ret ?_; exact de_bl)); exact dss_nil)))); (refine dss_one ?_; (refine ds_ret ?_; (refine de_cmp (p_eqG hr.units) ?_ ?_ (nomark _); (refine de_call h_law_leaves hr (by decide) pass0 ?_; (refine da_cons ?_ ?_; exact de_var 4; exact da_nil)); exact de_var 3)))))))))
end
def _root_.PySem.W.Fast.tw1872703672544469464 : Nat := 0
def _root_.PySem.W.Fast.tw14347880790194256046 : Nat := 0
def _root_.PySem.W.Fast.tw1841649711159433523 : Nat := 0
def _root_.PySem.W.Fast.tw9908930826076099328 : Nat := 0
def _root_.PySem.W.Fast.tw733070840169753933 : Nat := 0
def _root_.PySem.W.Fast.tw2835871537817341267 : Nat := 0
def _root_.PySem.W.Fast.tw6298062240324550486 : Nat := 0
def _root_.PySem.W.Fast.tw3834875048314746949 : Nat := 0
def _root_.PySem.W.Fast.tw6796812372756340133 : Nat := 0
def _root_.PySem.W.Fast.tw16508935321130771981 : Nat := 0
def _root_.PySem.W.Fast.tw581416156138247951 : Nat := 0
def _root_.PySem.W.Fast.tw2228622650965302238 : Nat := 0
def _root_.PySem.W.Fast.tw9073142516569573582 : Nat := 0
def _root_.PySem.W.Fast.tw9299814042942480614 : Nat := 0
def _root_.PySem.W.Fast.tw8419250648391879811 : Nat := 0
def shF (r : Int) (k : Nat) (t a b : Int) : List (Str × DV) := [("page_room", .int r), ("kept", .ref k), ("top", .int t), ("read_count", .int a), ("write_count", .int b)]
theorem shF_kept (r : Int) (k : Nat) (t a b : Int) : List.lookup ("kept" : Str) (shF r k t a b) = some (DV.ref k) := by rfl
theorem shF_top (r : Int) (k : Nat) (t a b : Int) : List.lookup ("top" : Str) (shF r k t a b) = some (DV.int t) := by rfl
theorem shF_w (r : Int) (k : Nat) (t a b : Int) : List.lookup ("write_count" : Str) (shF r k t a b) = some (DV.int b) := by rfl
theorem shF_r (r : Int) (k : Nat) (t a b : Int) : List.lookup ("read_count" : Str) (shF r k t a b) = some (DV.int a) := by rfl
theorem shF_putw (r : Int) (k : Nat) (t a b c : Int) : putFD ("write_count" : Str) (.int c) (shF r k t a b) = shF r k t a c := by rfl
theorem shF_putr (r : Int) (k : Nat) (t a b c : Int) : putFD ("read_count" : Str) (.int c) (shF r k t a b) = shF r k t c b := by rfl
theorem shF_putt (r : Int) (k : Nat) (t a b c : Int) : putFD ("top" : Str) (.int c) (shF r k t a b) = shF r k c a b := by rfl
theorem shF_len (r : Int) (k : Nat) (t a b : Int) : (shF r k t a b).length = 5 := rfl
theorem shF_nochk (r : Int) (k : Nat) (t a b : Int) : List.lookup ("check_number" : Str) (shF r k t a b) = none := by rfl
theorem shF_nolay (r : Int) (k : Nat) (t a b : Int) : List.lookup ("lay" : Str) (shF r k t a b) = none := by rfl
theorem shF_noread (r : Int) (k : Nat) (t a b : Int) : List.lookup ("read" : Str) (shF r k t a b) = none := by rfl
theorem shF_nowrite (r : Int) (k : Nat) (t a b : Int) : List.lookup ("write" : Str) (shF r k t a b) = none := by rfl
theorem shF_noroot (r : Int) (k : Nat) (t a b : Int) : List.lookup ("root" : Str) (shF r k t a b) = none := by rfl
theorem shF_nomake (r : Int) (k : Nat) (t a b : Int) : List.lookup ("make_root" : Str) (shF r k t a b) = none := by rfl
theorem shF_nopages (r : Int) (k : Nat) (t a b : Int) : List.lookup ("pages" : Str) (shF r k t a b) = none := by rfl
section
variable {r t a b : Int} {n k : Nat} {ps : List DV} {hp : Hs}
theorem pages_at (h1 : hp[n]? = some (.ins "Shelf" (shF r k t a b))) (h2 : hp[k]? = some (.lst ps)) : F_Shelf_pages [.ref n] hp = some (.int ps.length, hp) := by
  simp [F_Shelf_pages, b_Shelf_pages, runF, sSeq, sSet, sRet, sRetN, sIf, sNil, sDis, disE, sAcc, sApp, eBin, eVar, eC, eB, asB, eAnd, eOr, eNot, eAndV, eOrV, eNotV, eIf, eNeg, aNil, aCons, eTup, eLst, eCall, eBlt, guardM, gN, addD_int, subD_int, gtD_int, ltD_int, leD_int, geD_int, negD_int, pow30, pow21, pow9, eqD_int, neD_int, sDrop, sFldD, sFldA, sAug, sAsg, gSb, putG, eMth, kindG, eFld, getF, setF, onI, onL, onD, mAppend, mInsert, mDPop, mDGet, ixG, lenG, lenF, optM, keyM, dkey, asI, addI, subI, eMeth, eMake, eNewL, eNewD0, eNewD, evP, run_bind, run_map, run_pure, run_fail, run_guard, run_get, run_set, run_new, getSet_self, getSet_ne, getApp_new, h1, h2, shF_kept]
theorem root_at (h1 : hp[n]? = some (.ins "Shelf" (shF r k t a b))) : F_Shelf_root [.ref n] hp = some (.int t, hp) := by
  simp [F_Shelf_root, b_Shelf_root, runF, sSeq, sSet, sRet, sRetN, sIf, sNil, sDis, disE, sAcc, sApp, eBin, eVar, eC, eB, asB, eAnd, eOr, eNot, eAndV, eOrV, eNotV, eIf, eNeg, aNil, aCons, eTup, eLst, eCall, eBlt, guardM, gN, addD_int, subD_int, gtD_int, ltD_int, leD_int, geD_int, negD_int, pow30, pow21, pow9, eqD_int, neD_int, sDrop, sFldD, sFldA, sAug, sAsg, gSb, putG, eMth, kindG, eFld, getF, setF, onI, onL, onD, mAppend, mInsert, mDPop, mDGet, ixG, lenG, lenF, optM, keyM, dkey, asI, addI, subI, eMeth, eMake, eNewL, eNewD0, eNewD, evP, run_bind, run_map, run_pure, run_fail, run_guard, run_get, run_set, run_new, getSet_self, getSet_ne, getApp_new, h1, shF_top]
theorem check_at {i : Int} (h1 : hp[n]? = some (.ins "Shelf" (shF r k t a b))) (h2 : hp[k]? = some (.lst ps)) (i0 : 0 ≤ i) (i1 : i < ps.length) :
    F_Shelf_check_number [.ref n, .int i] hp = some (.non, hp) := by
  have q0 : ¬ i < 0 := by omega
  have q1 : ¬ (ps.length : Int) ≤ i := by omega
  simp [F_Shelf_check_number, b_Shelf_check_number, runF, sSeq, sSet, sRet, sRetN, sIf, sNil, sDis, disE, sAcc, sApp, eBin, eVar, eC, eB, asB, eAnd, eOr, eNot, eAndV, eOrV, eNotV, eIf, eNeg, aNil, aCons, eTup, eLst, eCall, eBlt, guardM, gN, addD_int, subD_int, gtD_int, ltD_int, leD_int, geD_int, negD_int, pow30, pow21, pow9, eqD_int, neD_int, sDrop, sFldD, sFldA, sAug, sAsg, gSb, putG, eMth, kindG, eFld, getF, setF, onI, onL, onD, mAppend, mInsert, mDPop, mDGet, ixG, lenG, lenF, optM, keyM, dkey, asI, addI, subI, eMeth, eMake, eNewL, eNewD0, eNewD, evP, run_bind, run_map, run_pure, run_fail, run_guard, run_get, run_set, run_new, getSet_self, getSet_ne, getApp_new, eChain, h1, h2, shF_kept, i0, i1, q0, q1]
theorem read_at {i : Nat} {d : DV} (h1 : hp[n]? = some (.ins "Shelf" (shF r k t a b))) (h2 : hp[k]? = some (.lst ps)) (hnk : n ≠ k) (hd : ps[i]? = some d) :
    F_Shelf_read [.ref n, .int i] hp = some (d, hp.set n (.ins "Shelf" (shF r k t (a + 1) b))) := by
  have i1 : i < ps.length := (List.getElem?_eq_some_iff.mp hd).1
  have c := check_at (i := (i : Int)) h1 h2 (by omega) (by omega)
  have hd' := atI_nat hd
  simp [F_Shelf_read, b_Shelf_read, runF, sSeq, sSet, sRet, sRetN, sIf, sNil, sDis, disE, sAcc, sApp, eBin, eVar, eC, eB, asB, eAnd, eOr, eNot, eAndV, eOrV, eNotV, eIf, eNeg, aNil, aCons, eTup, eLst, eCall, eBlt, guardM, gN, addD_int, subD_int, gtD_int, ltD_int, leD_int, geD_int, negD_int, pow30, pow21, pow9, eqD_int, neD_int, sDrop, sFldD, sFldA, sAug, sAsg, gSb, putG, eMth, kindG, eFld, getF, setF, onI, onL, onD, mAppend, mInsert, mDPop, mDGet, ixG, lenG, lenF, optM, keyM, dkey, asI, addI, subI, eMeth, eMake, eNewL, eNewD0, eNewD, evP, run_bind, run_map, run_pure, run_fail, run_guard, run_get, run_set, run_new, getSet_self, getSet_ne, getApp_new, h1, h2, c, shF_kept, shF_r, shF_putr, shF_len, shF_nochk, hd', hnk, hnk.symm]
theorem make_root_at {i : Nat} (h1 : hp[n]? = some (.ins "Shelf" (shF r k t a b))) (h2 : hp[k]? = some (.lst ps)) (i1 : i < ps.length) :
    F_Shelf_make_root [.ref n, .int i] hp = some (.non, hp.set n (.ins "Shelf" (shF r k i a b))) := by
  have c := check_at (i := (i : Int)) h1 h2 (by omega) (by omega)
  simp [F_Shelf_make_root, b_Shelf_make_root, runF, sSeq, sSet, sRet, sRetN, sIf, sNil, sDis, disE, sAcc, sApp, eBin, eVar, eC, eB, asB, eAnd, eOr, eNot, eAndV, eOrV, eNotV, eIf, eNeg, aNil, aCons, eTup, eLst, eCall, eBlt, guardM, gN, addD_int, subD_int, gtD_int, ltD_int, leD_int, geD_int, negD_int, pow30, pow21, pow9, eqD_int, neD_int, sDrop, sFldD, sFldA, sAug, sAsg, gSb, putG, eMth, kindG, eFld, getF, setF, onI, onL, onD, mAppend, mInsert, mDPop, mDGet, ixG, lenG, lenF, optM, keyM, dkey, asI, addI, subI, eMeth, eMake, eNewL, eNewD0, eNewD, evP, run_bind, run_map, run_pure, run_fail, run_guard, run_get, run_set, run_new, getSet_self, getSet_ne, getApp_new, h1, h2, c, shF_kept, shF_putt, shF_len, shF_nochk]
theorem write_at {i : Nat} {d : DV} (h1 : hp[n]? = some (.ins "Shelf" (shF r k t a b))) (h2 : hp[k]? = some (.lst ps)) (hnk : n ≠ k) (i1 : i < ps.length) :
    F_Shelf_write [.ref n, .int i, d] hp = some (.non, (hp.set n (.ins "Shelf" (shF r k t a (b + 1)))).set k (.lst (ps.set i d))) := by
  have c := check_at (i := (i : Int)) h1 h2 (by omega) (by omega)
  simp [F_Shelf_write, b_Shelf_write, runF, sSeq, sSet, sRet, sRetN, sIf, sNil, sDis, disE, sAcc, sApp, eBin, eVar, eC, eB, asB, eAnd, eOr, eNot, eAndV, eOrV, eNotV, eIf, eNeg, aNil, aCons, eTup, eLst, eCall, eBlt, guardM, gN, addD_int, subD_int, gtD_int, ltD_int, leD_int, geD_int, negD_int, pow30, pow21, pow9, eqD_int, neD_int, sDrop, sFldD, sFldA, sAug, sAsg, gSb, putG, eMth, kindG, eFld, getF, setF, onI, onL, onD, mAppend, mInsert, mDPop, mDGet, ixG, lenG, lenF, optM, keyM, dkey, asI, addI, subI, eMeth, eMake, eNewL, eNewD0, eNewD, evP, run_bind, run_map, run_pure, run_fail, run_guard, run_get, run_set, run_new, getSet_self, getSet_ne, getApp_new, h1, h2, c, shF_kept, shF_w, shF_putw, shF_len, shF_nochk, hnk, hnk.symm, ixN_nat i1]
theorem lay_at {pg : DV} (h1 : hp[n]? = some (.ins "Shelf" (shF r k t a b))) (h2 : hp[k]? = some (.lst ps)) (hnk : n ≠ k) (hl : ps.length < 99999) :
    F_Shelf_lay [.ref n, pg] hp = some (.int ps.length, (hp.set n (.ins "Shelf" (shF r k t a (b + 1)))).set k (.lst (ps ++ [pg]))) := by
  have hlim : ps.length < lim := by unfold lim; omega
  simp [F_Shelf_lay, b_Shelf_lay, runF, sSeq, sSet, sRet, sRetN, sIf, sNil, sDis, disE, sAcc, sApp, eBin, eVar, eC, eB, asB, eAnd, eOr, eNot, eAndV, eOrV, eNotV, eIf, eNeg, aNil, aCons, eTup, eLst, eCall, eBlt, guardM, gN, addD_int, subD_int, gtD_int, ltD_int, leD_int, geD_int, negD_int, pow30, pow21, pow9, eqD_int, neD_int, sDrop, sFldD, sFldA, sAug, sAsg, gSb, putG, eMth, kindG, eFld, getF, setF, onI, onL, onD, mAppend, mInsert, mDPop, mDGet, ixG, lenG, lenF, optM, keyM, dkey, asI, addI, subI, eMeth, eMake, eNewL, eNewD0, eNewD, evP, run_bind, run_map, run_pure, run_fail, run_guard, run_get, run_set, run_new, getSet_self, getSet_ne, getApp_new, h1, h2, shF_kept, shF_w, shF_putw, shF_len, hlim, hnk, hnk.symm]
end
theorem rangeS_get {c : Int} {n i : Nat} {d : DV} (h : (rangeS c n)[i]? = some d) : i < n ∧ d = .int ((i : Int) * c) := by
  have hi : i < n := by have := (List.getElem?_eq_some_iff.mp h).1; simpa [rangeS] using this
  unfold rangeS at h
  rw [range_get hi] at h
  exact ⟨hi, (Option.some.inj h).symm⟩
theorem rcnt_qn {n m : Nat} (hm : 1 ≤ m) : rcnt ((max 1 n : Nat) : Int) (m : Int) = TP.qn n m := by
  unfold rcnt TP.qn
  have : ((max 1 n : Nat) : Int) + (m : Int) - 1 = ((max 1 n + m - 1 : Nat) : Int) := by omega
  rw [this, ← Int.natCast_ediv, Int.toNat_natCast]
def RowsAt (w : Hs) (T : DV) (rows : TP.Rw) : Prop := T = .lst (prD rows) ∨ ∃ n, T = .ref n ∧ w[n]? = some (.lst (prD rows))
theorem RowsAt.len {w : Hs} {T : DV} {rows : TP.Rw} (h : RowsAt w T rows) {f : DEx} {env : En} (hf : f env w = some (T, w)) : eBlt lenG (aCons f aNil) env w = some (.int (rows.length : Int), w) := by
  rcases h with rfl | ⟨n, rfl, hn⟩
  · rw [len_at hf, prD_len]
  · rw [lenR_at hf hn, prD_len]
theorem RowsAt.tru {w : Hs} {T : DV} {rows : TP.Rw} (h : RowsAt w T rows) {f : DEx} {env : En} (hf : f env w = some (T, w)) : eTru f env w = some (!rows.isEmpty, w) := by
  have e : (prD rows).isEmpty = rows.isEmpty := emp_len (prD_len rows)
  unfold eTru
  rw [bind_at hf]
  rcases h with rfl | ⟨n, rfl, hn⟩
  · show some (!(prD rows).isEmpty, w) = _
    rw [e]
  · show (getW n >>= _) w = _
    rw [bind_at (getW_of hn)]
    show some (!(prD rows).isEmpty, w) = _
    rw [e]
theorem fst_at {x : Int × Int} {w : Hs} {env : En} : eBin ixG (eVar 0) (eC (.int 0)) (.val (.tup [.int x.1, .int x.2]) :: env) w = some (.int x.1, w) := ixT_at (i := 0) rfl rfl rfl
theorem snd_at {x : Int × Int} {w : Hs} {env : En} : eBin ixG (eVar 0) (eC (.int 1)) (.val (.tup [.int x.1, .int x.2]) :: env) w = some (.int x.2, w) := ixT_at (i := 1) rfl rfl rfl
theorem comp_fst {w : Hs} {env : En} {f : DEx} {c : TP.Rw} (hf : f env w = some (.lst (prD c), w)) (hl : c.length < 100000) : eCompX false (xLs f) [] tAll (eBin ixG (eVar 0) (eC (.int 0))) env w = some (.lst (c.map fun r => .int r.1), w) := by
  rw [comp_at (m := fstD) (nw := false) (xLs_data hf) (fun _ _ => rfl) (fun x hx => by
    obtain ⟨p, _, rfl⟩ := List.mem_map.mp hx; exact fst_at) (by rw [prD_len]; exact hl), prD_map]; rfl
theorem comp_snd {w : Hs} {env : En} {f : DEx} {c : TP.Rw} (hf : f env w = some (.lst (prD c), w)) (hl : c.length < 100000) : eCompX false (xLs f) [] tAll (eBin ixG (eVar 0) (eC (.int 1))) env w = some (.lst (c.map fun r => .int r.2), w) := by
  rw [comp_at (m := sndD) (nw := false) (xLs_data hf) (fun _ _ => rfl) (fun x hx => by
    obtain ⟨p, _, rfl⟩ := List.mem_map.mp hx; exact snd_at) (by rw [prD_len]; exact hl), prD_map]; rfl
theorem tupL_at {w : Hs} {env : En} {f : DEx} {ds : List DV} (hf : f env w = some (.lst ds, w)) : eBlt tupW (aCons f aNil) env w = some (.tup ds, w) := blt_at (a1_at hf) rfl
def sl3 (f : Nat → DV) : Nat → Sl
  | 0 => .un
  | i + 1 => .val (f i)
theorem chunk_le (rows : TP.Rw) (m : Nat) (fork : Bool) (k : Nat) : (TP.chunk rows m fork k).length ≤ rows.length := by
  unfold TP.chunk; rw [List.length_take, List.length_drop]; omega
theorem leaf_at {w : Hs} {T : DV} {rows : TP.Rw} {m : Nat} (hT : RowsAt w T rows) (hm : 1 ≤ m) (hm2 : m ≤ 100) (hl : rows.length ≤ 1000) : F_leaf_fills [T, .int (m : Int)] w = some (.lst (fillsD rows m false), w) := by
  by_cases h0 : rows = []
  · subst h0
    have q1 : TP.qn 0 m = 1 := by
      obtain ⟨a, b, c⟩ := TP.qn_facts (n := 0) hm
      unfold TP.qn at *
      have : (max 1 0 + m - 1) / m ≤ 1 := by
        refine Nat.le_of_lt_succ ((Nat.div_lt_iff_lt_mul (by omega)).mpr (by omega))
      omega
    refine runF_at (env := [.val T, .val (.int m), .un, .un, .un, .un]) (sSeq_rtA ((ifT_at (eNot_at (hT.tru (var_at rfl)))).trans (sRet_at ?_)))
    have : fillsD [] m false = [.tup [.non, .tup [], .tup []]] := by
      unfold fillsD
      rw [show ([] : TP.Rw).length = 0 from rfl, q1]
      show [fillD [] m false 0] = _
      simp [fillD, begD, keysD, partsD, TP.chunk]
    rw [this]; rfl
  have n1 : 1 ≤ rows.length := by cases rows with | nil => exact absurd rfl h0 | cons _ _ => simp
  have mx : max 1 rows.length = rows.length := by omega
  have ne : rows.isEmpty = false := by cases rows with | nil => exact absurd rfl h0 | cons _ _ => rfl
  have qle : TP.qn rows.length m ≤ rows.length := by
    obtain ⟨a, b, c⟩ := TP.qn_facts (n := rows.length) hm
    have : (TP.qn rows.length m - 1) * 1 ≤ (TP.qn rows.length m - 1) * m := Nat.mul_le_mul_left _ hm
    omega
  let q := TP.qn rows.length m
  let J : Nat → En := fun i => [.val T, .val (.int m), .acc ((List.range i).map (fillD rows m false)), sl3 (fun i => .int ((i : Int) * m)) i, sl3 (fun i => .lst (prD (TP.chunk rows m false i))) i, sl3 (fun i => .tup ((TP.chunk rows m false i).map fun r => .int r.1)) i]
  have loop : L_leaf_fills_1 (J 0) w = some ((.nx, J q), w) := by
    have src : iRg3 (aCons (eC (.int 0)) (aCons (eBlt lenG (aCons (eVar 0) aNil)) (aCons (eVar 1) aNil))) (J 0) w = some (rangeS m q, w) := by
      unfold iRg3
      rw [bind_at (a3_at (rfl : eC (.int 0) (J 0) w = some (.int 0, w)) (hT.len (var_at rfl)) (var_at rfl : eVar 1 (J 0) w = some (.int m, w)))]
      have e := rcnt_qn (n := rows.length) hm
      rw [mx] at e
      have ok : ok3 0 (rows.length : Int) (m : Int) = true := decide_eq_true ⟨rfl, by omega, by omega, by omega, by omega⟩
      show (guardM (ok3 0 (rows.length : Int) (m : Int)) >>= fun _ => pure (rangeS m (rcnt rows.length m)) : M (List DV)) w = _
      rw [ok, e]; rfl
    have len : (rangeS (m : Int) q).length = q := by simp [rangeS]
    have body := forL_at (b := fun d env => do let env' ← gN 3 d env; l_leaf_fills_1 env') J w (rangeS (m : Int) q) (fun i d hd => by
      obtain ⟨hi, ed⟩ := rangeS_get hd
      subst ed
      have hi : i < TP.qn rows.length m := hi
      have cl := TP.chunk_leaf (rows := rows) hm hi
      obtain ⟨_, c1⟩ := TP.chunk_len (rows := rows) (fork := false) hm (by simp) n1 hi
      have c2 := chunk_le rows m false i
      obtain ⟨r0, rs, ec⟩ : ∃ r0 rs, TP.chunk rows m false i = r0 :: rs := by
        cases e : TP.chunk rows m false i with
        | nil => rw [e] at c1; simp at c1
        | cons a b => exact ⟨a, b, rfl⟩
      let e3 : En := [.val T, .val (.int m), .acc ((List.range i).map (fillD rows m false)), .val (.int ((i : Int) * m)), sl3 (fun i => .lst (prD (TP.chunk rows m false i))) i, sl3 (fun i => .tup ((TP.chunk rows m false i).map fun r => .int r.1)) i]
      let e4 : En := [.val T, .val (.int m), .acc ((List.range i).map (fillD rows m false)), .val (.int ((i : Int) * m)), .val (.lst (prD (TP.chunk rows m false i))), sl3 (fun i => .tup ((TP.chunk rows m false i).map fun r => .int r.1)) i]
      let e5 : En := [.val T, .val (.int m), .acc ((List.range i).map (fillD rows m false)), .val (.int ((i : Int) * m)), .val (.lst (prD (TP.chunk rows m false i))), .val (.tup ((TP.chunk rows m false i).map fun r => .int r.1))]
      show l_leaf_fills_1 e3 w = _
      have im : ((i : Int) * (m : Int)) = ((i * m : Nat) : Int) := by simp
      have im2 : ((i : Int) * (m : Int) + (m : Int)) = ((i * m + m : Nat) : Int) := by simp
      have s4 : eSlG (eVar 0) (oSome (eVar 3)) (oSome (eBin addD (eVar 3) (eVar 1))) e3 w = some (.lst (prD (TP.chunk rows m false i)), w) := by
        rw [sliceG_at (a := i * m) (b := i * m + m) (d := T) (ds := prD rows) (var_at rfl) (by rw [← im]; exact var_at rfl) (by rw [← im2]; exact addI_at (var_at rfl) (var_at rfl)) (by omega) hT, prD_drop, prD_take, cl, Nat.add_sub_cancel_left]
      refine (sSeq_at (env1 := e4) (hp1 := w) (sSet_at s4)).trans ?_
      refine (sSeq_at (env1 := e5) (hp1 := w) (sSet_at (tupL_at (comp_fst (var_at rfl) (by omega))))).trans ?_
      have fd : eTup (aCons (eBin ixG (eVar 5) (eC (.int 0))) (aCons (eVar 5) (aCons (eBlt tupW (aCons C_leaf_fills_1 aNil)) aNil))) e5 w = some (fillD rows m false i, w) := by
        refine (tup_at (ds := [.int r0.1, .tup ((TP.chunk rows m false i).map fun r => .int r.1), .tup ((TP.chunk rows m false i).map fun r => .int r.2)]) (a3_at (ixT_at (i := 0) (var_at rfl) rfl (by rw [ec]; rfl)) (var_at rfl) (tupL_at (comp_snd (var_at rfl) (by omega)))) (by simp)).trans ?_
        unfold fillD begD keysD partsD
        rw [ec]; rfl
      rw [app_at fd (rfl : e5[2]? = _) (by rw [List.length_map, List.length_range]; omega)]
      show some ((Fl.nx, _), w) = _
      congr 3
      show [_, _, Sl.acc ((List.range i).map (fillD rows m false) ++ [fillD rows m false i]), _, _, _] = J (i + 1)
      show _ = [_, _, Sl.acc ((List.range (i + 1)).map (fillD rows m false)), _, _, _]
      rw [List.range_succ, List.map_append]; rfl)
    rw [len] at body
    exact sFor_data src body
  refine runF_at (env := (J q).set 2 (.val (.lst (fillsD rows m false)))) ?_
  refine (sSeq_at ((ifF_at (by rw [eNot_at (hT.tru (var_at rfl)), ne]; rfl)).trans nil_at)).trans ((sSeq_at (rfl : sAcc 2 _ w = some ((.nx, J 0), w))).trans ((sSeq_at loop).trans ?_))
  exact sRet_at rfl
theorem fills_len (rows : TP.Rw) (m : Nat) (fork : Bool) : (fillsD rows m fork).length = TP.qn rows.length m := by simp [fillsD]
theorem pages_len (rows : TP.Rw) (m : Nat) (fork : Bool) (lv first : Nat) : (pagesD rows m fork lv first).length = TP.qn rows.length m := by simp [pagesD]
theorem rangeL_get0 {n i : Nat} {d : DV} (h : (rangeL 0 n)[i]? = some d) : i < n ∧ d = .int (i : Int) := rng_get h
theorem linked_at (w : Hs) (rows : TP.Rw) (m : Nat) (fork : Bool) (lv first : Nat) (hq : TP.qn rows.length m ≤ 1000) : F_linked [.int (lv : Int), .lst (fillsD rows m fork), .int (first : Int)] w = some (.ref w.length, w ++ [.lst (pagesD rows m fork lv first)]) := by
  let q := TP.qn rows.length m
  let Fs := fillsD rows m fork
  let last : Nat → Bool := fun i => ((i : Int) + 1 == (Fs.length : Int))
  let hi : Nat → DV := fun i => if i + 1 = q then .non else begD rows m fork (i + 1)
  let sd : Nat → DV := fun i => if i + 1 = q then .non else .int ((first + (i + 1) : Nat) : Int)
  let J : Nat → En := fun i => [.val (.int lv), .val (.lst Fs), .val (.int first), .val (.ref w.length), sl3 (fun i => .int i) i, sl3 (fun i => .int ((i : Int) + 1)) i, sl3 (fun i => .bl (last i)) i, sl3 hi i, sl3 sd i]
  let W : Nat → Hs := fun i => w ++ [.lst ((List.range i).map (pageK rows m fork lv first))]
  have fl : Fs.length = q := fills_len rows m fork
  have lastE : ∀ i, last i = decide (i + 1 = q) := fun i => by
    show ((i : Int) + 1 == (Fs.length : Int)) = _
    rw [fl]
    by_cases c : i + 1 = q
    · rw [decide_eq_true c]; simp; omega
    · rw [decide_eq_false c]; simp; omega
  have body := forL_atW (b := fun d env => do let env' ← gN 4 d env; l_linked_1 env') J W (rangeL 0 q) (fun i d hd => by
    obtain ⟨hi', ed⟩ := rangeL_get0 hd
    subst ed
    have fi : Fs[i]? = some (fillD rows m fork i) := range_get hi'
    let x5 : Sl := .val (.int ((i : Int) + 1))
    let e4 : En := [.val (.int lv), .val (.lst Fs), .val (.int first), .val (.ref w.length), .val (.int i), sl3 (fun i => .int ((i : Int) + 1)) i, sl3 (fun i => .bl (last i)) i, sl3 hi i, sl3 sd i]
    let e5 : En := [.val (.int lv), .val (.lst Fs), .val (.int first), .val (.ref w.length), .val (.int i), x5, sl3 (fun i => .bl (last i)) i, sl3 hi i, sl3 sd i]
    let e6 : En := [.val (.int lv), .val (.lst Fs), .val (.int first), .val (.ref w.length), .val (.int i), x5, .val (.bl (last i)), sl3 hi i, sl3 sd i]
    let e7 : En := [.val (.int lv), .val (.lst Fs), .val (.int first), .val (.ref w.length), .val (.int i), x5, .val (.bl (last i)), .val (hi i), sl3 sd i]
    let e8 : En := [.val (.int lv), .val (.lst Fs), .val (.int first), .val (.ref w.length), .val (.int i), x5, .val (.bl (last i)), .val (hi i), .val (sd i)]
    show l_linked_1 e4 (W i) = _
    have c1 : ((i : Int) + 1) = ((i + 1 : Nat) : Int) := by simp
    refine (sSeq_at (env1 := e5) (hp1 := W i) (sSet_at (addI_at (var_at rfl) rfl))).trans ?_
    refine (sSeq_at (env1 := e6) (hp1 := W i) (sSet_at (eqI_at (var_at rfl) (len_at (var_at rfl))))).trans ?_
    refine (sSeq_at (env1 := e7) (hp1 := W i) (sSet_at ?_)).trans ?_
    · have t : eB (eVar 6) e6 (W i) = some (last i, W i) := eB_at (var_at rfl)
      rw [lastE i] at t
      by_cases c : i + 1 = q
      · rw [decide_eq_true c] at t
        rw [eIf_T t]
        show _ = some (if i + 1 = q then DV.non else _, _)
        rw [if_pos c]; rfl
      · rw [decide_eq_false c] at t
        rw [eIf_F t]
        show _ = some (if i + 1 = q then DV.non else _, _)
        rw [if_neg c]
        exact ixT_at (i := 0) (ixN_at (i := i + 1) (d := fillD rows m fork (i + 1)) (var_at rfl) (by rw [← c1]; exact var_at rfl) (range_get (by show i + 1 < q; omega))) rfl rfl
    refine (sSeq_at (env1 := e8) (hp1 := W i) (sSet_at ?_)).trans ?_
    · have t : eB (eVar 6) e7 (W i) = some (last i, W i) := eB_at (var_at rfl)
      rw [lastE i] at t
      by_cases c : i + 1 = q
      · rw [decide_eq_true c] at t
        rw [eIf_T t]
        show _ = some (if i + 1 = q then DV.non else _, _)
        rw [if_pos c]; rfl
      · rw [decide_eq_false c] at t
        rw [eIf_F t]
        show _ = some (if i + 1 = q then DV.non else _, _)
        rw [if_neg c]
        exact addN_at (j := i + 1) (var_at rfl) (by rw [← c1]; exact var_at rfl)
    have tp : eTup (aCons (eVar 0) (aCons (eBin ixG (eBin ixG (eVar 1) (eVar 4)) (eC (.int 1))) (aCons (eBin ixG (eBin ixG (eVar 1) (eVar 4)) (eC (.int 2))) (aCons (eVar 7) (aCons (eVar 8) aNil))))) e8 (W i) = some (pageK rows m fork lv first i, W i) :=
      tup_at (a5_at (var_at rfl) (ixT_at (i := 1) (ixN_at (i := i) (var_at rfl) (var_at rfl) fi) rfl rfl) (ixT_at (i := 2) (ixN_at (i := i) (var_at rfl) (var_at rfl) fi) rfl rfl) (var_at rfl) (var_at rfl)) (Nat.le_of_ble_eq_true rfl)
    rw [sDrop_at (append_at (a := w.length) (ds := (List.range i).map (pageK rows m fork lv first)) (d := pageK rows m fork lv first i) (var_at rfl) (getMid w _ []) tp (by rw [List.length_map, List.length_range]; have : i < TP.qn rows.length m := hi'; omega)), setMid]
    show some ((Fl.nx, e8), w ++ [OV.lst _]) = some ((Fl.nx, J (i + 1)), w ++ [OV.lst ((List.range (i + 1)).map (pageK rows m fork lv first))])
    rw [List.range_succ, List.map_append]; rfl)
  rw [rangeL_len] at body
  refine runF_at (env := J q) ?_
  refine (sSeq_at (env1 := J 0) (hp1 := W 0) (sSet_at rfl)).trans ((sSeq_at ?_).trans (sRet_at rfl))
  refine sFor_data (ds := rangeL 0 q) (iRg1_at (m := q) (a1_at ?_) (by show TP.qn rows.length m ≤ _; omega)) body
  rw [len_at (ds := Fs) (var_at rfl), fl]
theorem counts_ev {n m : Nat} (hm : 3 ≤ m) (hm2 : m ≤ 100) (hn : 2 ≤ n) (hl : n ≤ 1000) : F_kid_counts [.int (n : Int), .int (m : Int)] = pure (.lst ((TP.cnts n m).map fun (k : Nat) => DV.int (k : Int))) := by
  have dv : divD (.int (n : Int)) (.int (m : Int)) = pure (.int ((n / m : Nat) : Int)) := by rw [divD_pos _ _ (by omega) (by omega)]; simp
  have md : modD (.int (n : Int)) (.int (m : Int)) = pure (.int ((n % m : Nat) : Int)) := by rw [modD_pos _ _ (by omega)]; simp
  have dl : n / m ≤ n := Nat.div_le_self _ _
  let R : List DV := List.replicate (n / m) (.int (m : Int))
  have ml : mulL (.lst [.int (m : Int)]) (.int ((n / m : Nat) : Int)) = pure (.lst R) := by
    show (guardM (decide (0 ≤ ((n / m : Nat) : Int) ∧ ((n / m : Nat) : Int).toNat ≤ 100000)) >>= fun _ => pure (DV.lst (List.replicate ((n / m : Nat) : Int).toNat (.int (m : Int)))) : M DV) = _
    rw [decide_eq_true ⟨Int.natCast_nonneg _, by rw [Int.toNat_natCast]; omega⟩, Int.toNat_natCast]; rfl
  let e3 : En := [.val (.int n), .val (.int m), .val (.lst R), .val (.int ((n % m : Nat) : Int))]
  have pre : ∀ r, (sSeq (sIf (eB (eBin eqD (eVar 3) (eC (.int 1)))) (sRet (eBin addD (eSl (eVar 2) oNone (oSome (eNeg (eC (.int 1))))) (eLst (aCons (eBin subD (eVar 1) (eC (.int 1))) (aCons (eC (.int 2)) aNil))))) sNil) (sRet (eIf (eB (eBin gtD (eVar 3) (eC (.int 0)))) (eBin addD (eVar 2) (eLst (aCons (eVar 3) aNil))) (eVar 2)))) e3 = r → b_kid_counts [.val (.int n), .val (.int m), .un, .un] = r := fun r h => by
    refine (sSeq_nx (sSet_eq (d := .lst R) (eBin_eq (x := .lst [.int (m : Int)]) (y := .int ((n / m : Nat) : Int)) rfl (eBin_eq (x := .int n) (y := .int m) rfl rfl dv) ml))).trans ?_
    exact (sSeq_nx (sSet_eq (d := .int ((n % m : Nat) : Int)) (eBin_eq (x := .int n) (y := .int m) rfl rfl md))).trans h
  have cons2 : ∀ (a : Nat) (b : List DV), a ≤ 1000 → b.length ≤ 5 → addD (.lst (List.replicate a (.int (m : Int)))) (.lst b) = pure (.lst (List.replicate a (.int (m : Int)) ++ b)) := fun a b ha hb => by
    show (guardM (short (List.replicate a (DV.int (m : Int)) ++ b)) >>= fun _ => pure (DV.lst _) : M DV) = _
    rw [short_ok' (by rw [List.length_append, List.length_replicate]; omega)]; rfl
  refine runF_rt (env := e3) (pre _ ?_)
  unfold TP.cnts
  by_cases r1 : n % m = 1
  · rw [if_pos r1]
    refine sSeq_rt ((sIf_t (eB_eq (eBin_eq (x := .int ((n % m : Nat) : Int)) (y := .int 1) rfl rfl ((eqD_int _ _).trans (by rw [r1]; rfl))))).trans (sRet_eq ?_))
    have q1 : 1 ≤ n / m := by
      have dm := Nat.div_add_mod n m
      rcases Nat.eq_zero_or_pos (n / m) with z | z
      · rw [z, Nat.mul_zero] at dm; omega
      · exact z
    have cut : cutD R none (some (-1)) = List.replicate (n / m - 1) (.int (m : Int)) := by
      unfold D.cutD
      show (R.drop 0).take ((if (-1 : Int) < 0 then ((-1 : Int) + (R.length : Int)).toNat else min (-1 : Int).toNat R.length) - 0) = _
      rw [if_pos (by decide), List.drop_zero, Nat.sub_zero]
      have rl : R.length = n / m := List.length_replicate
      rw [rl, List.take_replicate]
      congr 1; omega
    have sl : eSl (eVar 2) oNone (oSome (eNeg (eC (.int 1)))) e3 = pure (.lst (List.replicate (n / m - 1) (.int (m : Int)))) := by
      have : eSl (eVar 2) oNone (oSome (eNeg (eC (.int 1)))) e3 = pure (.lst (cutD R none (some (-1)))) := rfl
      rw [this, cut]
    refine (eBin_eq sl (y := .lst [.int ((m : Int) - 1), .int 2]) rfl (cons2 _ _ (by omega) (Nat.le_of_ble_eq_true rfl))).trans ?_
    rw [List.map_append, List.map_replicate]
    congr 3
    simp; omega
  · rw [if_neg r1]
    have z : ((n % m : Nat) : Int) ≠ 1 := fun h => r1 (by omega)
    refine (sSeq_nx ((sIf_f (eB_eq (eBin_eq (x := .int ((n % m : Nat) : Int)) (y := .int 1) rfl rfl ((eqD_int _ _).trans (by rw [show (((n % m : Nat) : Int) == 1) = false by simpa using z]))))).trans rfl)).trans (sRet_eq ?_)
    have t : eB (eBin gtD (eVar 3) (eC (.int 0))) e3 = pure (decide (0 < ((n % m : Nat) : Int))) := eB_eq rfl
    by_cases r : 0 < n % m
    · rw [if_pos r]
      rw [decide_eq_true (by omega)] at t
      have : eIf (eB (eBin gtD (eVar 3) (eC (.int 0)))) (eBin addD (eVar 2) (eLst (aCons (eVar 3) aNil))) (eVar 2) e3 = eBin addD (eVar 2) (eLst (aCons (eVar 3) aNil)) e3 := by
        unfold eIf; rw [t, pure_bind, if_pos rfl]
      rw [this]
      refine (eBin_eq (x := .lst R) (y := .lst [.int ((n % m : Nat) : Int)]) rfl rfl (cons2 _ _ (by omega) (Nat.le_of_ble_eq_true rfl))).trans ?_
      rw [List.map_append, List.map_replicate]; rfl
    · rw [if_neg r]
      rw [decide_eq_false (by omega)] at t
      have : eIf (eB (eBin gtD (eVar 3) (eC (.int 0)))) (eBin addD (eVar 2) (eLst (aCons (eVar 3) aNil))) (eVar 2) e3 = eVar 2 e3 := by
        unfold eIf; rw [t, pure_bind, if_neg (by simp)]
      rw [this, List.map_replicate]; rfl
theorem tupR_at {f g : DEx} {env : En} {w : Hs} {a b : Nat} (hf : f env w = some (.int (a : Int), w)) (hg : g env w = some (.int (b : Int), w)) (hab : a ≤ b) (hb : b ≤ 10000) : eTupR (aCons f (aCons g aNil)) env w = some (.tup (rangeL a (b - a)), w) := by
  unfold eTupR
  rw [bind_at (a2_at hf hg)]
  have e : rng2 [.int (a : Int), .int (b : Int)] w = some (rangeL a (b - a), w) := by
    show (guardM (smallI (a : Int) && smallI (b : Int)) >>= fun _ => pure (rangeL a ((b : Int) - a).toNat) : M (List DV)) w = _
    rw [small_nat (by omega), small_nat (by omega), show ((b : Int) - a).toNat = b - a by omega]; rfl
  rw [bind_at e]
  have sh : short (rangeL (a : Int) (b - a)) = true := short_ok' (by rw [rangeL_len]; omega)
  rw [bind_at (show guardM (short (rangeL (a : Int) (b - a))) w = some ((), w) by rw [sh]; rfl)]; rfl
theorem begD_int {rows : TP.Rw} {m : Nat} {fork : Bool} {k : Nat} (h : 1 ≤ (TP.chunk rows m fork k).length) : begD rows m fork k = .int (TP.begI rows m fork k) := by
  unfold begD TP.begI
  cases e : TP.chunk rows m fork k with
  | nil => rw [e] at h; simp at h
  | cons a b => rfl
theorem fills_fst {rows : TP.Rw} {m : Nat} {fork : Bool} (hm : 1 ≤ m) (hf : fork = true → 3 ≤ m) (hn : 1 ≤ rows.length) (first : Nat) : (fillsD rows m fork).map fstD = (TP.nextR rows m fork first).map fun r => .int r.1 := by
  unfold fillsD TP.nextR
  rw [List.map_map, List.map_map]
  refine List.map_congr_left fun k hk => ?_
  show begD rows m fork k = _
  exact begD_int (TP.chunk_len hm hf hn (List.mem_range.mp hk)).2
theorem next_snd (rows : TP.Rw) (m : Nat) (fork : Bool) (first : Nat) (a b : Nat) (hb : b ≤ TP.qn rows.length m) : (((TP.nextR rows m fork first).drop a).take (b - a)).map (fun r => DV.int r.2) = rangeL ((first + a : Nat) : Int) (b - a) := by
  apply List.ext_getElem?
  intro i
  rw [List.getElem?_map, List.getElem?_take]
  by_cases h : i < b - a
  · rw [if_pos h, List.getElem?_drop]
    have l : a + i < TP.qn rows.length m := by omega
    unfold TP.nextR
    rw [List.getElem?_map, List.getElem?_range l]
    unfold rangeL
    rw [range_get h]
    simp only [Option.map_some]
    congr 2
    omega
  · rw [if_neg h, List.getElem?_eq_none (by rw [rangeL_len]; omega)]; rfl
theorem fork_at {w : Hs} {rows : TP.Rw} {m : Nat} {fork : Bool} {first M : Nat} (hm : 1 ≤ m) (hf : fork = true → 3 ≤ m) (hn : 1 ≤ rows.length) (hM : 3 ≤ M) (hM2 : M ≤ 100) (h2 : 2 ≤ TP.qn rows.length m) (hl : TP.qn rows.length m ≤ 1000) (hfi : first ≤ 2000) :
    F_fork_fills [.lst (fillsD rows m fork), .int (first : Int), .int (M : Int)] w = some (.lst (fillsD (TP.nextR rows m fork first) M true), w) := by
  let N := TP.nextR rows m fork first
  have Nl : N.length = TP.qn rows.length m := TP.nextR_len rows m fork first
  let n := TP.qn rows.length m
  have ql : TP.qn N.length M < n := by rw [Nl]; exact TP.qn_less (by omega) h2
  let q := TP.qn N.length M
  let K := fillsD rows m fork
  have kl : K.length = n := fills_len rows m fork
  let S : Nat → Nat := TP.sx N.length M true
  have S0 : S 0 = 0 := TP.sx_zero (by omega) true
  have Slt : ∀ i, i < q → S i < S (i + 1) := fun i h => TP.sx_lt (by omega) (fun _ => hM) (by omega) h
  have Sle : ∀ i, i ≤ q → S i ≤ n := fun i h => by have := TP.sx_le (n := N.length) (m := M) (by omega) true h (by omega); exact Nat.le_trans this (Nat.le_of_eq Nl)
  let C : List DV := (List.range q).map fun i => .int ((S (i + 1) - S i : Nat) : Int)
  have cl : C.length = q := by simp [C]
  have cn : (TP.cnts n M).map (fun (k : Nat) => DV.int (k : Int)) = C := by
    rw [TP.cnts_eq hM h2, List.map_map]
    show _ = (List.range (TP.qn N.length M)).map fun i => DV.int ((TP.sx N.length M true (i + 1) - TP.sx N.length M true i : Nat) : Int)
    rw [Nl]; rfl
  let J : Nat → En := fun i => [.val (.lst K), .val (.int first), .val (.int M), .acc ((List.range i).map (fillD N M true)), .val (.int (S i : Nat)), sl3 (fun i => .int ((S (i + 1) - S i : Nat) : Int)) i, sl3 (fun i => .int (S (i + 1) : Nat)) i, sl3 (fun i => .lst ((TP.chunk N M true i).map fun r => .int r.1)) i]
  have body := forX_atW (b := fun d env => do let env' ← gN 5 d env; l_fork_fills_1 env') J (fun _ => w) C (by rw [cl]; show TP.qn N.length M < _; omega) (fun i d hd => by
    have hi : i < q := by have := (List.getElem?_eq_some_iff.mp hd).1; rwa [cl] at this
    have ed : d = .int ((S (i + 1) - S i : Nat) : Int) := by
      rw [show C[i]? = _ from range_get hi] at hd; exact (Option.some.inj hd).symm
    subst ed
    have s1 := Slt i hi
    have s2 := Sle (i + 1) hi
    obtain ⟨_, c1⟩ := TP.chunk_len (rows := N) (m := M) (fork := true) (by omega) (fun _ => hM) (by omega) hi
    have ck : TP.chunk N M true i = (N.drop (S i)).take (S (i + 1) - S i) := rfl
    obtain ⟨r0, rs, ec⟩ : ∃ r0 rs, TP.chunk N M true i = r0 :: rs := by
      cases e : TP.chunk N M true i with
      | nil => rw [e] at c1; simp at c1
      | cons a b => exact ⟨a, b, rfl⟩
    let x5 : Sl := .val (.int ((S (i + 1) - S i : Nat) : Int))
    let A : Sl := .acc ((List.range i).map (fillD N M true))
    let e5 : En := [.val (.lst K), .val (.int first), .val (.int M), A, .val (.int (S i : Nat)), x5, sl3 (fun i => .int (S (i + 1) : Nat)) i, sl3 (fun i => .lst ((TP.chunk N M true i).map fun r => .int r.1)) i]
    let e6 : En := [.val (.lst K), .val (.int first), .val (.int M), A, .val (.int (S i : Nat)), x5, .val (.int (S (i + 1) : Nat)), sl3 (fun i => .lst ((TP.chunk N M true i).map fun r => .int r.1)) i]
    let e7 : En := [.val (.lst K), .val (.int first), .val (.int M), A, .val (.int (S i : Nat)), x5, .val (.int (S (i + 1) : Nat)), .val (.lst ((TP.chunk N M true i).map fun r => .int r.1))]
    show l_fork_fills_1 e5 w = _
    refine (sSeq_at (env1 := e6) (hp1 := w) (sSet_at (d := .int (S (i + 1) : Nat)) ?_)).trans ?_
    · rw [addN_at (i := S i) (j := S (i + 1) - S i) (var_at rfl) (var_at rfl), show S i + (S (i + 1) - S i) = S (i + 1) by omega]
    refine (sSeq_at (env1 := e7) (hp1 := w) (sSet_at ?_)).trans ?_
    · have sl : eSl (eVar 0) (oSome (eVar 4)) (oSome (eVar 6)) e6 w = some (.lst ((K.drop (S i)).take (S (i + 1) - S i)), w) := slice_at (var_at rfl) (var_at rfl) (var_at rfl) (by omega)
      refine (comp_at (m := fstD) (nw := false) (xLs_data sl) (fun _ _ => rfl) (fun x hx => ?_) (by rw [List.length_take, List.length_drop, kl]; show _ < 100000; have : n ≤ 1000 := hl; omega)).trans ?_
      · have hx := List.mem_of_mem_drop (List.mem_of_mem_take hx)
        obtain ⟨k, hk, rfl⟩ := List.mem_map.mp hx
        exact ixT_at (i := 0) rfl rfl rfl
      · rw [List.map_take, List.map_drop, fills_fst hm hf hn first, ck, List.map_take, List.map_drop]
    have tp : eTup (aCons (eBin ixG (eVar 7) (eC (.int 0))) (aCons (eBlt tupW (aCons (eSl (eVar 7) (oSome (eC (.int 1))) oNone) aNil)) (aCons (eTupR (aCons (eBin addD (eVar 1) (eVar 4)) (aCons (eBin addD (eVar 1) (eVar 6)) aNil))) aNil))) e7 w = some (fillD N M true i, w) := by
      have t1 : eBin ixG (eVar 7) (eC (.int 0)) e7 w = some (.int r0.1, w) := ixN_at (i := 0) (var_at rfl) rfl (by rw [ec]; rfl)
      have t2 : eBlt tupW (aCons (eSl (eVar 7) (oSome (eC (.int 1))) oNone) aNil) e7 w = some (.tup (((TP.chunk N M true i).map fun r => DV.int r.1).drop 1), w) := tupL_at (tail_at (a := 1) (var_at rfl) rfl)
      have t3 := tupR_at (a := first + S i) (b := first + S (i + 1)) (w := w) (env := e7) (addN_at (var_at rfl) (var_at rfl) : eBin addD (eVar 1) (eVar 4) e7 w = _) (addN_at (var_at rfl) (var_at rfl) : eBin addD (eVar 1) (eVar 6) e7 w = _) (by omega) (by have : n ≤ 1000 := hl; omega)
      rw [tup_at (a3_at t1 t2 t3) (Nat.le_of_ble_eq_true rfl)]
      unfold fillD keysD partsD begD
      rw [show first + S (i + 1) - (first + S i) = S (i + 1) - S i by omega, ← next_snd rows m fork first (S i) (S (i + 1)) s2, ← List.map_drop]
      rw [ec]; rw [← ck, ec]; rfl
    refine (sSeq_at (app_at tp (rfl : e7[3]? = _) (by rw [List.length_map, List.length_range]; have : q < n := ql; have : n ≤ 1000 := hl; omega))).trans ?_
    refine (sSet_at (var_at rfl)).trans ?_
    show some ((Fl.nx, [_, _, _, Sl.acc ((List.range i).map (fillD N M true) ++ [fillD N M true i]), Sl.val (.int (S (i + 1) : Nat)), _, _, _]), w) = some ((Fl.nx, [_, _, _, Sl.acc ((List.range (i + 1)).map (fillD N M true)), Sl.val (.int (S (i + 1) : Nat)), _, _, _]), w)
    rw [List.range_succ, List.map_append]; rfl)
  rw [cl] at body
  refine runF_at (env := (J q).set 3 (.val (.lst (fillsD N M true)))) ?_
  refine (sSeq_at (rfl : sAcc 3 _ w = some ((.nx, _), w))).trans ((sSeq_at (env1 := J 0) (hp1 := w) (sSet_at (d := .int (S 0 : Nat)) (by rw [S0]; rfl))).trans ((sSeq_at (env1 := J q) (hp1 := w) ?_).trans (show sRet (eVar 3) ((J q).set 3 (.val (.lst (fillsD N M true)))) w = _ from sRet_at rfl)))
  refine sForX_data (xLs_data (f := eCall 2 F_kid_counts (aCons (eBlt lenG (aCons (eVar 0) aNil)) (aCons (eVar 2) aNil))) (ds := C) ?_) body
  refine eCall2_at (x := .int (n : Int)) (y := .int (M : Int)) ?_ (var_at rfl) (at_of ((counts_ev hM hM2 h2 hl).trans (by rw [cn])) w)
  rw [len_at (ds := K) (var_at rfl), kl]
def emp : DV := .tup [.int 0, .tup [], .tup [], .non, .non]
theorem pf0 (d : DV) : putFD ("page_room" : Str) d [] = [(("page_room" : Str), d)] := by rfl
theorem pf1 (x d : DV) : putFD ("kept" : Str) d [(("page_room" : Str), x)] = [(("page_room" : Str), x), (("kept" : Str), d)] := by rfl
theorem pf2 (x y d : DV) : putFD ("top" : Str) d [(("page_room" : Str), x), (("kept" : Str), y)] = [(("page_room" : Str), x), (("kept" : Str), y), (("top" : Str), d)] := by rfl
theorem pf3 (x y z d : DV) : putFD ("read_count" : Str) d [(("page_room" : Str), x), (("kept" : Str), y), (("top" : Str), z)] = [(("page_room" : Str), x), (("kept" : Str), y), (("top" : Str), z), (("read_count" : Str), d)] := by rfl
theorem pf4 (x y z u d : DV) : putFD ("write_count" : Str) d [(("page_room" : Str), x), (("kept" : Str), y), (("top" : Str), z), (("read_count" : Str), u)] = [(("page_room" : Str), x), (("kept" : Str), y), (("top" : Str), z), (("read_count" : Str), u), (("write_count" : Str), d)] := by rfl
theorem init_at (r : Int) (hp : Hs) : F_Shelf___init__ [.ref hp.length, .int r] (hp ++ [.ins "Shelf" []]) = some (.non, hp ++ [.ins "Shelf" (shF r (hp.length + 1) 0 0 0), .lst [emp]]) := by
  simp [F_Shelf___init__, b_Shelf___init__, runF, sSeq, sSet, sRet, sRetN, sIf, sNil, sDis, disE, sAcc, sApp, eBin, eVar, eC, eB, asB, eAnd, eOr, eNot, eAndV, eOrV, eNotV, eIf, eNeg, aNil, aCons, eTup, eLst, eCall, eBlt, guardM, gN, addD_int, subD_int, gtD_int, ltD_int, leD_int, geD_int, negD_int, pow30, pow21, pow9, eqD_int, neD_int, sDrop, sFldD, sFldA, sAug, sAsg, gSb, putG, eMth, kindG, eFld, getF, setF, onI, onL, onD, mAppend, mInsert, mDPop, mDGet, ixG, lenG, lenF, optM, keyM, dkey, asI, addI, subI, eMeth, eMake, eNewL, eNewD0, eNewD, evP, run_bind, run_map, run_pure, run_fail, run_guard, run_get, run_set, run_new, getSet_self, getSet_ne, getApp_new, getMid, setMid, pf0, pf1, pf2, pf3, pf4, short, lim, shF, emp]
def shW (w : Hs) (room t b : Int) (ps : List DV) : Hs := w ++ [.ins "Shelf" (shF room (w.length + 1) t 0 b), .lst ps]
theorem shW_n (w : Hs) (room t b : Int) (ps : List DV) : (shW w room t b ps)[w.length]? = some (.ins "Shelf" (shF room (w.length + 1) t 0 b)) := by simp [shW]
theorem shW_k (w : Hs) (room t b : Int) (ps : List DV) : (shW w room t b ps)[w.length + 1]? = some (.lst ps) := by
  unfold shW
  rw [List.getElem?_append_right (by omega), Nat.add_sub_cancel_left]; rfl
theorem shW_set (w : Hs) (room t b t' b' : Int) (ps ps' : List DV) : ((shW w room t b ps).set w.length (.ins "Shelf" (shF room (w.length + 1) t' 0 b'))).set (w.length + 1) (.lst ps') = shW w room t' b' ps' := by
  unfold shW
  rw [List.set_append_right _ _ (Nat.le_refl _), Nat.sub_self, List.set_append_right _ _ (by omega), Nat.add_sub_cancel_left]; rfl
theorem shW_set1 (w : Hs) (room t b t' b' : Int) (ps : List DV) : (shW w room t b ps).set w.length (.ins "Shelf" (shF room (w.length + 1) t' 0 b')) = shW w room t' b' ps := by
  unfold shW
  rw [List.set_append_right _ _ (Nat.le_refl _), Nat.sub_self]; rfl
theorem shW_old {w : Hs} {i : Nat} (h : i < w.length) (room t b : Int) (ps : List DV) : (shW w room t b ps)[i]? = w[i]? := List.getElem?_append_left h
theorem smake_at {r : Int} {fa : DAx} {env : En} {hp0 hp : Hs} (ha : fa env hp0 = some ([.int r], hp)) : eMake "Shelf" 2 F_Shelf___init__ fa env hp0 = some (.ref hp.length, shW hp r 0 0 [emp]) := by
  unfold eMake
  rw [bind_at ha]
  have al : allocW (.ins "Shelf" []) hp = some (.ref hp.length, hp ++ [.ins "Shelf" []]) := rfl
  have gd : guardM (decide ([DV.int r].length + 1 = 2)) hp = some ((), hp) := rfl
  rw [bind_at gd, bind_at al, bind_at (init_at r hp)]; rfl
theorem shelf_of_at {w : Hs} {a room : Nat} {ps : List DV} (ha : w[a]? = some (.lst ps)) (h1 : 1 ≤ ps.length) (hl : ps.length ≤ 5000) : F_shelf_of [.ref a, .int (room : Int)] w = some (.ref w.length, shW w room ((ps.length - 1 : Nat) : Int) ps.length ps) := by
  have la : a < w.length := (List.getElem?_eq_some_iff.mp ha).1
  have pa : ∀ t b qs, (shW w room t b qs)[a]? = some (.lst ps) := fun t b qs => by rw [shW_old la]; exact ha
  obtain ⟨p0, pr, ep⟩ : ∃ p0 pr, ps = p0 :: pr := by cases ps with | nil => simp at h1 | cons x y => exact ⟨x, y, rfl⟩
  let e1 : Sl → En := fun z => [.val (.ref a), .val (.int room), .val (.ref w.length), z]
  refine runF_at (env := e1 (sl3 (fun i => pr.getD i .non) pr.length)) ?_
  refine (sSeq_at (env1 := e1 .un) (hp1 := shW w room 0 0 [emp]) (sSet_at (smake_at (a1_at (var_at rfl))))).trans ?_
  refine (sSeq_at (env1 := e1 .un) (hp1 := shW w room 0 1 [p0]) (sDrop_at (meth_at (a := w.length) (var_at rfl) (shW_n ..) (shF_nowrite ..) (a2_at rfl (ixR_at (i := 0) (d := p0) (var_at rfl) (pa _ _ _) rfl (by rw [ep]; rfl))) rfl ((write_at (i := 0) (d := p0) (shW_n ..) (shW_k ..) (by omega) (by simp)).trans (by rw [shW_set]; rfl))))).trans ?_
  let J : Nat → En := fun i => e1 (sl3 (fun i => pr.getD i .non) i)
  let W : Nat → Hs := fun i => shW w room 0 ((1 + i : Nat) : Int) (p0 :: pr.take i)
  have prl : pr.length + 1 = ps.length := by rw [ep]; rfl
  have body := forX_atW (b := fun d env => do let env' ← gN 3 d env; l_shelf_of_1 env') J W pr (by omega) (fun i d hd => by
    have hi : i < pr.length := (List.getElem?_eq_some_iff.mp hd).1
    have gd : pr.getD i .non = d := by rw [List.getD_eq_getElem?_getD, hd]; rfl
    show l_shelf_of_1 (e1 (.val d)) (W i) = some ((.nx, e1 (.val (pr.getD i .non))), W (i + 1))
    rw [gd]
    have ly : F_Shelf_lay [.ref w.length, d] (W i) = some (.int ((p0 :: pr.take i).length : Int), W (i + 1)) := (lay_at (pg := d) (shW_n ..) (shW_k ..) (by omega) (by rw [List.length_cons, List.length_take]; omega)).trans (by
      rw [shW_set]
      show some (_, shW w room 0 (((1 + i : Nat) : Int) + 1) (p0 :: pr.take i ++ [d])) = some (_, shW w room 0 ((1 + (i + 1) : Nat) : Int) (p0 :: pr.take (i + 1)))
      rw [List.take_add_one, hd, show (((1 + i : Nat) : Int) + 1) = ((1 + (i + 1) : Nat) : Int) by omega]; rfl)
    exact sDrop_at (meth_at (a := w.length) (var_at rfl) (shW_n ..) (shF_nolay ..) (a1_at (var_at rfl)) rfl ly))
  refine (sSeq_at (env1 := J pr.length) (hp1 := shW w room 0 ((1 + pr.length : Nat) : Int) ps) ?_).trans ?_
  · refine (sForX_data (xLs_data (ds := pr) ?_) body).trans ?_
    · have := tailG_at (a := 1) (n := a) (ds := ps) (f := eVar 0) (g := eC (.int 1)) (env := J 0) (hp := W 0) (var_at rfl) (pa _ _ _) rfl
      exact this.trans (by rw [ep]; rfl)
    · show some ((_, J pr.length), shW w room 0 _ (p0 :: pr.take pr.length)) = _
      rw [List.take_length, ← ep]
  have ml := make_root_at (i := ps.length - 1) (hp := shW w room 0 ((1 + pr.length : Nat) : Int) ps) (shW_n ..) (shW_k ..) (by omega)
  rw [shW_set1] at ml
  refine (sSeq_at (env1 := J pr.length) (hp1 := shW w room ((ps.length - 1 : Nat) : Int) ps.length ps) (sDrop_at (meth_at (a := w.length) (var_at rfl) (shW_n ..) (shF_nomake ..) (a1_at (v := .int ((ps.length - 1 : Nat) : Int)) ?_) rfl (ml.trans (by rw [show ((1 + pr.length : Nat) : Int) = (ps.length : Int) by omega]))))).trans (sRet_at rfl)
  rw [subI_at (lenR_at (n := a) (var_at rfl) (pa _ _ _)) rfl]
  congr 3; omega
def packG (M : Nat) : Nat → TP.Rw → Nat → Bool → Nat → Nat → List DV → List DV
  | 0, _, _, _, _, _, P => P
  | k + 1, rows, m, fork, lv, first, P => if TP.qn rows.length m ≤ 1 then P else packG M k (TP.nextR rows m fork first) M true (lv + 1) P.length (P ++ pagesD (TP.nextR rows m fork first) M true (lv + 1) P.length)
theorem qn_le {n m : Nat} (hm : 1 ≤ m) : TP.qn n m ≤ max 1 n := by
  obtain ⟨q1, q2, q3⟩ := TP.qn_facts (n := n) hm
  have : (TP.qn n m - 1) * 1 ≤ (TP.qn n m - 1) * m := Nat.mul_le_mul_left _ hm
  omega
theorem extendN_at {o : DEx} {fa : DAx} {env : En} {hp hp1 : Hs} {a b : Nat} {ds es : List DV} (ho : o env hp = some (.ref a, hp)) (h : hp[a]? = some (.lst ds)) (ha : fa env hp = some ([.ref b], hp1)) (h1 : hp1[a]? = some (.lst ds)) (hb : hp1[b]? = some (.lst es)) (hl : ds.length + es.length ≤ 100000) : eMth "list" mExtend o fa env hp = some (.non, hp1.set a (.lst (ds ++ es))) := by
  unfold eMth
  rw [bind_at ho]
  have e2 : kindG "list" (.ref a) hp = some ((), hp) := by
    show (getW a >>= _) hp = _
    rw [bind_at (getW_of h)]; rfl
  rw [bind_at e2, bind_at ha]
  show (getW a >>= _) hp1 = _
  rw [bind_at (getW_of h1)]
  show (getW b >>= _) hp1 = _
  rw [bind_at (getW_of hb)]
  show (guardM (decide (ds.length + es.length ≤ lim)) >>= fun _ => setW a (.lst (ds ++ es)) >>= fun _ => pure DV.non) hp1 = _
  rw [show decide (ds.length + es.length ≤ lim) = true from decide_eq_true hl]; rfl
theorem qn_pos_rows {rows : TP.Rw} {m : Nat} (hm : 1 ≤ m) (h : ¬ TP.qn rows.length m ≤ 1) : 1 ≤ rows.length := by
  have := qn_le (n := rows.length) hm
  omega
theorem pack_loop {T : DV} {room : Nat} (hr : 2 ≤ room) (hr2 : room ≤ 50) (w : Hs) : ∀ (k : Nat) (rows : TP.Rw) (m : Nat) (fork : Bool) (lv first : Nat) (P : List DV) (t : Hs) (fuel : Nat), TP.qn rows.length m ≤ k → k < fuel → 1 ≤ m → (fork = true → 3 ≤ m) → rows.length ≤ 1000 → P.length = first + TP.qn rows.length m → P.length + 2 * TP.qn rows.length m ≤ 2000 →
    ∃ lv' fs t', whileD (eB (eBin gtD (eBlt lenG (aCons (eVar 3) aNil)) (eC (.int 1)))) l_packed_1 fuel [.val T, .val (.int (room : Int)), .val (.int (lv : Int)), .val (.lst (fillsD rows m fork)), .val (.ref w.length)] (w ++ .lst P :: t) = some ((.nx, [.val T, .val (.int room), .val lv', .val fs, .val (.ref w.length)]), w ++ .lst (packG (room + 1) k rows m fork lv first P) :: t') ∧ (packG (room + 1) k rows m fork lv first P).length ≤ P.length + 2 * TP.qn rows.length m ∧ P.length ≤ (packG (room + 1) k rows m fork lv first P).length := by
  intro k
  induction k with
  | zero =>
    intro rows m fork lv first P t fuel h1 h2 hm
    have := (TP.qn_facts (n := rows.length) hm).1
    omega
  | succ k ih =>
    intro rows m fork lv first P t fuel hq hfu hm hf hl hP hP2
    obtain ⟨fuel, rfl⟩ : ∃ f, fuel = f + 1 := ⟨fuel - 1, by omega⟩
    have tst : eB (eBin gtD (eBlt lenG (aCons (eVar 3) aNil)) (eC (.int 1))) [.val T, .val (.int (room : Int)), .val (.int (lv : Int)), .val (.lst (fillsD rows m fork)), .val (.ref w.length)] (w ++ .lst P :: t) = some (decide (1 < TP.qn rows.length m), w ++ .lst P :: t) := by
      refine (eB_at (gtI_at (len_at (ds := fillsD rows m fork) (var_at rfl)) rfl)).trans ?_
      rw [fills_len]
      congr 2
      by_cases c : 1 < TP.qn rows.length m
      · rw [decide_eq_true c, decide_eq_true (by omega)]
      · rw [decide_eq_false c, decide_eq_false (by omega)]
    unfold packG
    by_cases c : TP.qn rows.length m ≤ 1
    · rw [if_pos c]
      refine ⟨.int lv, .lst (fillsD rows m fork), t, while_F' (tst.trans (by rw [decide_eq_false (by omega)])), by omega, Nat.le_refl _⟩
    · rw [if_neg c]
      have n1 := qn_pos_rows hm c
      have qle := qn_le (n := rows.length) hm
      let N := TP.nextR rows m fork first
      have Nl : N.length = TP.qn rows.length m := TP.nextR_len rows m fork first
      have lessq : TP.qn N.length (room + 1) < TP.qn rows.length m := by rw [Nl]; exact TP.qn_less (by omega) (by omega)
      have half : 2 * TP.qn N.length (room + 1) ≤ TP.qn rows.length m + 1 := by
        obtain ⟨a1, a2, a3⟩ := TP.qn_facts (n := N.length) (show 1 ≤ room + 1 by omega)
        have : (TP.qn N.length (room + 1) - 1) * 2 ≤ (TP.qn N.length (room + 1) - 1) * (room + 1) := Nat.mul_le_mul_left _ (by omega)
        omega
      let Q := P ++ pagesD N (room + 1) true (lv + 1) P.length
      have Ql : Q.length = P.length + TP.qn N.length (room + 1) := by rw [List.length_append, pages_len]
      let E : DV → DV → En := fun x y => [.val T, .val (.int room), .val x, .val y, .val (.ref w.length)]
      have hp : (w ++ .lst P :: t)[w.length]? = some (.lst P) := getMid w _ t
      have s1 : sAug 2 addI (eC (.int 1)) (E (.int lv) (.lst (fillsD rows m fork))) (w ++ .lst P :: t) = some ((.nx, E (.int ((lv : Int) + 1)) (.lst (fillsD rows m fork))), w ++ .lst P :: t) := rfl
      have c1 : ((lv : Int) + 1) = ((lv + 1 : Nat) : Int) := by simp
      have s2 : eCall 3 F_fork_fills (aCons (eVar 3) (aCons (eBin subD (eBlt lenG (aCons (eVar 4) aNil)) (eBlt lenG (aCons (eVar 3) aNil))) (aCons (eBin addD (eVar 1) (eC (.int 1))) aNil))) (E (.int ((lv : Int) + 1)) (.lst (fillsD rows m fork))) (w ++ .lst P :: t) = some (.lst (fillsD N (room + 1) true), w ++ .lst P :: t) := by
        refine call_at (a3_at (var_at rfl) (v' := .int (first : Int)) ?_ (addN_at (j := 1) (var_at rfl) rfl)) rfl (fork_at hm hf n1 (by omega) (by omega) (by omega) (by omega) (by omega))
        rw [subI_at (lenR_at (n := w.length) (var_at rfl) hp) (len_at (ds := fillsD rows m fork) (var_at rfl)), fills_len]
        congr 3; omega
      have lk := linked_at (w ++ .lst P :: t) N (room + 1) true (lv + 1) P.length (by omega)
      have s3 : eMth "list" mExtend (eVar 4) (aCons (eCall 3 F_linked (aCons (eVar 2) (aCons (eVar 3) (aCons (eBlt lenG (aCons (eVar 4) aNil)) aNil)))) aNil) (E (.int ((lv : Int) + 1)) (.lst (fillsD N (room + 1) true))) (w ++ .lst P :: t) = some (.non, w ++ .lst Q :: (t ++ [.lst (pagesD N (room + 1) true (lv + 1) P.length)])) := by
        have e0 : (w ++ .lst P :: t) ++ [OV.lst (pagesD N (room + 1) true (lv + 1) P.length)] = w ++ .lst P :: (t ++ [.lst (pagesD N (room + 1) true (lv + 1) P.length)]) := by simp
        refine (extendN_at (a := w.length) (b := (w ++ .lst P :: t).length) (ds := P) (es := pagesD N (room + 1) true (lv + 1) P.length) (hp1 := w ++ .lst P :: (t ++ [.lst (pagesD N (room + 1) true (lv + 1) P.length)])) (var_at rfl) hp (a1_at ?_) (getMid w _ _) ?_ (by rw [pages_len]; omega)).trans (by rw [setMid])
        · refine call_at (a3_at (var_at rfl) (var_at rfl) (lenR_at (n := w.length) (var_at rfl) hp)) rfl ?_
          rw [c1, ← e0]; exact lk
        · rw [← e0, List.getElem?_append_right (Nat.le_refl _), Nat.sub_self]; rfl
      have step : l_packed_1 (E (.int lv) (.lst (fillsD rows m fork))) (w ++ .lst P :: t) = some ((.nx, E (.int ((lv + 1 : Nat) : Int)) (.lst (fillsD N (room + 1) true))), w ++ .lst Q :: (t ++ [.lst (pagesD N (room + 1) true (lv + 1) P.length)])) := by
        rw [← c1]
        exact (sSeq_at s1).trans ((sSeq_at (sSet_at s2)).trans (sDrop_at s3))
      obtain ⟨lv', fs, t', r1, r2, r3⟩ := ih N (room + 1) true (lv + 1) P.length Q (t ++ [.lst (pagesD N (room + 1) true (lv + 1) P.length)]) fuel (by omega) (by omega) (by omega) (fun _ => by omega) (by omega) Ql (by omega)
      refine ⟨lv', fs, t', (while_T (tst.trans (by rw [decide_eq_true (by omega)])) step).trans r1, Nat.le_trans r2 (by omega), Nat.le_trans (by omega) r3⟩
def packP (rows : TP.Rw) (room : Nat) : List DV := packG (room + 1) (TP.qn rows.length room) rows room false 0 0 (pagesD rows room false 0 0)
theorem packed_at {w : Hs} {T : DV} {rows : TP.Rw} {room : Nat} (hT : RowsAt w T rows) (hr : 2 ≤ room) (hr2 : room ≤ 50) (hl : rows.length ≤ 300) : ∃ t, F_packed [T, .int (room : Int)] w = some (.ref (w ++ t).length, shW (w ++ t) room (((packP rows room).length - 1 : Nat) : Int) (packP rows room).length (packP rows room)) ∧ 1 ≤ (packP rows room).length ∧ (packP rows room).length ≤ 2000 := by
  have qle := qn_le (n := rows.length) (show 1 ≤ room by omega)
  have q1 := (TP.qn_facts (n := rows.length) (show 1 ≤ room by omega)).1
  have lf := leaf_at hT (show 1 ≤ room by omega) (by omega) (by omega)
  have lk := linked_at w rows room false 0 0 (by omega)
  obtain ⟨lv', fs, t', e, b1, b2⟩ := pack_loop (T := T) hr hr2 w (TP.qn rows.length room) rows room false 0 0 (pagesD rows room false 0 0) [] 100000 (Nat.le_refl _) (by omega) (by omega) (by simp) (by omega) (by rw [pages_len]; omega) (by rw [pages_len]; omega)
  rw [pages_len] at b1 b2
  have b1 : (packP rows room).length ≤ TP.qn rows.length room + 2 * TP.qn rows.length room := b1
  have b2 : TP.qn rows.length room ≤ (packP rows room).length := b2
  refine ⟨.lst (packP rows room) :: t', ?_, by omega, by omega⟩
  have sh := shelf_of_at (w := w ++ .lst (packP rows room) :: t') (a := w.length) (room := room) (ps := packP rows room) (getMid w _ t') (by omega) (by omega)
  refine runF_at (env := [.val T, .val (.int room), .val lv', .val fs, .val (.ref w.length)]) ?_
  refine (sSeq_at (env1 := [.val T, .val (.int room), .val (.int ((0 : Nat) : Int)), .un, .un]) (hp1 := w) (sSet_at rfl)).trans ?_
  refine (sSeq_at (env1 := [.val T, .val (.int room), .val (.int ((0 : Nat) : Int)), .val (.lst (fillsD rows room false)), .un]) (hp1 := w) (sSet_at (call_at (a2_at (var_at rfl) (var_at rfl)) rfl lf))).trans ?_
  refine (sSeq_at (env1 := [.val T, .val (.int room), .val (.int ((0 : Nat) : Int)), .val (.lst (fillsD rows room false)), .val (.ref w.length)]) (hp1 := w ++ [.lst (pagesD rows room false 0 0)]) (sSet_at (call_at (a3_at (var_at rfl) (var_at rfl) rfl) rfl lk))).trans ?_
  refine (sSeq_at (show L_packed_1 _ _ = _ by unfold L_packed_1; exact e)).trans ?_
  exact sRet_at (call_at (a2_at (var_at rfl) (var_at rfl)) rfl sh)
theorem pageK_pg {room : Nat} {L : TP.Lv} (O : L.Ok room) {k : Nat} (hk : k < L.q) : pageK L.rows L.m L.fork L.lv L.first k = pgD (TP.pageP L k) := by
  have im : ∀ (c : TP.Rw) (f : Int × Int → Int), (c.map fun r => DV.int (f r)) = (c.map f).map DV.int := fun c f => by rw [List.map_map]; rfl
  unfold pageK keysD partsD
  show _ = DV.tup [.int (L.lv : Int), .tup ((((TP.chunk L.rows L.m L.fork k).drop (if L.fork then 1 else 0)).map (·.1)).map .int), .tup (((TP.chunk L.rows L.m L.fork k).map (·.2)).map .int), opt (if k + 1 = L.q then none else some (TP.begI L.rows L.m L.fork (k + 1))), oN (if k + 1 = L.q then none else some (L.first + (k + 1)))]
  rw [im, im]
  by_cases e : k + 1 = L.q
  · rw [if_pos (show k + 1 = TP.qn L.rows.length L.m from e), if_pos (show k + 1 = TP.qn L.rows.length L.m from e), if_pos e, if_pos e]; rfl
  · have n1 := O.rows1 (k := k) (by omega)
    have c := (TP.chunk_len (rows := L.rows) (m := L.m) (fork := L.fork) O.m_pos O.m3 n1 (k := k + 1) (by have : TP.qn L.rows.length L.m = L.q := rfl; omega)).2
    rw [if_neg (show ¬ k + 1 = TP.qn L.rows.length L.m from e), if_neg (show ¬ k + 1 = TP.qn L.rows.length L.m from e), if_neg e, if_neg e, begD_int c]; rfl
theorem pagesD_pg {room : Nat} {L : TP.Lv} (O : L.Ok room) : pagesD L.rows L.m L.fork L.lv L.first = (TP.pagesP L).map pgD := by
  unfold pagesD TP.pagesP
  rw [List.map_map]
  exact List.map_congr_left fun k hk => pageK_pg O (List.mem_range.mp hk)
theorem packG_pg {room : Nat} : ∀ (k : Nat) (L : TP.Lv) (P : List TR.Pg), L.Ok room → P.length = L.first + L.q → packG (room + 1) k L.rows L.m L.fork L.lv L.first (P.map pgD) = (TP.packL room k L P).map pgD
  | 0, L, P, O, h => rfl
  | k + 1, L, P, O, h => by
    unfold packG TP.packL
    have hq : TP.qn L.rows.length L.m = L.q := rfl
    rw [hq]
    have q1 := O.q1
    by_cases c : L.q ≤ 1
    · rw [if_pos c, if_pos c]
    · rw [if_neg c, if_neg c]
      have O' := O.next (by omega)
      have ih := packG_pg k (TP.nextL room L) (P ++ TP.pagesP (TP.nextL room L)) O' (by rw [List.length_append, h]; simp [TP.pagesP]; rfl)
      rw [← ih, List.map_append, ← pagesD_pg O', List.length_map, h]
      rfl
def lv0 (rows : TP.Rw) (room : Nat) : TP.Lv := ⟨rows, room, false, 0, 0⟩
def packPg (rows : TP.Rw) (room : Nat) : List TR.Pg := TP.packL room (lv0 rows room).q (lv0 rows room) (TP.pagesP (lv0 rows room))
theorem lv0_ok {rows : TP.Rw} {room : Nat} (hr : 2 ≤ room) (hs : rows.Pairwise (fun a b => a.1 < b.1)) : (lv0 rows room).Ok room where
  room2 := hr
  m1 := rfl
  fk := ⟨fun h => (by cases h), fun h => absurd h (Nat.lt_irrefl _)⟩
  rise := hs
  two := fun h => (by cases h)
theorem packP_pg {rows : TP.Rw} {room : Nat} (hr : 2 ≤ room) (hs : rows.Pairwise (fun a b => a.1 < b.1)) : packP rows room = (packPg rows room).map pgD := by
  have O := lv0_ok hr hs
  unfold packPg
  rw [← packG_pg _ _ _ O (by simp [TP.pagesP, lv0]), ← pagesD_pg O]
  rfl
theorem packPg_ok {rows : TP.Rw} {room : Nat} (hr : 2 ≤ room) (hs : rows.Pairwise (fun a b => a.1 < b.1)) : ∃ bg L, TP.Pk room (lv0 rows room) (packPg rows room) bg L ∧ L.q = 1 :=
  TP.Pk.all _ (TP.Pk.base (lv0_ok hr hs) rfl rfl) (Nat.le_succ _)
def pageD (l : Int) (ks ps : List Int) (hi sd : Option Int) : DV := .tup [.int l, .tup (ks.map .int), .tup (ps.map .int), opt hi, opt sd]
def hiB (hi : Option Int) (k : Int) : Bool := match hi with
  | none => false
  | some h => decide (h ≤ k)
def cLe (ks : List Int) (k : Int) : Nat := (ks.filter fun x => decide (x ≤ k)).length
def cLt (ks : List Int) (k : Int) : Nat := (ks.filter fun x => decide (x < k)).length
theorem cLe_le (ks : List Int) (k : Int) : cLe ks k ≤ ks.length := List.length_filter_le _ _
theorem cLt_le (ks : List Int) (k : Int) : cLt ks k ≤ ks.length := List.length_filter_le _ _
theorem cna_ev (ks : List Int) (k : Int) (hl : ks.length ≤ 100) : F_count_not_above [.tup (ks.map .int), .int k] = pure (.int (cLe ks k)) := by
  refine runF_rt (sRet_eq ?_) <;> try exact []
  have := eComp_ints (src := iTp (eVar 0)) (idx := [1]) (t := eB (eBin leD (eVar 0) (eVar 1))) (f := eVar 0) (env := [.val (.tup (ks.map .int)), .val (.int k)]) (ns := ks) (p := fun x => decide (x ≤ k)) (g := fun x => x) rfl (by omega) (fun _ => rfl) (fun _ => rfl)
  show eBlt lenF (aCons (eComp (iTp (eVar 0)) [1] (eB (eBin leD (eVar 0) (eVar 1))) (eVar 0)) aNil) [.val (.tup (ks.map .int)), .val (.int k)] = _
  simp only [eBlt, aCons, aNil, this, pure_bind, lenF_lst, List.length_map]
  rfl
theorem cb_ev (ks : List Int) (k : Int) (hl : ks.length ≤ 100) : F_count_below [.tup (ks.map .int), .int k] = pure (.int (cLt ks k)) := by
  refine runF_rt (sRet_eq ?_) <;> try exact []
  have := eComp_ints (src := iTp (eVar 0)) (idx := [1]) (t := eB (eBin ltD (eVar 0) (eVar 1))) (f := eVar 0) (env := [.val (.tup (ks.map .int)), .val (.int k)]) (ns := ks) (p := fun x => decide (x < k)) (g := fun x => x) rfl (by omega) (fun _ => rfl) (fun _ => rfl)
  show eBlt lenF (aCons (eComp (iTp (eVar 0)) [1] (eB (eBin ltD (eVar 0) (eVar 1))) (eVar 0)) aNil) [.val (.tup (ks.map .int)), .val (.int k)] = _
  simp only [eBlt, aCons, aNil, this, pure_bind, lenF_lst, List.length_map]
  rfl
theorem beyond_ev (l : Int) (ks ps : List Int) (hi sd : Option Int) (k : Int) : F_beyond [pageD l ks ps hi sd, .int k] = pure (.bl (hiB hi k)) := by
  cases hi <;> rfl
theorem kid_ev (l : Int) (ks ps : List Int) (hi sd : Option Int) (k : Int) (hl : ks.length ≤ 100) (hp : ps.length = ks.length + 1) : F_kid_for [pageD l ks ps hi sd, .int k] = pure (.int (ps.getD (cLe ks k) 0)) := by
  have h := cLe_le ks k
  have a := atI_int ps (i := (cLe ks k : Int)) (by omega) (by omega)
  rw [Int.toNat_natCast] at a
  refine runF_rt (sRet_eq (eBin_eq (x := .tup (ps.map .int)) (y := .int (cLe ks k)) rfl (eCall2 (x := .tup (ks.map .int)) (y := .int k) rfl rfl (cna_ev ks k hl)) ?_)) <;> try exact []
  simp [ixD, a]
theorem worth_ev (l : Int) (ks ps : List Int) (hi sd : Option Int) (k : Int) (hl : ks.length ≤ 100) (hp : ps.length = ks.length) : F_worth_of [pageD l ks ps hi sd, .int k] = pure (if cLt ks k = cLe ks k then .non else .int (ps.getD (cLt ks k) 0)) := by
  have h := cLe_le ks k
  have hlt := cLt_le ks k
  refine runF_rt (env := [.val (pageD l ks ps hi sd), .val (.int k), .val (.tup (ks.map .int)), .val (.int (cLt ks k))]) ?_
  refine (sSeq_nx (sSet_eq (d := .tup (ks.map .int)) rfl)).trans ?_
  refine (sSeq_nx (sSet_eq (d := .int (cLt ks k)) (eCall2 (x := .tup (ks.map .int)) (y := .int k) rfl rfl (cb_ev ks k hl)))).trans ?_
  have tst : eB (eBin eqD (eVar 3) (eCall 2 F_count_not_above (aCons (eVar 2) (aCons (eVar 1) aNil)))) [.val (pageD l ks ps hi sd), .val (.int k), .val (.tup (ks.map .int)), .val (.int (cLt ks k))] = pure (decide (cLt ks k = cLe ks k)) := by
    refine eB_eq (eBin_eq (x := .int (cLt ks k)) (y := .int (cLe ks k)) rfl (eCall2 (x := .tup (ks.map .int)) (y := .int k) rfl rfl (cna_ev ks k hl)) ?_)
    rw [eqD_int]
    congr 2
    rw [Bool.eq_iff_iff]; simp only [beq_iff_eq, decide_eq_true_eq]; omega
  by_cases hc : cLt ks k = cLe ks k
  · rw [if_pos hc]
    exact sSeq_rt ((sIf_t (tst.trans (by simp [hc]))).trans (sRet_eq rfl))
  · rw [if_neg hc]
    refine (sSeq_nx ((sIf_f (tst.trans (by simp [hc]))).trans rfl)).trans ?_
    have hlt2 : cLt ks k < ks.length := by
      have : cLt ks k ≤ cLe ks k := by
        unfold cLt cLe
        rw [← List.countP_eq_length_filter, ← List.countP_eq_length_filter]
        exact List.countP_mono_left fun x _ hx => by simp at hx ⊢; omega
      omega
    have a := atI_int ps (i := (cLt ks k : Int)) (by omega) (by omega)
    rw [Int.toNat_natCast] at a
    exact sRet_eq (eBin_eq (x := .tup (ps.map .int)) (y := .int (cLt ks k)) rfl rfl (by simp [ixD, a]))
theorem runs (ks ns : List Int) (a b : Nat) (h : ks.length ≤ 1000) (hn : ns.length ≤ 10) : (do let x ← slD (.tup (ks.map .int)) none (some (a : Int)); let y ← addD x (.tup (ns.map .int)); let d ← slD (.tup (ks.map .int)) (some (b : Int)) none; addD y d : M DV) = pure (.tup ((ks.take a ++ ns ++ ks.drop b).map .int)) := by
  rw [slD_take, slD_drop]
  simp only [pure_bind, addD]
  rw [short_ok' (by simp; omega)]
  simp only [guardM, if_true, pure_bind]
  rw [short_ok' (by simp; omega)]
  simp [List.map_take, List.map_drop]
def insI (ks : List Int) (c : Nat) (k : Int) : List Int := ks.take c ++ k :: ks.drop c
theorem slices (ks : List Int) (c : Nat) (k : Int) (h : ks.length ≤ 1000) : (do let a ← slD (.tup (ks.map .int)) none (some (c : Int)); let b ← addD a (.tup [.int k]); let d ← slD (.tup (ks.map .int)) (some (c : Int)) none; addD b d : M DV) = pure (.tup ((insI ks c k).map .int)) := by
  rw [slD_take, slD_drop]
  simp only [pure_bind, addD]
  rw [short_ok' (by simp; omega)]
  simp only [guardM, if_true, pure_bind]
  rw [short_ok' (by simp; omega)]
  simp [insI, List.map_take, List.map_drop]
def cutAt (l : Int) (n : Nat) : Nat := if l = 0 then n / 2 else n / 2 + 1
theorem pgD_eq (p : TR.Pg) : pgD p = pageD p.lv p.ks p.ps p.hi (p.sd.map fun n => (n : Int)) := by
  unfold pgD pageD; cases p.sd <;> rfl
theorem pg_beyond (p : TR.Pg) (k : Int) : F_beyond [pgD p, .int k] = pure (.bl (TR.beyondP p k)) := by
  rw [pgD_eq, beyond_ev]
  unfold hiB TR.beyondP
  cases p.hi <;> rfl
theorem pg_kid (p : TR.Pg) (k c : Int) (hl : p.ks.length ≤ 100) (hp : p.ps.length = p.ks.length + 1) (hc : p.ps[TR.cLe p.ks k]? = some c) : F_kid_for [pgD p, .int k] = pure (.int c) := by
  rw [pgD_eq, kid_ev _ _ _ _ _ _ hl hp]
  rw [List.getD_eq_getElem?_getD, show p.ps[cLe p.ks k]? = some c from hc]; rfl
theorem pg_worth (p : TR.Pg) (k : Int) (hl : p.ks.length ≤ 100) (hp : p.ps.length = p.ks.length) : F_worth_of [pgD p, .int k] = pure (opt (TR.worthP p k)) := by
  rw [pgD_eq, worth_ev _ _ _ _ _ _ hl hp]
  unfold TR.worthP
  by_cases h : cLt p.ks k = cLe p.ks k
  · rw [if_pos h, if_pos (show TR.cLt p.ks k = TR.cLe p.ks k from h)]; rfl
  · rw [if_neg h, if_neg (show ¬ TR.cLt p.ks k = TR.cLe p.ks k from h)]
    have h1 := TR.cLt_cLe p.ks k
    have h2 := TR.cLe_le p.ks k
    have h3 : ¬ TR.cLt p.ks k = TR.cLe p.ks k := h
    rw [List.getD_eq_getElem?_getD, show p.ps[cLt p.ks k]? = some (p.ps[TR.cLt p.ks k]'(by omega)) from List.getElem?_eq_getElem _, List.getElem?_eq_getElem (show TR.cLt p.ks k < p.ps.length by omega)]; rfl
theorem pg_full (p : TR.Pg) (room : Nat) : F_is_full [pgD p, .int room] = pure (.bl (decide (room < p.ks.length))) := by
  have e : (decide ((room : Int) < ((p.ks.map DV.int).length : Int))) = decide (room < p.ks.length) := by
    rw [List.length_map]; congr 1; rw [eq_iff_iff]; omega
  refine runF_rt (env := [.val (pgD p), .val (.int room)]) (sRet_eq (eBin_eq (x := .int ((p.ks.map DV.int).length : Int)) (y := .int room) rfl rfl ((gtD_int _ _).trans ?_)))
  rw [← e]
theorem cell_ev (ns : List Int) (k : Nat) (hl : ns.length ≤ 63) : ∃ x, F_law_cell_at [.lst (ns.map .int), .int k] = pure (.int x) := by
  by_cases h : k < ns.length
  · have a := atI_nat (xs := ns.map DV.int) (j := k) (v := .int ns[k]) (by simp [h])
    refine ⟨ns[k], ?_⟩
    have h' : (k : Int) < (ns.length : Int) := by omega
    simp [F_law_cell_at, b_law_cell_at, runF, sSeq, sSet, sRet, sRetN, sIf, sNil, sDis, disE, sAcc, sApp, eBin, eVar, eC, eB, asB, eAnd, eOr, eNot, eAndV, eOrV, eNotV, eIf, eNeg, aNil, aCons, eTup, eLst, eCall, eBlt, guardM, gN, addD_int, subD_int, gtD_int, ltD_int, leD_int, geD_int, negD_int, pow30, pow21, pow9, eqD_int, neD_int, lenF, ixD, asI, a, h']
  · have h' : ¬ (k : Int) < (ns.length : Int) := by omega
    exact ⟨0, by simp [F_law_cell_at, b_law_cell_at, runF, sSeq, sSet, sRet, sRetN, sIf, sNil, sDis, disE, sAcc, sApp, eBin, eVar, eC, eB, asB, eAnd, eOr, eNot, eAndV, eOrV, eNotV, eIf, eNeg, aNil, aCons, eTup, eLst, eCall, eBlt, guardM, gN, addD_int, subD_int, gtD_int, ltD_int, leD_int, geD_int, negD_int, pow30, pow21, pow9, eqD_int, neD_int, lenF, h']⟩
def chn (c t : Int) : Int := c % 715827883 + t * t + 3 * t + 11
def churn (c t : Int) : Int := chn c t * chn c t % 715827883 * (chn c t + 7 * t) % 715827883 / 9
theorem churn_ev (c t : Int) (h0 : 0 ≤ t) (h1 : t ≤ 100) : F_law_churn [.int c, .int t] = pure (.int (churn c t)) := by
  have a0 : 0 ≤ c % 715827883 := Int.emod_nonneg _ (by decide)
  have a1 : c % 715827883 < 715827883 := Int.emod_lt_of_pos _ (by decide)
  have tt : 0 ≤ t * t ∧ t * t ≤ 10000 := ⟨Int.mul_nonneg h0 h0, by
    have : t * t ≤ 100 * 100 := Int.mul_le_mul h1 h1 h0 (by decide)
    omega⟩
  have n0 : 0 ≤ chn c t ∧ chn c t < 2000000000 := by unfold chn; omega
  have q0 : 0 ≤ chn c t * chn c t % 715827883 := Int.emod_nonneg _ (by decide)
  have q1 : chn c t * chn c t % 715827883 < 715827883 := Int.emod_lt_of_pos _ (by decide)
  refine runF_rt (env := [.val (.int c), .val (.int t), .val (.int (chn c t))]) ((sSeq_nx (sSet_eq (d := .int (chn c t)) ?_)).trans (sRet_eq ?_))
  · exact eBin_eq (x := .int (c % 715827883 + t * t + 3 * t)) (y := .int 11) (eBin_eq (x := .int (c % 715827883 + t * t)) (y := .int (3 * t)) (eBin_eq (x := .int (c % 715827883)) (y := .int (t * t)) (eBin_eq (x := .int c) (y := .int 715827883) rfl rfl (modD_pos _ _ (by decide))) (eBin_eq (x := .int t) (y := .int t) rfl rfl (mulD_l _ _ (by omega) (by omega))) rfl) (eBin_eq (x := .int 3) (y := .int t) rfl rfl (mulD_l _ _ (by decide) (by decide))) rfl) rfl rfl
  · refine eBin_eq (x := .int (chn c t * chn c t % 715827883 * (chn c t + 7 * t) % 715827883)) (y := .int 9) (eBin_eq (x := .int (chn c t * chn c t % 715827883 * (chn c t + 7 * t))) (y := .int 715827883) (eBin_eq (x := .int (chn c t * chn c t % 715827883)) (y := .int (chn c t + 7 * t)) (eBin_eq (x := .int (chn c t * chn c t)) (y := .int 715827883) (eBin_eq (x := .int (chn c t)) (y := .int (chn c t)) rfl rfl (mulD_l _ _ (by omega) (by omega))) rfl (modD_pos _ _ (by decide))) (eBin_eq (x := .int (chn c t)) (y := .int (7 * t)) rfl (eBin_eq (x := .int 7) (y := .int t) rfl rfl (mulD_l _ _ (by decide) (by decide))) rfl) (mulD_l _ _ (by omega) (by omega))) rfl (modD_pos _ _ (by decide))) rfl (divD_pos _ _ (by decide) (by decide))
theorem cm_ev (c k m : Int) (t : En) (h0 : 0 ≤ k) (h1 : k ≤ 100) (hm : 0 < m) : eBin modD (eCall 2 F_law_churn (aCons (eVar 0) (aCons (eC (.int k)) aNil))) (eC (.int m)) (.val (.int c) :: t) = pure (.int (churn c k % m)) :=
  eBin_eq (x := .int (churn c k)) (y := .int m) (eCall2 (x := .int c) (y := .int k) rfl rfl (churn_ev c k h0 h1)) rfl (modD_pos _ _ hm)
theorem min240 (x : Int) (h : 0 ≤ x) : ∃ s : Nat, s ≤ 240 ∧ minF [.int 240, .int x] = pure (.int (s : Int)) := by
  refine ⟨(if x < 240 then x else 240).toNat, by split <;> omega, ?_⟩
  show pure (DV.int (if x < 240 then x else 240)) = _
  congr 2
  split <;> omega
theorem size_ev (c : Int) (room : Nat) (h2 : room ≤ 50) : ∃ s : Nat, s ≤ 240 ∧ F_law_size [.int c, .int (room : Int)] = pure (.int (s : Int)) := by
  let kd := churn c 2 % 4
  let e1 : En := [.val (.int c), .val (.int room), .val (.int kd)]
  have s1 : sSet 2 (eBin modD (eCall 2 F_law_churn (aCons (eVar 0) (aCons (eC (.int 2)) aNil))) (eC (.int 4))) [.val (.int c), .val (.int room), .un] = pure (.nx, e1) := sSet_eq (cm_ev c 2 4 _ (by decide) (by decide) (by decide))
  have t : ∀ j : Int, eB (eBin eqD (eVar 2) (eC (.int j))) e1 = pure (kd == j) := fun j => eB_eq (eBin_eq (x := .int kd) (y := .int j) rfl rfl (eqD_int _ _))
  have nx : ∀ {t : DTx} {A B : DSx} {env : En} {r}, t env = pure false → B env = r → sSeq (sIf t A sNil) B env = r := fun h1 h2 => (sSeq_nx ((sIf_f h1).trans rfl)).trans h2
  have rt : ∀ {t : DTx} {A B : DSx} {env env' : En} {d : DV}, t env = pure true → A env = pure (.rt d, env') → sSeq (sIf t A sNil) B env = pure (.rt d, env') := fun h1 h2 => sSeq_rt ((sIf_t h1).trans h2)
  have natm : ∀ (k m : Int), 0 < m → m ≤ 240 → ∃ s : Nat, s ≤ 240 ∧ churn c k % m = (s : Int) := fun k m h h' => ⟨(churn c k % m).toNat, by have := mod_rng (churn c k) m h; omega, by have := mod_rng (churn c k) m h; omega⟩
  have r3 := mod_rng (churn c 3) 3 (by decide)
  have r4 := mod_rng (churn c 4) 3 (by decide)
  have rr : (room : Int) * ((room : Int) + 1) = ((room * (room + 1) : Nat) : Int) := by simp
  have rb : room * (room + 1) ≤ 50 * 51 := Nat.mul_le_mul h2 (by omega)
  by_cases k0 : (kd == 0) = true
  · obtain ⟨s, hs, es⟩ := natm 3 10 (by decide) (by decide)
    exact ⟨s, hs, runF_rt (env := e1) ((sSeq_nx s1).trans (rt ((t 0).trans (by rw [k0])) (sRet_eq ((cm_ev c 3 10 _ (by decide) (by decide) (by decide)).trans (by rw [es])))))⟩
  have f0 := (t 0).trans (by rw [Bool.eq_false_iff.mpr k0])
  by_cases k1 : (kd == 1) = true
  · obtain ⟨s, hs, es⟩ := min240 ((room : Int) * ((room : Int) + 1) * (1 + churn c 3 % 3) + churn c 4 % 3 * (room : Int)) (by
      have a : 0 ≤ (room : Int) * ((room : Int) + 1) * (1 + churn c 3 % 3) := Int.mul_nonneg (Int.mul_nonneg (by omega) (by omega)) (by omega)
      have b : 0 ≤ churn c 4 % 3 * (room : Int) := Int.mul_nonneg (by omega) (by omega)
      omega)
    refine ⟨s, hs, runF_rt (env := e1) ((sSeq_nx s1).trans (nx f0 (rt ((t 1).trans (by rw [k1])) (sRet_eq (at_pure fun w => blt_at (a2_at rfl (at_of (eBin_eq (x := .int ((room : Int) * ((room : Int) + 1) * (1 + churn c 3 % 3))) (y := .int (churn c 4 % 3 * (room : Int))) (eBin_eq (x := .int ((room : Int) * ((room : Int) + 1))) (y := .int (1 + churn c 3 % 3)) (eBin_eq (x := .int room) (y := .int ((room : Int) + 1)) rfl rfl (mulD_l _ _ (by omega) (by omega))) (eBin_eq (x := .int 1) (y := .int (churn c 3 % 3)) rfl (cm_ev c 3 3 _ (by decide) (by decide) (by decide)) rfl) (mulD_r _ _ (by omega) (by omega))) (eBin_eq (x := .int (churn c 4 % 3)) (y := .int room) (cm_ev c 4 3 _ (by decide) (by decide) (by decide)) rfl (mulD_l _ _ (by omega) (by omega))) rfl) w)) (at_of es w))))))⟩
  have f1 := (t 1).trans (by rw [Bool.eq_false_iff.mpr k1])
  by_cases k2 : (kd == 2) = true
  · have r5 := mod_rng (churn c 4) (2 * (room : Int) + 1) (by omega)
    obtain ⟨s, hs, es⟩ := min240 ((room : Int) * ((room : Int) + 1) * ((room : Int) + 1) + churn c 4 % (2 * (room : Int) + 1)) (by
      have a : 0 ≤ (room : Int) * ((room : Int) + 1) * ((room : Int) + 1) := Int.mul_nonneg (Int.mul_nonneg (by omega) (by omega)) (by omega)
      omega)
    refine ⟨s, hs, runF_rt (env := e1) ((sSeq_nx s1).trans (nx f0 (nx f1 (rt ((t 2).trans (by rw [k2])) (sRet_eq (at_pure fun w => blt_at (a2_at rfl (at_of (eBin_eq (x := .int ((room : Int) * ((room : Int) + 1) * ((room : Int) + 1))) (y := .int (churn c 4 % (2 * (room : Int) + 1))) (eBin_eq (x := .int ((room : Int) * ((room : Int) + 1))) (y := .int ((room : Int) + 1)) (eBin_eq (x := .int room) (y := .int ((room : Int) + 1)) rfl rfl (mulD_l _ _ (by omega) (by omega))) rfl (mulD_r _ _ (by omega) (by omega))) (eBin_eq (x := .int (churn c 4)) (y := .int (2 * (room : Int) + 1)) (eCall2 (x := .int c) (y := .int 4) rfl rfl (churn_ev c 4 (by decide) (by decide))) (eBin_eq (x := .int (2 * (room : Int))) (y := .int 1) (eBin_eq (x := .int 2) (y := .int room) rfl rfl (mulD_l _ _ (by decide) (by decide))) rfl rfl) (modD_pos _ _ (by omega))) rfl) w)) (at_of es w)))))))⟩
  · obtain ⟨s, hs, es⟩ := natm 3 200 (by decide) (by decide)
    exact ⟨s, hs, runF_rt (env := e1) ((sSeq_nx s1).trans (nx f0 (nx f1 (nx ((t 2).trans (by rw [Bool.eq_false_iff.mpr k2])) (sRet_eq ((cm_ev c 3 200 _ (by decide) (by decide) (by decide)).trans (by rw [es])))))))⟩
theorem cellN_ev (ns : List Int) (i : Int) (h0 : 0 ≤ i) (hl : ns.length ≤ 63) : ∃ x, F_law_cell_at [.lst (ns.map .int), .int i] = pure (.int x) := by
  obtain ⟨x, e⟩ := cell_ev ns i.toNat hl
  exact ⟨x, by rw [← e, Int.toNat_of_nonneg h0]⟩
theorem row_turn (ns : List Int) (hl : ns.length ≤ 63) (s : DV) (key wd : Int) (hw : wd = 0 ∨ wd = 1 ∨ wd = 2) (rows : TP.Rw) (hr : rows.length ≤ 1000) (i : Nat) (z6 z7 : Sl) :
    ∃ (key' wt : Int) (y6 y7 : Sl), key < key' ∧ l_law_table_1 [.val (.lst (ns.map .int)), .val s, .val (.int key), .val (.int wd), .acc (prD rows), .val (.int (i : Int)), z6, z7] = pure (.nx, [.val (.lst (ns.map .int)), .val s, .val (.int key'), .val (.int wd), .acc (prD (rows ++ [(key, wt)])), .val (.int (i : Int)), y6, y7]) := by
  let S : DV := .lst (ns.map .int)
  have mx : eBlt maxF (aCons (eC (.int 1)) (aCons (eBlt lenF (aCons (eVar 0) aNil)) aNil)) [.val S, .val s, .val (.int key), .val (.int wd), .acc (prD rows), .val (.int (i : Int)), z6, z7] = pure (.int (if (ns.length : Int) > 1 then ns.length else 1)) := by
    simp [eBlt, aCons, aNil, eC, eVar, lenF, maxF, S]
  have mp : 0 < (if (ns.length : Int) > 1 then (ns.length : Int) else 1) := by split <;> omega
  obtain ⟨x, ex⟩ := cellN_ev ns ((i : Int) % (if (ns.length : Int) > 1 then (ns.length : Int) else 1)) (Int.emod_nonneg _ (by omega)) hl
  let cell := x + (i : Int)
  let E : Int → Sl → Sl → Sl → En := fun k a z6 z7 => [.val S, .val s, .val (.int k), .val (.int wd), a, .val (.int (i : Int)), z6, z7]
  have s6 : sSet 6 (eBin addD (eCall 2 F_law_cell_at (aCons (eVar 0) (aCons (eBin modD (eVar 5) (eBlt maxF (aCons (eC (.int 1)) (aCons (eBlt lenF (aCons (eVar 0) aNil)) aNil)))) aNil))) (eVar 5)) (E key (.acc (prD rows)) z6 z7) = pure (.nx, E key (.acc (prD rows)) (.val (.int cell)) z7) :=
    sSet_eq (eBin_eq (x := .int x) (y := .int i) (eCall2 (x := S) (y := .int ((i : Int) % (if (ns.length : Int) > 1 then (ns.length : Int) else 1))) rfl (eBin_eq (x := .int i) rfl mx (modD_pos _ _ mp)) ex) rfl rfl)
  have ch : ∀ (k m : Int) (a z7 : Sl), 0 ≤ k → k ≤ 100 → 0 < m → eBin modD (eCall 2 F_law_churn (aCons (eVar 6) (aCons (eC (.int k)) aNil))) (eC (.int m)) (E key a (.val (.int cell)) z7) = pure (.int (churn cell k % m)) := fun k m a z7 h0 h1 hm =>
    eBin_eq (x := .int (churn cell k)) (y := .int m) (eCall2 (x := .int cell) (y := .int k) rfl rfl (churn_ev cell k h0 h1)) rfl (modD_pos _ _ hm)
  have s7 : sSet 7 (eBin subD (eBin modD (eCall 2 F_law_churn (aCons (eVar 6) (aCons (eC (.int 7)) aNil))) (eC (.int 9))) (eC (.int 4))) (E key (.acc (prD rows)) (.val (.int cell)) z7) = pure (.nx, E key (.acc (prD rows)) (.val (.int cell)) (.val (.int (churn cell 7 % 9 - 4)))) :=
    sSet_eq (eBin_eq (x := .int (churn cell 7 % 9)) (y := .int 4) (ch 7 9 _ _ (by decide) (by decide) (by decide)) rfl rfl)
  have sI : ∃ wt : Int, sIf (eB (eBin eqD (eBin modD (eCall 2 F_law_churn (aCons (eVar 6) (aCons (eC (.int 8)) aNil))) (eC (.int 3))) (eC (.int 0)))) (sSet 7 (eBin subD (eBin modD (eBin addD (eBin mulD (eVar 6) (eC (.int 13))) (eBin powD (eC (.int 10)) (eC (.int 30)))) (eBin addD (eBin mulD (eC (.int 2)) (eBin powD (eC (.int 10)) (eC (.int 30)))) (eC (.int 1)))) (eBin powD (eC (.int 10)) (eC (.int 30))))) sNil (E key (.acc (prD rows)) (.val (.int cell)) (.val (.int (churn cell 7 % 9 - 4)))) = pure (.nx, E key (.acc (prD rows)) (.val (.int cell)) (.val (.int wt))) := by
    have t : eB (eBin eqD (eBin modD (eCall 2 F_law_churn (aCons (eVar 6) (aCons (eC (.int 8)) aNil))) (eC (.int 3))) (eC (.int 0))) (E key (.acc (prD rows)) (.val (.int cell)) (.val (.int (churn cell 7 % 9 - 4)))) = pure (churn cell 8 % 3 == 0) := eB_eq (eBin_eq (x := .int (churn cell 8 % 3)) (y := .int 0) (ch 8 3 _ _ (by decide) (by decide) (by decide)) rfl (eqD_int _ _))
    by_cases c : (churn cell 8 % 3 == 0) = true
    · refine ⟨(cell * 13 + 1000000000000000000000000000000) % (2 * 1000000000000000000000000000000 + 1) - 1000000000000000000000000000000, (sIf_t (t.trans (by rw [c]))).trans (sSet_eq ?_)⟩
      exact eBin_eq (x := .int ((cell * 13 + 1000000000000000000000000000000) % (2 * 1000000000000000000000000000000 + 1))) (y := .int 1000000000000000000000000000000) (eBin_eq (x := .int (cell * 13 + 1000000000000000000000000000000)) (y := .int (2 * 1000000000000000000000000000000 + 1)) (eBin_eq (x := .int (cell * 13)) (y := .int 1000000000000000000000000000000) (eBin_eq (x := .int cell) (y := .int 13) rfl rfl (mulD_r _ _ (by decide) (by decide))) pow30 rfl) (eBin_eq (x := .int (2 * 1000000000000000000000000000000)) (y := .int 1) (eBin_eq (x := .int 2) (y := .int 1000000000000000000000000000000) rfl pow30 (mulD_l _ _ (by decide) (by decide))) rfl rfl) (modD_pos _ _ (by decide))) pow30 (subD_int _ _)
    · exact ⟨_, (sIf_f (t.trans (by rw [Bool.eq_false_iff.mpr c]))).trans rfl⟩
  obtain ⟨wt, eI⟩ := sI
  have sA : sApp 4 (eTup (aCons (eVar 2) (aCons (eVar 7) aNil))) (E key (.acc (prD rows)) (.val (.int cell)) (.val (.int wt))) = pure (.nx, E key (.acc (prD (rows ++ [(key, wt)]))) (.val (.int cell)) (.val (.int wt))) := at_pure fun w => by
    refine (app_at (d := .tup [.int key, .int wt]) (ds := prD rows) (tup_at (a2_at (var_at rfl) (var_at rfl)) (Nat.le_of_ble_eq_true rfl)) rfl (by rw [prD_len]; omega)).trans ?_
    show some ((Fl.nx, E key (.acc (prD rows ++ [.tup [.int key, .int wt]])) _ _), w) = _
    rw [show prD rows ++ [DV.tup [.int key, .int wt]] = prD (rows ++ [(key, wt)]) by rw [← prD_app]; rfl]
  have sK : ∃ key' : Int, key < key' ∧ eBin addD (eBin addD (eVar 2) (eC (.int 1))) (eBin mulD (eBin modD (eCall 2 F_law_churn (aCons (eVar 6) (aCons (eC (.int 9)) aNil))) (eBin ixD (eLst (aCons (eC (.int 1)) (aCons (eC (.int 3)) (aCons (eBin mulD (eC (.int 8)) (eBin powD (eC (.int 10)) (eC (.int 7)))) aNil)))) (eVar 3))) (eBin ixD (eLst (aCons (eC (.int 1)) (aCons (eC (.int 1)) (aCons (eBin powD (eC (.int 10)) (eC (.int 19))) aNil)))) (eVar 3))) (E key (.acc (prD (rows ++ [(key, wt)]))) (.val (.int cell)) (.val (.int wt))) = pure (.int key') := by
    let e := E key (.acc (prD (rows ++ [(key, wt)]))) (.val (.int cell)) (.val (.int wt))
    have c9 : eCall 2 F_law_churn (aCons (eVar 6) (aCons (eC (.int 9)) aNil)) e = pure (.int (churn cell 9)) := eCall2 (x := .int cell) (y := .int 9) rfl rfl (churn_ev cell 9 (by decide) (by decide))
    have l1 : eLst (aCons (eC (.int 1)) (aCons (eC (.int 3)) (aCons (eBin mulD (eC (.int 8)) (eBin powD (eC (.int 10)) (eC (.int 7)))) aNil))) e = pure (.lst [.int 1, .int 3, .int 80000000]) := rfl
    have l2 : eLst (aCons (eC (.int 1)) (aCons (eC (.int 1)) (aCons (eBin powD (eC (.int 10)) (eC (.int 19))) aNil))) e = pure (.lst [.int 1, .int 1, .int 10000000000000000000]) := rfl
    have fin : ∀ (A B : Int), 0 < A → A ≤ 80000000 → 0 < B → ixD (.lst [.int 1, .int 3, .int 80000000]) (.int wd) = pure (.int A) → ixD (.lst [.int 1, .int 1, .int 10000000000000000000]) (.int wd) = pure (.int B) → ∃ key' : Int, key < key' ∧ eBin addD (eBin addD (eVar 2) (eC (.int 1))) (eBin mulD (eBin modD (eCall 2 F_law_churn (aCons (eVar 6) (aCons (eC (.int 9)) aNil))) (eBin ixD (eLst (aCons (eC (.int 1)) (aCons (eC (.int 3)) (aCons (eBin mulD (eC (.int 8)) (eBin powD (eC (.int 10)) (eC (.int 7)))) aNil)))) (eVar 3))) (eBin ixD (eLst (aCons (eC (.int 1)) (aCons (eC (.int 1)) (aCons (eBin powD (eC (.int 10)) (eC (.int 19))) aNil)))) (eVar 3))) e = pure (.int key') := fun A B hA hA2 hB h1 h2 => by
      have r := mod_rng (churn cell 9) A hA
      exact ⟨key + 1 + churn cell 9 % A * B, by have := Int.mul_nonneg r.1 (Int.le_of_lt hB); omega, eBin_eq (x := .int (key + 1)) (y := .int (churn cell 9 % A * B)) rfl (eBin_eq (x := .int (churn cell 9 % A)) (y := .int B) (eBin_eq (x := .int (churn cell 9)) (y := .int A) c9 (eBin_eq l1 (y := .int wd) rfl h1) (modD_pos _ _ hA)) (eBin_eq l2 (y := .int wd) rfl h2) (mulD_l _ _ (by omega) (by omega))) rfl⟩
    rcases hw with rfl | rfl | rfl
    · exact fin 1 1 (by decide) (by decide) (by decide) rfl rfl
    · exact fin 3 1 (by decide) (by decide) (by decide) rfl rfl
    · exact fin 80000000 10000000000000000000 (by decide) (by decide) (by decide) rfl rfl
  obtain ⟨key', lk, eK⟩ := sK
  exact ⟨key', wt, _, _, lk, (sSeq_nx s6).trans ((sSeq_nx s7).trans ((sSeq_nx eI).trans ((sSeq_nx sA).trans (sSet_eq eK))))⟩
theorem table_ev (ns : List Int) (hl : ns.length ≤ 63) (s : Nat) (hs : s ≤ 240) : ∃ rows : TP.Rw, rows.length = s ∧ rows.Pairwise (fun a b => a.1 < b.1) ∧ F_law_table [.lst (ns.map .int), .int (s : Int)] = pure (.lst (prD rows)) := by
  let S : DV := .lst (ns.map .int)
  obtain ⟨x, ex⟩ := cell_ev ns 1 hl
  let wd := churn x 6 % 3
  have hw : wd = 0 ∨ wd = 1 ∨ wd = 2 := by have := mod_rng (churn x 6) 3 (by decide); show churn x 6 % 3 = 0 ∨ churn x 6 % 3 = 1 ∨ churn x 6 % 3 = 2; omega
  have cc : ∀ (k : Int) (e : En), 0 ≤ k → k ≤ 100 → eVar 0 e = pure S → eCall 2 F_law_churn (aCons (eCall 2 F_law_cell_at (aCons (eVar 0) (aCons (eC (.int 1)) aNil))) (aCons (eC (.int k)) aNil)) e = pure (.int (churn x k)) := fun k e h0 h1 hv =>
    eCall2 (x := .int x) (y := .int k) (eCall2 (x := S) (y := .int 1) hv rfl ex) rfl (churn_ev x k h0 h1)
  let E : DV → Sl → Sl → En := fun k w a => [.val S, .val (.int s), .val k, w, a, .un, .un, .un]
  have s2 : sSet 2 (eBin subD (eBin modD (eCall 2 F_law_churn (aCons (eCall 2 F_law_cell_at (aCons (eVar 0) (aCons (eC (.int 1)) aNil))) (aCons (eC (.int 5)) aNil))) (eC (.int 40))) (eC (.int 30))) [.val S, .val (.int s), .un, .un, .un, .un, .un, .un] = pure (.nx, E (.int (churn x 5 % 40 - 30)) .un .un) :=
    sSet_eq (eBin_eq (x := .int (churn x 5 % 40)) (y := .int 30) (eBin_eq (x := .int (churn x 5)) (y := .int 40) (cc 5 _ (by decide) (by decide) rfl) rfl (modD_pos _ _ (by decide))) rfl rfl)
  have s3 : sSet 3 (eBin modD (eCall 2 F_law_churn (aCons (eCall 2 F_law_cell_at (aCons (eVar 0) (aCons (eC (.int 1)) aNil))) (aCons (eC (.int 6)) aNil))) (eC (.int 3))) (E (.int (churn x 5 % 40 - 30)) .un .un) = pure (.nx, E (.int (churn x 5 % 40 - 30)) (.val (.int wd)) .un) :=
    sSet_eq (eBin_eq (x := .int (churn x 6)) (y := .int 3) (cc 6 _ (by decide) (by decide) rfl) rfl (modD_pos _ _ (by decide)))
  have sI : ∃ k0 : Int, sIf (eB (eBin eqD (eVar 3) (eC (.int 2)))) (sSet 2 (eBin subD (eCall 2 F_law_churn (aCons (eCall 2 F_law_cell_at (aCons (eVar 0) (aCons (eC (.int 1)) aNil))) (aCons (eC (.int 5)) aNil))) (eBin powD (eC (.int 10)) (eC (.int 30))))) sNil (E (.int (churn x 5 % 40 - 30)) (.val (.int wd)) .un) = pure (.nx, E (.int k0) (.val (.int wd)) .un) := by
    have t : eB (eBin eqD (eVar 3) (eC (.int 2))) (E (.int (churn x 5 % 40 - 30)) (.val (.int wd)) .un) = pure (wd == 2) := eB_eq (eBin_eq (x := .int wd) (y := .int 2) rfl rfl (eqD_int _ _))
    by_cases c : (wd == 2) = true
    · exact ⟨churn x 5 - 1000000000000000000000000000000, (sIf_t (t.trans (by rw [c]))).trans (sSet_eq (eBin_eq (x := .int (churn x 5)) (y := .int 1000000000000000000000000000000) (cc 5 _ (by decide) (by decide) rfl) pow30 rfl))⟩
    · exact ⟨_, (sIf_f (t.trans (by rw [Bool.eq_false_iff.mpr c]))).trans rfl⟩
  obtain ⟨k0, eI⟩ := sI
  have L := forL_range0 (b := fun d env => (gN 5 d env >>= fun env' => l_law_table_1 env'))
    (fun i env => ∃ (rows : TP.Rw) (key : Int) (z5 z6 z7 : Sl), env = [.val S, .val (.int s), .val (.int key), .val (.int wd), .acc (prD rows), z5, z6, z7] ∧ rows.length = i ∧ rows.Pairwise (fun a b => a.1 < b.1) ∧ ∀ r ∈ rows, r.1 < key)
    s (E (.int k0) (.val (.int wd)) (.acc [])) ⟨[], k0, .un, .un, .un, rfl, rfl, .nil, fun r hr => by cases hr⟩ (fun i hi env ⟨rows, key, z5, z6, z7, e, hr, hp, hk⟩ => by
      subst e
      obtain ⟨key', wt, y6, y7, lk, er⟩ := row_turn ns hl (.int s) key wd hw rows (by omega) i z6 z7
      exact ⟨_, er, rows ++ [(key, wt)], key', _, y6, y7, rfl, by simp [hr], List.pairwise_append.mpr ⟨hp, by simp, fun a ha b hb => by rw [List.mem_singleton.mp hb]; exact hk a ha⟩, fun r hr => by
        rcases List.mem_append.mp hr with h | h
        · have := hk r h; omega
        · rw [List.mem_singleton.mp h]; exact lk⟩)
  obtain ⟨env', e, rows, key, z5, z6, z7, rfl, hr, hp, _⟩ := L
  refine ⟨rows, hr, hp, runF_rt (env := [.val S, .val (.int s), .val (.int key), .val (.int wd), .val (.lst (prD rows)), z5, z6, z7]) ?_⟩
  have loop : L_law_table_1 (E (.int k0) (.val (.int wd)) (.acc [])) = pure (.nx, [.val S, .val (.int s), .val (.int key), .val (.int wd), .acc (prD rows), z5, z6, z7]) := (sFor_range (m := (s : Int)) (by simp [aCons, aNil, eVar, E]) (by omega) (by omega)).trans e
  exact (sSeq_nx s2).trans ((sSeq_nx s3).trans ((sSeq_nx eI).trans ((sSeq_nx (rfl : sAcc 4 _ = pure (.nx, E (.int k0) (.val (.int wd)) (.acc [])))).trans ((sSeq_nx loop).trans (show sRet (eVar 4) [.val S, .val (.int s), .val (.int key), .val (.int wd), .val (.lst (prD rows)), z5, z6, z7] = _ from sRet_eq rfl)))))
theorem forL_rt {b : DV → DSx} {d v : DV} {ds : List DV} {env env1 : En} {hp hp1 : Hs} (h : b d env hp = some ((.rt v, env1), hp1)) : forL b (d :: ds) env hp = some ((.rt v, env1), hp1) := by
  show (b d env >>= _) hp = _
  rw [bind_at h]; rfl
def Shw (hp : Hs) (s k : Nat) (room t : Int) (P : List DV) : Prop := (∃ a b, hp[s]? = some (.ins "Shelf" (shF room k t a b))) ∧ hp[k]? = some (.lst P)
theorem Shw.read {hp : Hs} {s k : Nat} {room t : Int} {P : List DV} {i : Nat} {d : DV} (h : Shw hp s k room t P) (sk : s ≠ k) (hd : P[i]? = some d) : ∃ hp', F_Shelf_read [.ref s, .int (i : Int)] hp = some (d, hp') ∧ Shw hp' s k room t P ∧ ∀ j, j ≠ s → hp'[j]? = hp[j]? := by
  obtain ⟨⟨a, b, h1⟩, h2⟩ := h
  have ls : s < hp.length := (List.getElem?_eq_some_iff.mp h1).1
  refine ⟨_, read_at h1 h2 sk hd, ⟨⟨a + 1, b, List.getElem?_set_self ls⟩, ?_⟩, fun j hj => List.getElem?_set_ne (fun e => hj e.symm)⟩
  rw [List.getElem?_set_ne sk]; exact h2
section
variable {room : Nat} {L0 L : TP.Lv} {pg : List TR.Pg} {bg : TR.Bg} {s k : Nat} {t : Int}
theorem map_pg {n : Nat} {p : TR.Pg} (h : pg[n]? = some p) : (pg.map pgD)[n]? = some (pgD p) := by rw [List.getElem?_map, h]; rfl
theorem led_loop (P : TP.Pk room L0 pg bg L) (hr : room ≤ 100) (sk : s ≠ k) (key : Int) : ∀ (ds : List DV) (n : Nat) (p : TR.Pg) (hp : Hs) (z3 z4 : Sl), pg[n]? = some p → p.lv < ds.length → TR.leB (bg n) key → TR.ltH key p.hi → Shw hp s k room t (pg.map pgD) →
    ∃ (m : Nat) (q : TR.Pg) (env' : En) (hp' : Hs), forL (fun d env => do let env' ← gN 3 d env; l_law_led_1 env') ds [.val (.ref s), .val (.int key), .val (pgD p), z3, z4] hp = some ((.rt (pgD q), env'), hp') ∧ pg[m]? = some q ∧ q.lv = 0 ∧ TR.leB (bg m) key ∧ TR.ltH key q.hi ∧ Shw hp' s k room t (pg.map pgD) ∧ ∀ j, j ≠ s → hp'[j]? = hp[j]?
  | [], n, p, hp, z3, z4, hn, hl, _, _, _ => absurd hl (Nat.not_lt_zero _)
  | d :: ds, n, p, hp, z3, z4, hn, hl, h1, h2, hS => by
    let e : En := [.val (.ref s), .val (.int key), .val (pgD p), .val d, z4]
    have O := P.pt.page n p hn
    have bz : TR.beyondP p key = false := by
      unfold TR.beyondP
      cases ehi : p.hi with
      | none => rfl
      | some h => have := h2 h ehi; simp; omega
    have s1 : sIf (eB (eCall 2 F_beyond (aCons (eVar 2) (aCons (eVar 1) aNil)))) (sRet (eC .non)) sNil e hp = some ((.nx, e), hp) := (ifF_at (eB_at (by
      have := call_at (F := F_beyond) (k := 2) (fa := aCons (eVar 2) (aCons (eVar 1) aNil)) (env := e) (hp := hp) (a2_at (var_at rfl) (var_at rfl)) rfl (at_of (pg_beyond p key) _)
      rw [bz] at this; exact this))).trans nil_at
    have lvE : eBin ixG (eVar 2) (eC (.int 0)) e hp = some (.int p.lv, hp) := ixT_at (i := 0) (var_at rfl) rfl rfl
    by_cases z : p.lv = 0
    · refine ⟨n, p, e, hp, forL_rt ?_, hn, z, h1, h2, hS, fun _ _ => rfl⟩
      show l_law_led_1 e hp = _
      refine (sSeq_at s1).trans (sSeq_rtA ((ifT_at (eB_at ?_)).trans (sRet_at (var_at rfl))))
      rw [eqI_at lvE rfl, z]; rfl
    · obtain ⟨c, q, a1, a2, a3, a4, a5⟩ := P.step hn (by omega) h1 h2
      have pl := O.parts
      rw [if_neg z] at pl
      obtain ⟨hp1, r1, S1, k1⟩ := hS.read sk (map_pg a2)
      let e4 : En := [.val (.ref s), .val (.int key), .val (pgD p), .val d, .val (pgD q)]
      let e5 : En := [.val (.ref s), .val (.int key), .val (pgD q), .val d, .val (pgD q)]
      obtain ⟨m, q', env', hp', f1, f2, f3, f4, f5, f6, f7⟩ := led_loop P hr sk key ds c q hp1 (.val d) (.val (pgD q)) a2 (by have : (d :: ds).length = ds.length + 1 := rfl; omega) a4 a5 S1
      refine ⟨m, q', env', hp', (forL_nx (env1 := e5) (hp1 := hp1) ?_).trans f1, f2, f3, f4, f5, f6, fun j hj => (f7 j hj).trans (k1 j hj)⟩
      show l_law_led_1 e hp = _
      have kd : eCall 2 F_kid_for (aCons (eVar 2) (aCons (eVar 1) aNil)) e hp = some (.int c, hp) := call_at (a2_at (var_at rfl) (var_at rfl)) rfl (at_of (pg_kid p key c (Nat.le_trans O.few hr) pl a1) _)
      obtain ⟨⟨x, y, hs1⟩, _⟩ := hS
      refine (sSeq_at s1).trans ((sSeq_at (env1 := e) (hp1 := hp) ((ifF_at (eB_at ?_)).trans nil_at)).trans ((sSeq_at (env1 := e4) (hp1 := hp1) (sSet_at (meth_at (a := s) (var_at rfl) hs1 (shF_noread ..) (a1_at kd) rfl r1))).trans ((sSeq_at (env1 := e4) (hp1 := hp1) ((ifF_at (eB_at ?_)).trans nil_at)).trans (sSet_at (var_at rfl)))))
      · rw [eqI_at lvE rfl]
        congr 2
        simp; omega
      · refine eBin_atW (x := .int (q.lv : Int)) (y := .int (q.lv : Int)) (ixT_at (i := 0) (var_at rfl) rfl rfl) ?_ (neII _ _)
        rw [subI_at (ixT_at (i := 0) (d := .int (p.lv : Int)) (var_at rfl) rfl rfl) rfl]
        congr 3; omega
theorem led_at (P : TP.Pk room L0 pg bg L) (q1 : L.q = 1) (ht : t = ((pg.length - 1 : Nat) : Int)) (hl : L.lv < 12) (hr : room ≤ 100) (sk : s ≠ k) (key : Int) (hp : Hs) (hS : Shw hp s k room t (pg.map pgD)) :
    ∃ (m : Nat) (q : TR.Pg) (hp' : Hs), F_law_led [.ref s, .int key] hp = some (pgD q, hp') ∧ pg[m]? = some q ∧ q.lv = 0 ∧ TR.leB (bg m) key ∧ TR.ltH key q.hi ∧ Shw hp' s k room t (pg.map pgD) ∧ ∀ j, j ≠ s → hp'[j]? = hp[j]? := by
  obtain ⟨t1, t2⟩ := P.pt.top 0 (by omega)
  have len := P.pt.len
  have et : t = ((L.first + 0 : Nat) : Int) := by rw [ht]; congr 1; omega
  obtain ⟨hp1, r1, S1, k1⟩ := hS.read sk (map_pg t1)
  have hz : (TP.pageP L 0).hi = none := by show (if 0 + 1 = L.q then none else _) = none; rw [if_pos (by omega)]
  obtain ⟨m, q, env', hp', f1, f2, f3, f4, f5, f6, f7⟩ := led_loop P hr sk key (rangeL 0 12) (L.first + 0) (TP.pageP L 0) hp1 .un .un t1 (by rw [rangeL_len]; exact hl) (fun v hv => by rw [t2] at hv; unfold TP.bgL at hv; rw [if_pos rfl] at hv; cases hv) (fun v hv => by rw [hz] at hv; cases hv) S1
  obtain ⟨⟨x, y, hs1⟩, _⟩ := hS
  refine ⟨m, q, hp', runF_at (env := env') ?_, f2, f3, f4, f5, f6, fun j hj => (f7 j hj).trans (k1 j hj)⟩
  refine (sSeq_at (env1 := [.val (.ref s), .val (.int key), .val (pgD (TP.pageP L 0)), .un, .un]) (hp1 := hp1) (sSet_at (meth_at (a := s) (var_at rfl) hs1 (shF_noread ..) (a1_at (meth_at (a := s) (var_at rfl) hs1 (shF_noroot ..) a0_at rfl (root_at hs1))) rfl (by rw [et]; exact r1)))).trans (sSeq_rtA (sFor_data (ds := rangeL 0 12) (iRg1_at (m := 12) (a1_at rfl) (by decide)) f1))
end
section
variable {room : Nat} {L0 L : TP.Lv} {pg : List TR.Pg} {bg : TR.Bg} {s k : Nat} {t : Int}
theorem left_loop (P : TP.Pk room L0 pg bg L) (sk : s ≠ k) : ∀ (fuel : Nat) (n : Nat) (p : TR.Pg) (hp : Hs), pg[n]? = some p → bg n = none → p.lv < fuel → Shw hp s k room t (pg.map pgD) →
    ∃ (q : TR.Pg) (hp' : Hs), whileD (eB (eBin gtD (eBin ixG (eVar 1) (eC (.int 0))) (eC (.int 0)))) l_law_leaves_3 fuel [.val (.ref s), .val (pgD p), .un, .un, .un, .un] hp = some ((.nx, [.val (.ref s), .val (pgD q), .un, .un, .un, .un]), hp') ∧ pg[0]? = some q ∧ q.lv = 0 ∧ Shw hp' s k room t (pg.map pgD)
  | 0, n, p, hp, hn, hb, hl, hS => absurd hl (Nat.not_lt_zero _)
  | fuel + 1, n, p, hp, hn, hb, hl, hS => by
    let e : En := [.val (.ref s), .val (pgD p), .un, .un, .un, .un]
    have lvE : eBin ixG (eVar 1) (eC (.int 0)) e hp = some (.int p.lv, hp) := ixT_at (i := 0) (var_at rfl) rfl rfl
    by_cases z : p.lv = 0
    · have n0 := P.leaf0 hn z hb
      subst n0
      refine ⟨p, hp, while_F (eB_at ?_), hn, z, hS⟩
      rw [gtI_at lvE rfl, z]; rfl
    · obtain ⟨c, q, a1, a2, a3, a4⟩ := P.kid0 hn (by omega) hb
      obtain ⟨hp1, r1, S1, k1⟩ := hS.read sk (map_pg a2)
      obtain ⟨q', hp', f1, f2, f3, f4⟩ := left_loop P sk fuel c q hp1 a2 a4 (by omega) S1
      refine ⟨q', hp', (while_T (hp1 := hp) (hp2 := hp1) (env1 := [.val (.ref s), .val (pgD q), .un, .un, .un, .un]) (eB_at ?_) ?_).trans f1, f2, f3, f4⟩
      · rw [gtI_at lvE rfl]
        congr 3
        simp; omega
      · obtain ⟨⟨x, y, hs1⟩, _⟩ := hS
        have kd : eBin ixG (eBin ixG (eVar 1) (eC (.int 2))) (eC (.int 0)) e hp = some (.int (c : Int), hp) := ixT_at (i := 0) (ds := p.ps.map .int) (ixT_at (i := 2) (var_at rfl) rfl rfl) rfl (by rw [List.getElem?_map, a1]; rfl)
        exact sSet_at (meth_at (a := s) (var_at rfl) hs1 (shF_noread ..) (a1_at kd) rfl r1)
theorem iZip_at {f g : DEx} {env : En} {hp : Hs} {ds es : List DV} (hf : f env hp = some (.tup ds, hp)) (hg : g env hp = some (.tup es, hp)) : iZip f g env hp = some (zipL ds es, hp) := by
  unfold iZip
  rw [bind_at hf, bind_at (rfl : tupD (.tup ds) hp = some (ds, hp)), bind_at hg]; rfl
theorem zip_prD : ∀ (a b : List Int), zipL (a.map .int) (b.map .int) = prD (a.zip b)
  | [], _ => by simp [zipL, prD]
  | _ :: _, [] => by simp [zipL, prD]
  | x :: xs, y :: ys => by
    show DV.tup [.int x, .int y] :: zipL (xs.map .int) (ys.map .int) = _
    rw [zip_prD xs ys]; rfl
theorem zip_loop (hp : Hs) (a b d : Sl) : ∀ (c acc : TP.Rw) (z4 z5 : Sl), acc.length + c.length < 100000 → ∃ y4 y5, forL (fun d env => do let env' ← gT [4, 5] d env; l_law_leaves_1 env') (prD c) [a, b, .acc (prD acc), d, z4, z5] hp = some ((.nx, [a, b, .acc (prD (acc ++ c)), d, y4, y5]), hp)
  | [], acc, z4, z5, h => ⟨z4, z5, by rw [List.append_nil]; rfl⟩
  | r :: c, acc, z4, z5, h => by
    have hl : acc.length + (c.length + 1) < 100000 := h
    obtain ⟨y4, y5, e⟩ := zip_loop hp a b d c (acc ++ [r]) (.val (.int r.1)) (.val (.int r.2)) (by rw [List.length_append]; simp; omega)
    refine ⟨y4, y5, (forL_nx (env1 := [a, b, .acc (prD (acc ++ [r])), d, .val (.int r.1), .val (.int r.2)]) (hp1 := hp) ?_).trans (by rw [List.append_assoc] at e; exact e)⟩
    show l_law_leaves_1 [a, b, .acc (prD acc), d, .val (.int r.1), .val (.int r.2)] hp = _
    rw [show l_law_leaves_1 = sApp 2 (eTup (aCons (eVar 4) (aCons (eVar 5) aNil))) from rfl, app_at (d := .tup [.int r.1, .int r.2]) (ds := prD acc) (tup_at (a2_at (var_at rfl) (var_at rfl)) (Nat.le_of_ble_eq_true rfl)) rfl (by rw [prD_len]; omega)]
    show some ((Fl.nx, [a, b, Sl.acc (prD acc ++ [.tup [.int r.1, .int r.2]]), d, _, _]), hp) = _
    rw [show prD acc ++ [DV.tup [.int r.1, .int r.2]] = prD (acc ++ [r]) by rw [← prD_app]; rfl]
theorem leaves_loop (P : TP.Pk room L0 pg bg L) (sk : s ≠ k) (hl0 : L0.rows.length < 1000) : ∀ (ds : List DV) (i : Nat) (hp : Hs) (z3 z4 z5 : Sl), i < L0.q → L0.q ≤ i + ds.length → Shw hp s k room t (pg.map pgD) →
    ∃ (env' : En) (hp' : Hs), forL (fun d env => do let env' ← gN 3 d env; l_law_leaves_2 env') ds [.val (.ref s), .val (pgD (TP.pageP L0 i)), .acc (prD (L0.rows.take (L0.s i))), z3, z4, z5] hp = some ((.rt (.lst (prD L0.rows)), env'), hp') ∧ Shw hp' s k room t (pg.map pgD)
  | [], i, hp, z3, z4, z5, hi, hl, hS => absurd hl (by simp; omega)
  | d :: ds, i, hp, z3, z4, z5, hi, hl, hS => by
    have hl : L0.q ≤ i + (ds.length + 1) := hl
    let p := TP.pageP L0 i
    let e : Sl → Sl → Sl → En := fun a y4 y5 => [.val (.ref s), .val (pgD p), a, .val d, y4, y5]
    have tl : (L0.rows.take (L0.s i)).length ≤ L0.rows.length := by rw [List.length_take]; omega
    have cl : (TP.chunk L0.rows L0.m L0.fork i).length ≤ L0.rows.length := chunk_le _ _ _ _
    obtain ⟨y4, y5, z⟩ := zip_loop hp (.val (.ref s)) (.val (pgD p)) (.val d) (TP.chunk L0.rows L0.m L0.fork i) (L0.rows.take (L0.s i)) z4 z5 (by omega)
    rw [TP.take_chunk P.ok0 hi] at z
    have inner : L_law_leaves_1 (e (.acc (prD (L0.rows.take (L0.s i)))) z4 z5) hp = some ((.nx, e (.acc (prD (L0.rows.take (L0.s (i + 1))))) y4 y5), hp) := by
      refine sFor_data (ds := prD (TP.chunk L0.rows L0.m L0.fork i)) (hp1 := hp) ?_ z
      rw [iZip_at (ds := p.ks.map .int) (es := p.ps.map .int) (ixT_at (i := 1) (var_at rfl) rfl rfl) (ixT_at (i := 2) (var_at rfl) rfl rfl), zip_prD]
      show some (prD (TR.prs p), hp) = _
      rw [TP.leaf_prs P.ok0 P.lv0]
    by_cases last : i + 1 = L0.q
    · have se : L0.s (i + 1) = L0.rows.length := by rw [last]; exact L0.s_end
      rw [se, List.take_length] at inner
      have sd : eBin ixG (eVar 1) (eC (.int 4)) (e (.acc (prD L0.rows)) y4 y5) hp = some (.non, hp) := ixT_at (i := 4) (var_at rfl) rfl (by
        show some (oN (if i + 1 = L0.q then none else _)) = _
        rw [if_pos last]; rfl)
      refine ⟨e (.val (.lst (prD L0.rows))) y4 y5, hp, forL_rt ?_, hS⟩
      show l_law_leaves_2 (e (.acc (prD (L0.rows.take (L0.s i)))) z4 z5) hp = _
      exact (sSeq_at inner).trans (sSeq_rtA ((ifT_at (eB_at (eBin_atW sd rfl rfl))).trans (show sRet (eVar 2) (e (.val (.lst (prD L0.rows))) y4 y5) hp = _ from sRet_at rfl)))
    · have sd : eBin ixG (eVar 1) (eC (.int 4)) (e (.acc (prD (L0.rows.take (L0.s (i + 1))))) y4 y5) hp = some (.int ((i + 1 : Nat) : Int), hp) := ixT_at (i := 4) (var_at rfl) rfl (by
        show some (oN (if i + 1 = L0.q then none else some (L0.first + (i + 1)))) = _
        rw [if_neg last]
        rw [P.first0, Nat.zero_add]; rfl)
      obtain ⟨hp1, r1, S1, _⟩ := hS.read sk (map_pg (P.lf (i + 1) (by omega)).1)
      obtain ⟨env', hp', f1, f2⟩ := leaves_loop P sk hl0 ds (i + 1) hp1 (.val d) y4 y5 (by omega) (by omega) S1
      refine ⟨env', hp', (forL_nx (env1 := [.val (.ref s), .val (pgD (TP.pageP L0 (i + 1))), .acc (prD (L0.rows.take (L0.s (i + 1)))), .val d, y4, y5]) (hp1 := hp1) ?_).trans f1, f2⟩
      show l_law_leaves_2 (e (.acc (prD (L0.rows.take (L0.s i)))) z4 z5) hp = _
      obtain ⟨⟨x, y, hs1⟩, _⟩ := hS
      exact (sSeq_at inner).trans ((sSeq_at ((ifF_at (eB_at (eBin_atW sd rfl rfl))).trans nil_at)).trans (sSet_at (meth_at (a := s) (var_at rfl) hs1 (shF_noread ..) (a1_at sd) rfl r1)))
theorem leaves_at (P : TP.Pk room L0 pg bg L) (q1 : L.q = 1) (ht : t = ((pg.length - 1 : Nat) : Int)) (hl : L.lv < 12) (hl0 : L0.rows.length < 1000) (hpl : pg.length ≤ 5000) (sk : s ≠ k) (hp : Hs) (hS : Shw hp s k room t (pg.map pgD)) :
    ∃ hp', F_law_leaves [.ref s] hp = some (.lst (prD L0.rows), hp') := by
  obtain ⟨t1, t2⟩ := P.pt.top 0 (by omega)
  have len := P.pt.len
  have et : t = ((L.first + 0 : Nat) : Int) := by rw [ht]; congr 1; omega
  obtain ⟨hp1, r1, S1, k1⟩ := hS.read sk (map_pg t1)
  obtain ⟨q, hp2, f1, f2, f3, f4⟩ := left_loop P sk 100000 (L.first + 0) (TP.pageP L 0) hp1 t1 (by rw [t2]; rfl) (Nat.lt_of_lt_of_le hl (by decide)) S1
  have q0 := P.ok0.q1
  obtain ⟨g1, g2⟩ := P.lf 0 (by omega)
  rw [f2] at g1; cases g1
  have ql : L0.q ≤ pg.length := by
    obtain ⟨a, _⟩ := P.lf (L0.q - 1) (by omega)
    have := (List.getElem?_eq_some_iff.mp a).1
    omega
  have s0 : L0.s 0 = 0 := TP.sx_zero P.ok0.m_pos _
  obtain ⟨env', hp3, h1, h2⟩ := leaves_loop P sk hl0 (rangeL 0 pg.length) 0 hp2 .un .un .un (by omega) (by rw [rangeL_len]; omega) f4
  rw [s0, List.take_zero] at h1
  obtain ⟨⟨x, y, hs1⟩, _⟩ := hS
  obtain ⟨⟨x2, y2, hs2⟩, kp2⟩ := f4
  refine ⟨hp3, runF_at (env := env') ?_⟩
  refine (sSeq_at (env1 := [.val (.ref s), .val (pgD (TP.pageP L 0)), .un, .un, .un, .un]) (hp1 := hp1) (sSet_at (meth_at (a := s) (var_at rfl) hs1 (shF_noread ..) (a1_at (meth_at (a := s) (var_at rfl) hs1 (shF_noroot ..) a0_at rfl (root_at hs1))) rfl (by rw [et]; exact r1)))).trans ?_
  refine (sSeq_at f1).trans ((sSeq_at (rfl : sAcc 2 _ hp2 = some ((.nx, [.val (.ref s), .val (pgD (TP.pageP L0 0)), .acc [], .un, .un, .un]), hp2))).trans (sSeq_rtA (sFor_data (ds := rangeL 0 pg.length) (hp1 := hp2) (iRg1_at (m := pg.length) (a1_at (meth_at (a := s) (var_at rfl) hs2 (shF_nopages ..) a0_at rfl (by rw [pages_at hs2 kp2, List.length_map]))) (by omega)) h1)))
end
theorem addD_lsts {a b : List DV} (h : a.length + b.length ≤ 100000) : addD (.lst a) (.lst b) = pure (.lst (a ++ b)) := by
  show (guardM (short (a ++ b)) >>= fun _ => pure (.lst (a ++ b)) : M DV) = _
  rw [short_ok' (by rw [List.length_append]; exact h)]; rfl
theorem compD_ex {f : DV → M DV} {R : DV → Prop} : ∀ (ds : List DV), (∀ d ∈ ds, ∃ e, f d = pure e ∧ R e) → ∃ out, compD (fun _ => pure true) f ds = pure out ∧ (∀ e ∈ out, R e) ∧ out.length = ds.length
  | [], _ => ⟨[], rfl, fun e he => (by cases he), rfl⟩
  | d :: ds, h => by
    obtain ⟨e, e1, e2⟩ := h d (List.mem_cons_self ..)
    obtain ⟨out, o1, o2, o3⟩ := compD_ex ds fun x hx => h x (List.mem_cons_of_mem _ hx)
    refine ⟨e :: out, ?_, fun x hx => ?_, by simp [o3]⟩
    · simp [compD, e1, o1]
    · rcases List.mem_cons.mp hx with rfl | hx
      · exact e2
      · exact o2 x hx
theorem eComp_ex {src : DIx} {idx : List Nat} {f : DEx} {env : En} {ds : List DV} {R : DV → Prop} (hs : src env = pure ds) (hl : ds.length ≤ 100000) (hf : ∀ d ∈ ds, ∃ e, f (cE idx env d) = pure e ∧ R e) : ∃ out, eComp src idx tAll f env = pure (.lst out) ∧ (∀ e ∈ out, R e) ∧ out.length = ds.length := by
  obtain ⟨out, o1, o2, o3⟩ := compD_ex (f := fun d => f (cE idx env d)) ds hf
  refine ⟨out, ?_, o2, o3⟩
  have : compD (fun d => tAll (cE idx env d)) (fun d => f (cE idx env d)) ds = pure out := o1
  simp only [eComp, hs, pure_bind, short_ok' hl, guardM, if_true, this]
def PrI (d : DV) : Prop := ∃ a b : Int, d = .tup [.int a, .int b]
theorem keys_ev (ns : List Int) (hl : ns.length ≤ 63) (rows : TP.Rw) (hr : rows.length ≤ 300) : ∃ ks : List Int, F_law_keys [.lst (ns.map .int), .lst (prD rows)] = pure (.lst (ks.map .int)) ∧ ks.length ≤ 2000 := by
  let S : DV := .lst (ns.map .int)
  let T : DV := .lst (prD rows)
  let E : Sl → Sl → Sl → Sl → En := fun a b c d => [.val S, .val T, a, b, c, d]
  have prI : ∀ d ∈ prD rows, PrI d := fun d hd => by obtain ⟨p, _, rfl⟩ := List.mem_map.mp hd; exact ⟨_, _, rfl⟩
  have lenT : eBlt lenF (aCons (eVar 1) aNil) (E (.val T) .un .un .un) = pure (.int rows.length) := by
    show (pure (.int (prD rows).length) : M DV) = _
    rw [prD_len]
  have sm : ∃ ds : List DV, sIf (eB (eBin gtD (eBlt lenF (aCons (eVar 1) aNil)) (eC (.int 40)))) (sSet 2 C_law_keys_2) sNil (E (.val T) .un .un .un) = pure (.nx, E (.val (.lst ds)) .un .un .un) ∧ (∀ d ∈ ds, PrI d) ∧ ds.length ≤ 300 := by
    have t : eB (eBin gtD (eBlt lenF (aCons (eVar 1) aNil)) (eC (.int 40))) (E (.val T) .un .un .un) = pure (decide ((40 : Int) < rows.length)) := eB_eq (eBin_eq lenT rfl rfl)
    by_cases c : (40 : Int) < rows.length
    · rw [decide_eq_true c] at t
      have src : iRg1 (aCons (eC (.int 40)) aNil) (E (.val T) .un .un .un) = pure (rangeL 0 40) := rfl
      obtain ⟨out, o1, o2, o3⟩ := eComp_ex (idx := [1, 0]) (f := eBin ixD (eVar 1) (eBin modD (eCall 2 F_law_churn (aCons (eBin addD (eCall 2 F_law_cell_at (aCons (eVar 2) (aCons (eVar 0) aNil))) (eVar 0)) (aCons (eC (.int 10)) aNil))) (eBlt lenF (aCons (eVar 1) aNil)))) (R := PrI) src (by rw [rangeL_len]; decide) (fun d hd => by
        obtain ⟨i, hi⟩ := List.mem_iff_getElem?.mp hd
        obtain ⟨_, rfl⟩ := rangeL_get0 hi
        obtain ⟨x, ex⟩ := cell_ev ns i hl
        let e : En := [.val (.int (i : Int)), .val T, .val S]
        have ch : eCall 2 F_law_churn (aCons (eBin addD (eCall 2 F_law_cell_at (aCons (eVar 2) (aCons (eVar 0) aNil))) (eVar 0)) (aCons (eC (.int 10)) aNil)) e = pure (.int (churn (x + i) 10)) := eCall2 (x := .int (x + i)) (y := .int 10) (eBin_eq (x := .int x) (y := .int i) (eCall2 (x := S) (y := .int i) rfl rfl ex) rfl (addD_int _ _)) rfl (churn_ev _ 10 (by decide) (by decide))
        have md : eBin modD (eCall 2 F_law_churn (aCons (eBin addD (eCall 2 F_law_cell_at (aCons (eVar 2) (aCons (eVar 0) aNil))) (eVar 0)) (aCons (eC (.int 10)) aNil))) (eBlt lenF (aCons (eVar 1) aNil)) e = pure (.int (churn (x + i) 10 % rows.length)) := eBin_eq ch (by
          show (pure (.int (prD rows).length) : M DV) = pure (.int rows.length)
          rw [prD_len]) (modD_pos _ _ (by omega))
        obtain ⟨m0, m1⟩ := mod_rng (churn (x + i) 10) rows.length (by omega)
        obtain ⟨j, ej⟩ := nat_of m0
        have jl : j < (prD rows).length := by rw [prD_len]; omega
        refine ⟨(prD rows)[j], ?_, prI _ (List.getElem_mem jl)⟩
        show eBin ixD (eVar 1) _ e = _
        refine eBin_eq (x := T) rfl md ?_
        rw [ej]
        exact ixD_lst (atI_nat (List.getElem?_eq_getElem jl)))
      rw [rangeL_len] at o3
      exact ⟨out, (sIf_t t).trans (sSet_eq o1), o2, by omega⟩
    · rw [decide_eq_false c] at t
      exact ⟨prD rows, (sIf_f t).trans rfl, prI, by rw [prD_len]; exact hr⟩
  obtain ⟨ds, d1, d2, d3⟩ := sm
  have lo : eNeg (eBin powD (eC (.int 10)) (eC (.int 30))) = fun _ => pure (.int (-1000000000000000000000000000000)) := rfl
  have s3 : sSet 3 (eLst (aCons (eNeg (eBin powD (eC (.int 10)) (eC (.int 30)))) (aCons (eBin powD (eC (.int 10)) (eC (.int 30))) aNil))) (E (.val (.lst ds)) .un .un .un) = pure (.nx, E (.val (.lst ds)) (.val (.lst ([-1000000000000000000000000000000, 1000000000000000000000000000000].map DV.int))) .un .un) := rfl
  have lp := forL_nth (b := fun d env => (gT [4, 5] d env >>= fun env' => l_law_keys_1 env')) (fun i env => ∃ (ks : List Int) (z4 z5 : Sl), env = E (.val (.lst ds)) (.val (.lst (ks.map .int))) z4 z5 ∧ ks.length ≤ 2 + 3 * i) ds 0 (E (.val (.lst ds)) (.val (.lst ([-1000000000000000000000000000000, 1000000000000000000000000000000].map DV.int))) .un .un) ⟨_, .un, .un, rfl, by simp⟩ (fun i d hd env ⟨ks, z4, z5, e, hk⟩ => by
    subst e
    obtain ⟨a, b, rfl⟩ := d2 d (List.mem_of_getElem? hd)
    have il : i < ds.length := (List.getElem?_eq_some_iff.mp hd).1
    let e := E (.val (.lst ds)) (.val (.lst (ks.map .int))) (.val (.int a)) (.val (.int b))
    have cp := eComp_ints (src := iLst (eLst (aCons (eBin subD (eVar 4) (eC (.int 1))) (aCons (eVar 4) (aCons (eBin addD (eVar 4) (eC (.int 1))) aNil))))) (idx := []) (t := eB (eChain leD leD (eNeg (eBin powD (eC (.int 10)) (eC (.int 30)))) (eVar 0) (eBin powD (eC (.int 10)) (eC (.int 30))))) (f := eVar 0) (env := e) (ns := [a - 1, a, a + 1]) (p := fun x => decide (-1000000000000000000000000000000 ≤ x) && decide (x ≤ 1000000000000000000000000000000)) (g := fun x => x) rfl (by simp) (fun x => by
      by_cases c : (-1000000000000000000000000000000 : Int) ≤ x
      · simp [eB, eChain, lo, eVar, cE, eBin, eC, pow30, leD_int, asB, c]
      · simp [eB, eChain, lo, eVar, cE, eBin, eC, pow30, leD_int, asB, c]) (fun _ => rfl)
    let more : List Int := (([a - 1, a, a + 1].filter fun x => decide (-1000000000000000000000000000000 ≤ x) && decide (x ≤ 1000000000000000000000000000000)).map fun x => x)
    have ml : more.length ≤ 3 := by
      show (List.map _ (List.filter _ _)).length ≤ 3
      rw [List.length_map]; exact List.length_filter_le _ _
    refine ⟨E (.val (.lst ds)) (.val (.lst ((ks ++ more).map .int))) (.val (.int a)) (.val (.int b)), ?_, ks ++ more, .val (.int a), .val (.int b), rfl, by rw [List.length_append]; omega⟩
    show l_law_keys_1 e = _
    refine sSet_eq (eBin_eq (x := .lst (ks.map .int)) (y := .lst (more.map .int)) rfl cp ?_)
    rw [List.map_append]
    exact addD_lsts (by rw [List.length_map, List.length_map]; omega))
  obtain ⟨env', e, ks, z4, z5, rfl, hk⟩ := lp
  refine ⟨ks, runF_rt (env := E (.val (.lst ds)) (.val (.lst (ks.map .int))) z4 z5) ?_, by omega⟩
  exact (sSeq_nx (rfl : sSet 2 (eVar 1) _ = pure (.nx, E (.val T) .un .un .un))).trans ((sSeq_nx d1).trans ((sSeq_nx s3).trans ((sSeq_nx ((sFor_list (ds := ds) rfl).trans e)).trans (sRet_eq rfl))))
theorem forX_ex {b : DV → DSx} (I : En → Hs → Prop) (ds : List DV) (env : En) (hp : Hs) (hl : ds.length < 100000) (h0 : I env hp) (hs : ∀ d ∈ ds, ∀ env hp, I env hp → ∃ env' hp', b d env hp = some ((.nx, env'), hp') ∧ I env' hp') : ∃ env' hp', forX (nxD ds) b 100000 0 env hp = some ((.nx, env'), hp') ∧ I env' hp' := by
  have := WP_forXD (b := b) (env := env) (hp := hp) (Q := fun r h => r.1 = .nx ∧ I r.2 h) ds (fun _ env h => I env h) hl h0 (fun i d hd env h hi => by
    obtain ⟨env', hp', e, q⟩ := hs d (List.mem_of_getElem? hd) env h hi
    exact WP.of e q) (fun env h q => ⟨rfl, q⟩)
  obtain ⟨⟨f, e'⟩, h, e, q1, q2⟩ := this
  have q1 : f = .nx := q1
  subst q1
  exact ⟨e', h, e, q2⟩
def tabK (rows : TP.Rw) : List (Key × DV) := rows.map fun r => (.inl r.1, .int r.2)
theorem prM_tab : ∀ rows : TP.Rw, prM (prD rows) = some (tabK rows)
  | [] => rfl
  | r :: rows => by
    show prM (.tup [.int r.1, .int r.2] :: prD rows) = _
    unfold prM
    rw [prM_tab rows]; rfl
theorem merge_fresh : ∀ (more acc : List (Key × DV)), ((acc ++ more).map (·.1)).Nodup → mergeD acc more = acc ++ more
  | [], acc, _ => by rw [List.append_nil]; rfl
  | r :: more, acc, h => by
    have fr : ¬ (acc.any fun kv => decide (kv.1 = r.1)) = true := fun z => by
      rw [List.any_eq_true] at z
      obtain ⟨x, hx, he⟩ := z
      rw [List.map_append, List.map_cons, List.nodup_append] at h
      exact h.2.2 x.1 (List.mem_map.mpr ⟨x, hx, rfl⟩) r.1 (List.mem_cons_self ..) (of_decide_eq_true he)
    have e : mergeD acc (r :: more) = mergeD (acc ++ [r]) more := by
      show mergeD (putD acc r.1 r.2) more = _
      unfold putD; rw [if_neg fr]
    rw [e, merge_fresh more (acc ++ [r]) (by rw [List.append_assoc]; exact h), List.append_assoc]; rfl
theorem tab_val {rows : TP.Rw} {key : Int} {w : Option Int} (h : ∀ v, w = some v ↔ (key, v) ∈ rows) : (valD (tabK rows) (.inl key)).getD .non = opt w := by
  unfold valD
  cases e : (tabK rows).find? fun kv => decide (kv.1 = .inl key) with
  | none =>
    cases w with
    | none => rfl
    | some v =>
      have m := (h v).mp rfl
      have := List.find?_eq_none.mp e (.inl key, .int v) (List.mem_map.mpr ⟨_, m, rfl⟩)
      simp at this
  | some kv =>
    have m := List.mem_of_find?_eq_some e
    have q := List.find?_some e
    obtain ⟨r, hr, rfl⟩ := List.mem_map.mp m
    have q : r.1 = key := by
      have := of_decide_eq_true q
      injection this
    have := (h r.2).mpr (by rw [← q]; exact hr)
    rw [this]; rfl
theorem tab_nodup {rows : TP.Rw} (hs : rows.Pairwise (fun a b => a.1 < b.1)) : ((([] : List (Key × DV)) ++ tabK rows).map (·.1)).Nodup := by
  rw [List.nil_append]
  unfold tabK
  rw [List.map_map]
  refine List.pairwise_map.mpr (hs.imp fun {a b} h e => ?_)
  have e : (Sum.inl a.1 : Key) = Sum.inl b.1 := e
  injection e with e
  omega
theorem dgetK_at {o : DEx} {fa : DAx} {env : En} {hp : Hs} {a : Nat} {kvs : List (Key × DV)} {j : Int} (ho : o env hp = some (.ref a, hp)) (h : hp[a]? = some (.dic kvs)) (ha : fa env hp = some ([.int j], hp)) : eMth "dict" mDGet o fa env hp = some ((valD kvs (.inl j)).getD .non, hp) := by
  unfold eMth
  rw [bind_at ho]
  have e2 : kindG "dict" (.ref a) hp = some ((), hp) := by
    show (getW a >>= _) hp = _
    rw [bind_at (getW_of h)]; rfl
  rw [bind_at e2, bind_at ha]
  show (getW a >>= _) hp = _
  rw [bind_at (getW_of h)]
  rfl
theorem eqT_nil (ks : List Int) (hp : Hs) : eqG (.tup (ks.map .int)) (.tup []) hp = some (.bl (decide (ks = [])), hp) := by
  unfold eqG
  have e : eqvG (.tup (ks.map .int)) (.tup []) hp = _ := eqvG_data (pl_ints 0 ks) (pl_ints 0 []) (by decide) (by decide) hp
  rw [bind_at e]
  cases ks <;> rfl
theorem law_true (ns : List Int) (h : ns.length ≤ 63) : ∃ hp, F_law [.lst (ns.map .int)] [] = some (.bl true, hp) := by
  let S : DV := .lst (ns.map .int)
  obtain ⟨c, ec⟩ := cell_ev ns 0 h
  have rr := mod_rng (churn c 1) 7 (by decide)
  obtain ⟨room, er, r2, r8⟩ : ∃ room : Nat, 2 + churn c 1 % 7 = (room : Int) ∧ 2 ≤ room ∧ room ≤ 8 := ⟨(2 + churn c 1 % 7).toNat, by omega, by omega, by omega⟩
  obtain ⟨sz, hs, es⟩ := size_ev c room (by omega)
  obtain ⟨rows, hr, ris, et⟩ := table_ev ns h sz hs
  let T : DV := .lst (prD rows)
  obtain ⟨t1, e1, p1, q1⟩ := packed_at (w := []) (T := T) (rows := rows) (room := room) (.inl rfl) r2 (by omega) (by omega)
  obtain ⟨bg, L, P, Lq⟩ := packPg_ok (rows := rows) (room := room) r2 ris
  have pp := packP_pg (rows := rows) (room := room) r2 ris
  let pg := packPg rows room
  have pl : (packP rows room).length = pg.length := by rw [pp, List.length_map]
  let t : Int := ((pg.length - 1 : Nat) : Int)
  let s := ([] ++ t1 : Hs).length
  let w1 := shW ([] ++ t1) room t pg.length (pg.map pgD)
  rw [pl, pp] at e1
  rw [pl] at p1 q1
  let D := w1.length
  have l1 : w1.length = s + 2 := by simp [w1, shW, s]
  have mg : mergeD [] (tabK rows) = tabK rows := by rw [merge_fresh _ _ (tab_nodup ris)]; rfl
  let w2 : Hs := w1 ++ [.dic (tabK rows)]
  have S2 : Shw w2 s (s + 1) room t (pg.map pgD) := ⟨⟨0, pg.length, by
    show (w1 ++ _)[s]? = _
    rw [List.getElem?_append_left (by omega)]; exact shW_n ..⟩, by
    show (w1 ++ _)[s + 1]? = _
    rw [List.getElem?_append_left (by omega)]; exact shW_k ..⟩
  have D2 : w2[D]? = some (.dic (tabK rows)) := by show (w1 ++ _)[w1.length]? = _; rw [List.getElem?_append_right (Nat.le_refl _), Nat.sub_self]; rfl
  have qz : (lv0 rows room).q ≤ 240 := by
    have := qn_le (n := rows.length) (m := room) (by omega)
    show TP.qn rows.length room ≤ 240
    omega
  have lv12 : L.lv < 12 := by
    have sm := P.small
    rw [Lq, Nat.mul_one] at sm
    refine Nat.lt_of_not_le fun z => ?_
    have : 2 ^ 12 ≤ 2 ^ L.lv := Nat.pow_le_pow_right (by decide) z
    omega
  obtain ⟨ks, ek, kl⟩ := keys_ev ns h rows (by omega)
  let E : Sl → Sl → Sl → Sl → Sl → Sl → Sl → Sl → Sl → En := fun a b c d e f g h i => [.val S, a, b, c, d, e, f, g, h, i]
  let z1 : Sl := .val (.int c)
  let z2 : Sl := .val (.int room)
  let z3 : Sl := .val T
  let z4 : Sl := .val (.ref s)
  let z5 : Sl := .val (.ref D)
  have sD : s ≠ D := by show s ≠ w1.length; omega
  obtain ⟨env3, w3, e3, y6, y8, rfl, S3, D3⟩ := forX_ex (b := fun d env => do let env' ← gN 6 d env; l_law_2 env') (fun env hp => ∃ y6 y8, env = E z1 z2 z3 z4 z5 y6 .un y8 .un ∧ Shw hp s (s + 1) room t (pg.map pgD) ∧ hp[D]? = some (.dic (tabK rows))) (ks.map .int) (E z1 z2 z3 z4 z5 .un .un .un .un) w2 (by rw [List.length_map]; omega) ⟨.un, .un, rfl, S2, D2⟩ (fun d hd env hp ⟨y6, y8, e, hS, hD⟩ => by
    subst e
    obtain ⟨key, _, rfl⟩ := List.mem_map.mp hd
    obtain ⟨m, q, hp', f1, f2, f3, f4, f5, f6, f7⟩ := led_at P Lq rfl lv12 (by omega) (by omega) key hp hS
    have O := P.pt.page m q f2
    have pq := O.parts
    rw [if_pos f3, Nat.add_zero] at pq
    have hD' : hp'[D]? = some (.dic (tabK rows)) := (f7 D sD.symm).trans hD
    refine ⟨E z1 z2 z3 z4 z5 (.val (.int key)) .un (.val (pgD q)) .un, hp', ?_, _, _, rfl, f6, hD'⟩
    show l_law_2 (E z1 z2 z3 z4 z5 (.val (.int key)) .un y8 .un) hp = _
    refine (sSeq_at (sSet_at (call_at (a2_at (var_at rfl) (var_at rfl)) rfl f1))).trans ((ifF_at ?_).trans nil_at)
    rw [eOr_F (eB_at (eBin_atW (x := pgD q) (var_at rfl) rfl rfl))]
    refine eB_at ?_
    let e' := E z1 z2 z3 z4 z5 (.val (.int key)) .un (.val (pgD q)) .un
    have w1 : eCall 2 F_worth_of (aCons (eVar 8) (aCons (eVar 6) aNil)) e' hp' = some (opt (TR.worthP q key), hp') := call_at (a2_at (var_at rfl) (var_at rfl)) rfl (at_of (pg_worth q key (Nat.le_trans O.few (by omega)) pq) _)
    have w2 : eMth "dict" mDGet (eVar 5) (aCons (eVar 6) aNil) e' hp' = some (opt (TR.worthP q key), hp') := by
      rw [dgetK_at (a := D) (j := key) (var_at rfl) hD' (a1_at (var_at rfl)), tab_val (rows := rows) fun v => P.worth f2 f3 f4 f5]
    refine (eBin_atW w1 w2 (neO _ _ _)).trans ?_
    simp)
  obtain ⟨env4, w4, e4, y7, y9, rfl, S4⟩ := forL_rangeW (b := fun d env => do let env' ← gN 7 d env; l_law_1 env') (fun _ env hp => ∃ y7 y9, env = E z1 z2 z3 z4 z5 y6 y7 y8 y9 ∧ Shw hp s (s + 1) room t (pg.map pgD)) pg.length (E z1 z2 z3 z4 z5 y6 .un y8 .un) w3 ⟨.un, .un, rfl, S3⟩ (fun i hi env hp ⟨y7, y9, e, hS⟩ => by
    subst e
    have gi : pg[i]? = some pg[i] := List.getElem?_eq_getElem hi
    obtain ⟨hp', f1, f2, _⟩ := hS.read (by omega) (map_pg gi)
    have O := P.pt.page i pg[i] gi
    obtain ⟨⟨x, y, hs1⟩, _⟩ := hS
    let e' := E z1 z2 z3 z4 z5 y6 (.val (.int (i : Int))) y8 (.val (pgD pg[i]))
    refine ⟨e', hp', ?_, _, _, rfl, f2⟩
    show l_law_1 (E z1 z2 z3 z4 z5 y6 (.val (.int (i : Int))) y8 y9) hp = _
    refine (sSeq_at (env1 := e') (sSet_at (meth_at (a := s) (var_at rfl) hs1 (shF_noread ..) (a1_at (var_at rfl)) rfl f1))).trans ((ifF_at ?_).trans nil_at)
    have fl : eCall 2 F_is_full (aCons (eVar 9) (aCons (eVar 2) aNil)) e' hp' = some (.bl (decide (room < pg[i].ks.length)), hp') := call_at (a2_at (var_at rfl) (var_at rfl)) rfl (at_of (pg_full _ room) _)
    rw [decide_eq_false (by have := O.few; omega)] at fl
    rw [eOr_F (eB_at fl)]
    have tn : eBin eqG (eBin ixG (eVar 9) (eC (.int 1))) (eTup aNil) e' hp' = some (.bl (decide (pg[i].ks = [])), hp') := eBin_atW (ixT_at (i := 1) (var_at rfl) rfl rfl) rfl (eqT_nil pg[i].ks hp')
    by_cases kn : pg[i].ks = []
    · rw [decide_eq_true kn] at tn
      rw [eAnd_T (eB_at tn)]
      have r0 : rows = [] := by
        by_cases n1 : 1 ≤ rows.length
        · exfalso
          by_cases lz : pg[i].lv = 0
          · have il := P.lf0 i _ gi lz
            have := (P.lf i il).1
            rw [gi] at this
            have this : pg[i] = TP.pageP (lv0 rows room) i := Option.some.inj this
            have cl := (TP.chunk_len (rows := rows) (m := room) (fork := false) (by omega) (by simp) n1 (k := i) il).2
            rw [this] at kn
            have kn : ((TP.chunk rows room false i).drop 0).map (·.1) = [] := kn
            rw [List.drop_zero] at kn
            have := congrArg List.length kn
            rw [List.length_map] at this
            simp at this
            rw [this] at cl
            simp at cl
          · have := P.ne i _ gi (by omega)
            rw [kn] at this; simp at this
        · exact List.length_eq_zero_iff.mp (by omega)
      refine eB_at ?_
      rw [eBin_atW (x := .lst (([] : List Int).map .int)) (y := .lst []) (by
        show some (T, hp') = _
        show some (DV.lst (prD rows), hp') = _
        rw [r0]; rfl) rfl (neL_nil [] _)]
      rfl
    · rw [decide_eq_false kn] at tn
      exact eAnd_F (eB_at tn))
  obtain ⟨w5, e5⟩ := leaves_at P Lq rfl lv12 (by show rows.length < 1000; omega) (show pg.length ≤ 5000 by omega) (by omega) w4 S4
  refine ⟨w5, runF_at (env := E z1 z2 z3 z4 z5 y6 y7 y8 y9) ?_⟩
  refine (sSeq_at (env1 := E z1 .un .un .un .un .un .un .un .un) (hp1 := []) (sSet_at (call_at (a2_at (var_at rfl) rfl) rfl (at_of ec _)))).trans ?_
  refine (sSeq_at (env1 := E z1 z2 .un .un .un .un .un .un .un) (hp1 := []) (sSet_at (at_of ((eBin_eq (x := .int 2) (y := .int (churn c 1 % 7)) rfl (eBin_eq (x := .int (churn c 1)) (y := .int 7) (eCall2 (x := .int c) (y := .int 1) rfl rfl (churn_ev c 1 (by decide) (by decide))) rfl (modD_pos _ _ (by decide))) (addD_int _ _)).trans (by rw [er])) _))).trans ?_
  refine (sSeq_at (env1 := E z1 z2 z3 .un .un .un .un .un .un) (hp1 := []) (sSet_at (call_at (a2_at (var_at rfl) (call_at (a2_at (var_at rfl) (var_at rfl)) rfl (at_of es _))) rfl (at_of et _)))).trans ?_
  refine (sSeq_at (env1 := E z1 z2 z3 z4 .un .un .un .un .un) (hp1 := w1) (sSet_at (call_at (a2_at (v := T) (blt_at (a1_at (var_at rfl)) rfl) (var_at rfl)) rfl e1))).trans ?_
  refine (sSeq_at (env1 := E z1 z2 z3 z4 z5 .un .un .un .un) (hp1 := w2) (sSet_at (blt_at (a1_at (var_at rfl)) ?_))).trans ?_
  · show (opM (prM (prD rows)) >>= fun ps => allocW (.dic (mergeD [] ps))) w1 = _
    rw [prM_tab, bind_at (rfl : opM (some (tabK rows)) w1 = some (tabK rows, w1)), mg]; rfl
  refine (sSeq_at (sForX_data (xLs_data (call_at (a2_at (var_at rfl) (var_at rfl)) rfl (at_of ek _))) e3)).trans ?_
  obtain ⟨⟨x3, y3, hs3⟩, kp3⟩ := S3
  refine (sSeq_at (sFor_data (ds := rangeL 0 pg.length) (hp1 := w3) (iRg1_at (m := pg.length) (a1_at (meth_at (a := s) (var_at rfl) hs3 (shF_nopages ..) a0_at rfl (by rw [pages_at hs3 kp3, List.length_map]))) (by omega)) e4)).trans ?_
  have plr : Pl 2 T := fun d hd => by
    obtain ⟨p, _, rfl⟩ := List.mem_map.mp hd
    exact fun x hx => by simp only [List.mem_cons, List.not_mem_nil, or_false] at hx; rcases hx with rfl | rfl <;> exact pl_int _ _
  exact sRet_at (eBin_atW (x := T) (y := T) (call_at (a1_at (var_at rfl)) rfl e5) (var_at rfl) (eqG_same plr (by decide) _))
theorem all_mk {P : Program} {w : World} {K : PySem.W.Frag} {h : Heap} {mg : Str → Option Value} {fa f0 f1 f2 f3 f4 f5 f6 f7 f8 f9 f10 f11 f12 f13 f14 f15 f16 f17 f18 f19 f20 f21 f22 f23 f24 f25 f26 f27 C_Shelf : Addr} (X : K.In h) (G : h.Ns mainGlobals mg) (hfa : mg "law" = some (.ref fa))
    {od0 an0 od1 an1 od2 an2 od3 an3 od4 an4 od5 an5 od6 an6 od7 an7 od8 an8 od9 an9 od10 an10 od11 an11 od12 an12 od13 an13 od14 an14 od15 an15 od16 an16 od17 an17 od18 an18 od19 an19 od20 an20 od21 an21 od22 an22 od23 an23 od24 an24 od25 an25 od26 an26 od27 an27 : Option Addr} {sl0 sl1 sl2 sl3 sl4 sl5 sl6 sl7 sl8 sl9 sl10 sl11 sl12 sl13 sl14 sl15 sl16 sl17 sl18 sl19 sl20 sl21 sl22 sl23 sl24 sl25 sl26 sl27 : Array (Option Value)} {oc0 kV0 dc0 pm0 cd0 ct0 oc1 kV1 dc1 pm1 cd1 ct1 oc2 kV2 dc2 pm2 cd2 ct2 oc3 kV3 dc3 pm3 cd3 ct3 oc4 kV4 dc4 pm4 cd4 ct4 oc5 kV5 dc5 pm5 cd5 ct5 oc6 kV6 dc6 pm6 cd6 ct6 oc7 kV7 dc7 pm7 cd7 ct7 oc8 kV8 dc8 pm8 cd8 ct8 oc9 kV9 dc9 pm9 cd9 ct9 oc10 kV10 dc10 pm10 cd10 ct10 oc11 kV11 dc11 pm11 cd11 ct11 oc12 kV12 dc12 pm12 cd12 ct12 oc13 kV13 dc13 pm13 cd13 ct13 oc14 kV14 dc14 pm14 cd14 ct14 oc15 kV15 dc15 pm15 cd15 ct15 oc16 kV16 dc16 pm16 cd16 ct16 oc17 kV17 dc17 pm17 cd17 ct17 oc18 kV18 dc18 pm18 cd18 ct18 oc19 kV19 dc19 pm19 cd19 ct19 oc20 kV20 dc20 pm20 cd20 ct20 oc21 kV21 dc21 pm21 cd21 ct21 oc22 kV22 dc22 pm22 cd22 ct22 oc23 kV23 dc23 pm23 cd23 ct23 oc24 kV24 dc24 pm24 cd24 ct24 oc25 kV25 dc25 pm25 cd25 ct25 oc26 kV26 dc26 pm26 cd26 ct26 oc27 kV27 dc27 pm27 cd27 ct27 : Value} {t0 t1 t2 : Tok}
    {ta_EMPTY_LEAF_1 ta_EMPTY_LEAF_2 ta_EMPTY_LEAF_0 : Addr} {td_EMPTY_LEAF_1 td_EMPTY_LEAF_2 td_EMPTY_LEAF_0 : Option Addr} {tn_EMPTY_LEAF_1 tn_EMPTY_LEAF_2 tn_EMPTY_LEAF_0 : Nat} {ts_EMPTY_LEAF_1 ts_EMPTY_LEAF_2 ts_EMPTY_LEAF_0 : Array (Option Value)} {tt1 : Tok}
    (aC_Shelf : PySem.W.nsIn K mainGlobals "Shelf" = some (some (.ref C_Shelf)))
    (a0 : PySem.W.findIn K (.ref C_Shelf) "pages" = some (some (.ref f0))) (i0 : PySem.W.isFn K (.ref f0) = true) (l0 : K.lookup f0 = some ⟨oc0, od0, .func (PySem.W.fnOf "pages" "Shelf.pages" (defArgs s_Shelf_pages) (defBody s_Shelf_pages) (defScope s_Shelf_pages) .none kV0 dc0 pm0 an0 cd0 ct0), sl0⟩) (c0 : PySem.W.codeIn K cd0 "Shelf.pages" = true) (k0 : PySem.W.keepIn K (.ref f0) = true)
    (a1 : PySem.W.findIn K (.ref C_Shelf) "check_number" = some (some (.ref f1))) (i1 : PySem.W.isFn K (.ref f1) = true) (l1 : K.lookup f1 = some ⟨oc1, od1, .func (PySem.W.fnOf "check_number" "Shelf.check_number" (defArgs s_Shelf_check_number) (defBody s_Shelf_check_number) (defScope s_Shelf_check_number) .none kV1 dc1 pm1 an1 cd1 ct1), sl1⟩) (c1 : PySem.W.codeIn K cd1 "Shelf.check_number" = true) (k1 : PySem.W.keepIn K (.ref f1) = true)
    (a2 : PySem.W.findIn K (.ref C_Shelf) "read" = some (some (.ref f2))) (i2 : PySem.W.isFn K (.ref f2) = true) (l2 : K.lookup f2 = some ⟨oc2, od2, .func (PySem.W.fnOf "read" "Shelf.read" (defArgs s_Shelf_read) (defBody s_Shelf_read) (defScope s_Shelf_read) .none kV2 dc2 pm2 an2 cd2 ct2), sl2⟩) (c2 : PySem.W.codeIn K cd2 "Shelf.read" = true) (k2 : PySem.W.keepIn K (.ref f2) = true)
    (a3 : PySem.W.findIn K (.ref C_Shelf) "root" = some (some (.ref f3))) (i3 : PySem.W.isFn K (.ref f3) = true) (l3 : K.lookup f3 = some ⟨oc3, od3, .func (PySem.W.fnOf "root" "Shelf.root" (defArgs s_Shelf_root) (defBody s_Shelf_root) (defScope s_Shelf_root) .none kV3 dc3 pm3 an3 cd3 ct3), sl3⟩) (c3 : PySem.W.codeIn K cd3 "Shelf.root" = true) (k3 : PySem.W.keepIn K (.ref f3) = true)
    (a4 : PySem.W.nsIn K mainGlobals "_law_leaves" = some (some (.ref f4))) (l4 : K.lookup f4 = some ⟨oc4, od4, .func (PySem.W.fnOf "_law_leaves" "_law_leaves" (defArgs s_law_leaves) (defBody s_law_leaves) (defScope s_law_leaves) .none kV4 dc4 pm4 an4 cd4 ct4), sl4⟩) (c4 : PySem.W.codeIn K cd4 "_law_leaves" = true) (k4 : PySem.W.keepIn K (.ref f4) = true)
    (a5 : PySem.W.nsIn K mainGlobals "is_full" = some (some (.ref f5))) (l5 : K.lookup f5 = some ⟨oc5, od5, .func (PySem.W.fnOf "is_full" "is_full" (defArgs s_is_full) (defBody s_is_full) (defScope s_is_full) .none kV5 dc5 pm5 an5 cd5 ct5), sl5⟩) (c5 : PySem.W.codeIn K cd5 "is_full" = true) (k5 : PySem.W.keepIn K (.ref f5) = true)
    (a6 : PySem.W.nsIn K mainGlobals "_law_cell_at" = some (some (.ref f6))) (l6 : K.lookup f6 = some ⟨oc6, od6, .func (PySem.W.fnOf "_law_cell_at" "_law_cell_at" (defArgs s_law_cell_at) (defBody s_law_cell_at) (defScope s_law_cell_at) .none kV6 dc6 pm6 an6 cd6 ct6), sl6⟩) (c6 : PySem.W.codeIn K cd6 "_law_cell_at" = true) (k6 : PySem.W.keepIn K (.ref f6) = true)
    (a7 : PySem.W.nsIn K mainGlobals "_law_churn" = some (some (.ref f7))) (l7 : K.lookup f7 = some ⟨oc7, od7, .func (PySem.W.fnOf "_law_churn" "_law_churn" (defArgs s_law_churn) (defBody s_law_churn) (defScope s_law_churn) .none kV7 dc7 pm7 an7 cd7 ct7), sl7⟩) (c7 : PySem.W.codeIn K cd7 "_law_churn" = true) (k7 : PySem.W.keepIn K (.ref f7) = true)
    (a8 : PySem.W.nsIn K mainGlobals "_law_keys" = some (some (.ref f8))) (l8 : K.lookup f8 = some ⟨oc8, od8, .func (PySem.W.fnOf "_law_keys" "_law_keys" (defArgs s_law_keys) (defBody s_law_keys) (defScope s_law_keys) .none kV8 dc8 pm8 an8 cd8 ct8), sl8⟩) (c8 : PySem.W.codeIn K cd8 "_law_keys" = true) (k8 : PySem.W.keepIn K (.ref f8) = true)
    (a9 : PySem.W.nsIn K mainGlobals "count_not_above" = some (some (.ref f9))) (l9 : K.lookup f9 = some ⟨oc9, od9, .func (PySem.W.fnOf "count_not_above" "count_not_above" (defArgs s_count_not_above) (defBody s_count_not_above) (defScope s_count_not_above) .none kV9 dc9 pm9 an9 cd9 ct9), sl9⟩) (c9 : PySem.W.codeIn K cd9 "count_not_above" = true) (k9 : PySem.W.keepIn K (.ref f9) = true)
    (a10 : PySem.W.nsIn K mainGlobals "count_below" = some (some (.ref f10))) (l10 : K.lookup f10 = some ⟨oc10, od10, .func (PySem.W.fnOf "count_below" "count_below" (defArgs s_count_below) (defBody s_count_below) (defScope s_count_below) .none kV10 dc10 pm10 an10 cd10 ct10), sl10⟩) (c10 : PySem.W.codeIn K cd10 "count_below" = true) (k10 : PySem.W.keepIn K (.ref f10) = true)
    (a11 : PySem.W.nsIn K mainGlobals "worth_of" = some (some (.ref f11))) (l11 : K.lookup f11 = some ⟨oc11, od11, .func (PySem.W.fnOf "worth_of" "worth_of" (defArgs s_worth_of) (defBody s_worth_of) (defScope s_worth_of) .none kV11 dc11 pm11 an11 cd11 ct11), sl11⟩) (c11 : PySem.W.codeIn K cd11 "worth_of" = true) (k11 : PySem.W.keepIn K (.ref f11) = true)
    (a12 : PySem.W.nsIn K mainGlobals "kid_for" = some (some (.ref f12))) (l12 : K.lookup f12 = some ⟨oc12, od12, .func (PySem.W.fnOf "kid_for" "kid_for" (defArgs s_kid_for) (defBody s_kid_for) (defScope s_kid_for) .none kV12 dc12 pm12 an12 cd12 ct12), sl12⟩) (c12 : PySem.W.codeIn K cd12 "kid_for" = true) (k12 : PySem.W.keepIn K (.ref f12) = true)
    (a13 : PySem.W.nsIn K mainGlobals "beyond" = some (some (.ref f13))) (l13 : K.lookup f13 = some ⟨oc13, od13, .func (PySem.W.fnOf "beyond" "beyond" (defArgs s_beyond) (defBody s_beyond) (defScope s_beyond) .none kV13 dc13 pm13 an13 cd13 ct13), sl13⟩) (c13 : PySem.W.codeIn K cd13 "beyond" = true) (k13 : PySem.W.keepIn K (.ref f13) = true)
    (a14 : PySem.W.nsIn K mainGlobals "_law_led" = some (some (.ref f14))) (l14 : K.lookup f14 = some ⟨oc14, od14, .func (PySem.W.fnOf "_law_led" "_law_led" (defArgs s_law_led) (defBody s_law_led) (defScope s_law_led) .none kV14 dc14 pm14 an14 cd14 ct14), sl14⟩) (c14 : PySem.W.codeIn K cd14 "_law_led" = true) (k14 : PySem.W.keepIn K (.ref f14) = true)
    (a15 : PySem.W.findIn K (.ref C_Shelf) "make_root" = some (some (.ref f15))) (i15 : PySem.W.isFn K (.ref f15) = true) (l15 : K.lookup f15 = some ⟨oc15, od15, .func (PySem.W.fnOf "make_root" "Shelf.make_root" (defArgs s_Shelf_make_root) (defBody s_Shelf_make_root) (defScope s_Shelf_make_root) .none kV15 dc15 pm15 an15 cd15 ct15), sl15⟩) (c15 : PySem.W.codeIn K cd15 "Shelf.make_root" = true) (k15 : PySem.W.keepIn K (.ref f15) = true)
    (a16 : PySem.W.findIn K (.ref C_Shelf) "lay" = some (some (.ref f16))) (i16 : PySem.W.isFn K (.ref f16) = true) (l16 : K.lookup f16 = some ⟨oc16, od16, .func (PySem.W.fnOf "lay" "Shelf.lay" (defArgs s_Shelf_lay) (defBody s_Shelf_lay) (defScope s_Shelf_lay) .none kV16 dc16 pm16 an16 cd16 ct16), sl16⟩) (c16 : PySem.W.codeIn K cd16 "Shelf.lay" = true) (k16 : PySem.W.keepIn K (.ref f16) = true)
    (a17 : PySem.W.findIn K (.ref C_Shelf) "write" = some (some (.ref f17))) (i17 : PySem.W.isFn K (.ref f17) = true) (l17 : K.lookup f17 = some ⟨oc17, od17, .func (PySem.W.fnOf "write" "Shelf.write" (defArgs s_Shelf_write) (defBody s_Shelf_write) (defScope s_Shelf_write) .none kV17 dc17 pm17 an17 cd17 ct17), sl17⟩) (c17 : PySem.W.codeIn K cd17 "Shelf.write" = true) (k17 : PySem.W.keepIn K (.ref f17) = true)
    (a18 : PySem.W.findIn K (.ref C_Shelf) "__init__" = some (some (.ref f18))) (i18 : PySem.W.isFn K (.ref f18) = true) (l18 : K.lookup f18 = some ⟨oc18, od18, .func (PySem.W.fnOf "__init__" "Shelf.__init__" (defArgs s_Shelf___init__) (defBody s_Shelf___init__) (defScope s_Shelf___init__) .none kV18 dc18 pm18 an18 cd18 ct18), sl18⟩) (c18 : PySem.W.codeIn K cd18 "Shelf.__init__" = true) (k18 : PySem.W.keepIn K (.ref f18) = true)
    (a19 : PySem.W.nsIn K mainGlobals "shelf_of" = some (some (.ref f19))) (l19 : K.lookup f19 = some ⟨oc19, od19, .func (PySem.W.fnOf "shelf_of" "shelf_of" (defArgs s_shelf_of) (defBody s_shelf_of) (defScope s_shelf_of) .none kV19 dc19 pm19 an19 cd19 ct19), sl19⟩) (c19 : PySem.W.codeIn K cd19 "shelf_of" = true) (k19 : PySem.W.keepIn K (.ref f19) = true)
    (a20 : PySem.W.nsIn K mainGlobals "linked" = some (some (.ref f20))) (l20 : K.lookup f20 = some ⟨oc20, od20, .func (PySem.W.fnOf "linked" "linked" (defArgs s_linked) (defBody s_linked) (defScope s_linked) .none kV20 dc20 pm20 an20 cd20 ct20), sl20⟩) (c20 : PySem.W.codeIn K cd20 "linked" = true) (k20 : PySem.W.keepIn K (.ref f20) = true)
    (a21 : PySem.W.nsIn K mainGlobals "kid_counts" = some (some (.ref f21))) (l21 : K.lookup f21 = some ⟨oc21, od21, .func (PySem.W.fnOf "kid_counts" "kid_counts" (defArgs s_kid_counts) (defBody s_kid_counts) (defScope s_kid_counts) .none kV21 dc21 pm21 an21 cd21 ct21), sl21⟩) (c21 : PySem.W.codeIn K cd21 "kid_counts" = true) (k21 : PySem.W.keepIn K (.ref f21) = true)
    (a22 : PySem.W.nsIn K mainGlobals "fork_fills" = some (some (.ref f22))) (l22 : K.lookup f22 = some ⟨oc22, od22, .func (PySem.W.fnOf "fork_fills" "fork_fills" (defArgs s_fork_fills) (defBody s_fork_fills) (defScope s_fork_fills) .none kV22 dc22 pm22 an22 cd22 ct22), sl22⟩) (c22 : PySem.W.codeIn K cd22 "fork_fills" = true) (k22 : PySem.W.keepIn K (.ref f22) = true)
    (a23 : PySem.W.nsIn K mainGlobals "leaf_fills" = some (some (.ref f23))) (l23 : K.lookup f23 = some ⟨oc23, od23, .func (PySem.W.fnOf "leaf_fills" "leaf_fills" (defArgs s_leaf_fills) (defBody s_leaf_fills) (defScope s_leaf_fills) .none kV23 dc23 pm23 an23 cd23 ct23), sl23⟩) (c23 : PySem.W.codeIn K cd23 "leaf_fills" = true) (k23 : PySem.W.keepIn K (.ref f23) = true)
    (a24 : PySem.W.nsIn K mainGlobals "packed" = some (some (.ref f24))) (l24 : K.lookup f24 = some ⟨oc24, od24, .func (PySem.W.fnOf "packed" "packed" (defArgs s_packed) (defBody s_packed) (defScope s_packed) .none kV24 dc24 pm24 an24 cd24 ct24), sl24⟩) (c24 : PySem.W.codeIn K cd24 "packed" = true) (k24 : PySem.W.keepIn K (.ref f24) = true)
    (a25 : PySem.W.nsIn K mainGlobals "_law_size" = some (some (.ref f25))) (l25 : K.lookup f25 = some ⟨oc25, od25, .func (PySem.W.fnOf "_law_size" "_law_size" (defArgs s_law_size) (defBody s_law_size) (defScope s_law_size) .none kV25 dc25 pm25 an25 cd25 ct25), sl25⟩) (c25 : PySem.W.codeIn K cd25 "_law_size" = true) (k25 : PySem.W.keepIn K (.ref f25) = true)
    (a26 : PySem.W.nsIn K mainGlobals "_law_table" = some (some (.ref f26))) (l26 : K.lookup f26 = some ⟨oc26, od26, .func (PySem.W.fnOf "_law_table" "_law_table" (defArgs s_law_table) (defBody s_law_table) (defScope s_law_table) .none kV26 dc26 pm26 an26 cd26 ct26), sl26⟩) (c26 : PySem.W.codeIn K cd26 "_law_table" = true) (k26 : PySem.W.keepIn K (.ref f26) = true)
    (a27 : PySem.W.nsIn K mainGlobals "law" = some (some (.ref f27))) (l27 : K.lookup f27 = some ⟨oc27, od27, .func (PySem.W.fnOf "law" "law" (defArgs s_law) (defBody s_law) (defScope s_law) .none kV27 dc27 pm27 an27 cd27 ct27), sl27⟩) (c27 : PySem.W.codeIn K cd27 "law" = true) (k27 : PySem.W.keepIn K (.ref f27) = true)
    (z_len : PySem.W.nsIn K mainGlobals "len" = some none)
    (z_range : PySem.W.nsIn K mainGlobals "range" = some none)
    (z_zip : PySem.W.nsIn K mainGlobals "zip" = some none)
    (z_tuple : PySem.W.nsIn K mainGlobals "tuple" = some none)
    (z_min : PySem.W.nsIn K mainGlobals "min" = some none)
    (z_max : PySem.W.nsIn K mainGlobals "max" = some none)
    (z_dict : PySem.W.nsIn K mainGlobals "dict" = some none)
    (z_list : PySem.W.nsIn K mainGlobals "list" = some none)
    (g_KEYS : PySem.W.nsIn K mainGlobals "KEYS" = some (some (.int 1 t0)))
    (g_PARTS : PySem.W.nsIn K mainGlobals "PARTS" = some (some (.int 2 t1)))
    (g_HIGH : PySem.W.nsIn K mainGlobals "HIGH" = some (some (.int 3 t2)))
    (g_EMPTY_LEAF : PySem.W.nsIn K mainGlobals "EMPTY_LEAF" = some (some (.ref ta_EMPTY_LEAF_0)))
    (tp_EMPTY_LEAF_0 : K.lookup ta_EMPTY_LEAF_0 = some ⟨.type "tuple", td_EMPTY_LEAF_0, .seq #[.int 0 tt1, .ref ta_EMPTY_LEAF_1, .ref ta_EMPTY_LEAF_2, .none, .none] tn_EMPTY_LEAF_0, ts_EMPTY_LEAF_0⟩)
    (tp_EMPTY_LEAF_2 : K.lookup ta_EMPTY_LEAF_2 = some ⟨.type "tuple", td_EMPTY_LEAF_2, .seq #[] tn_EMPTY_LEAF_2, ts_EMPTY_LEAF_2⟩)
    (tp_EMPTY_LEAF_1 : K.lookup ta_EMPTY_LEAF_1 = some ⟨.type "tuple", td_EMPTY_LEAF_1, .seq #[] tn_EMPTY_LEAF_1, ts_EMPTY_LEAF_1⟩)
    (pg_Shelf : PySem.W.plainGet K C_Shelf Str.empty = true) (hd_Shelf : PySem.W.hasDictIn K C_Shelf = true) (po_Shelf : PySem.W.plainOver K C_Shelf = true) (sa_Shelf : PySem.W.findIn K (.ref C_Shelf) "__setattr__" = some (some (.builtin "object.__setattr__"))) (mk_Shelf : PySem.W.makesIn K C_Shelf = true) (kc_Shelf : PySem.W.keepIn K (.ref C_Shelf) = true)
    (n_Shelf_kept : PySem.W.findIn K (.ref C_Shelf) "kept" = some none)
    (n_Shelf_read_count : PySem.W.findIn K (.ref C_Shelf) "read_count" = some none)
    (n_Shelf_top : PySem.W.findIn K (.ref C_Shelf) "top" = some none)
    (n_Shelf_write_count : PySem.W.findIn K (.ref C_Shelf) "write_count" = some none)
    (n_Shelf_page_room : PySem.W.findIn K (.ref C_Shelf) "page_room" = some none)
    : ∃ fd : FuncData, (∀ (s : Shared) (v : Value), BindsTo s fd ⟨[v], []⟩ [("script", v)]) ∧ ∀ base : Heap, K.In base → base.Ns mainGlobals mg → FnOk P w K mg base CX0 5 fa fd ["script"] (spD K 1 F_law) := by
  have e := hfa.symm.trans (PySem.W.mg_of X G a27)
  cases e
  have U0 := fun_mk (st := s_Shelf_pages) l0 c0 k0
  have U1 := fun_mk (st := s_Shelf_check_number) l1 c1 k1
  have U2 := fun_mk (st := s_Shelf_read) l2 c2 k2
  have U3 := fun_mk (st := s_Shelf_root) l3 c3 k3
  have U4 := fun_mk (st := s_law_leaves) l4 c4 k4
  have U5 := fun_mk (st := s_is_full) l5 c5 k5
  have U6 := fun_mk (st := s_law_cell_at) l6 c6 k6
  have U7 := fun_mk (st := s_law_churn) l7 c7 k7
  have U8 := fun_mk (st := s_law_keys) l8 c8 k8
  have U9 := fun_mk (st := s_count_not_above) l9 c9 k9
  have U10 := fun_mk (st := s_count_below) l10 c10 k10
  have U11 := fun_mk (st := s_worth_of) l11 c11 k11
  have U12 := fun_mk (st := s_kid_for) l12 c12 k12
  have U13 := fun_mk (st := s_beyond) l13 c13 k13
  have U14 := fun_mk (st := s_law_led) l14 c14 k14
  have U15 := fun_mk (st := s_Shelf_make_root) l15 c15 k15
  have U16 := fun_mk (st := s_Shelf_lay) l16 c16 k16
  have U17 := fun_mk (st := s_Shelf_write) l17 c17 k17
  have U18 := fun_mk (st := s_Shelf___init__) l18 c18 k18
  have U19 := fun_mk (st := s_shelf_of) l19 c19 k19
  have U20 := fun_mk (st := s_linked) l20 c20 k20
  have U21 := fun_mk (st := s_kid_counts) l21 c21 k21
  have U22 := fun_mk (st := s_fork_fills) l22 c22 k22
  have U23 := fun_mk (st := s_leaf_fills) l23 c23 k23
  have U24 := fun_mk (st := s_packed) l24 c24 k24
  have U25 := fun_mk (st := s_law_size) l25 c25 k25
  have U26 := fun_mk (st := s_law_table) l26 c26 k26
  have U27 := fun_mk (st := s_law) l27 c27 k27
  have y_len := PySem.W.mg_none_of X G z_len
  have y_range := PySem.W.mg_none_of X G z_range
  have y_zip := PySem.W.mg_none_of X G z_zip
  have y_tuple := PySem.W.mg_none_of X G z_tuple
  have y_min := PySem.W.mg_none_of X G z_min
  have y_max := PySem.W.mg_none_of X G z_max
  have y_dict := PySem.W.mg_none_of X G z_dict
  have y_list := PySem.W.mg_none_of X G z_list
  have cl_Shelf : Cls K C_Shelf := ⟨pg_Shelf, hd_Shelf, po_Shelf, sa_Shelf⟩
  have x_Shelf_kept : FldK K "Shelf" "kept" := ⟨C_Shelf, aC_Shelf, cl_Shelf, n_Shelf_kept⟩
  have x_Shelf_read_count : FldK K "Shelf" "read_count" := ⟨C_Shelf, aC_Shelf, cl_Shelf, n_Shelf_read_count⟩
  have x_Shelf_top : FldK K "Shelf" "top" := ⟨C_Shelf, aC_Shelf, cl_Shelf, n_Shelf_top⟩
  have x_Shelf_write_count : FldK K "Shelf" "write_count" := ⟨C_Shelf, aC_Shelf, cl_Shelf, n_Shelf_write_count⟩
  have x_Shelf_page_room : FldK K "Shelf" "page_room" := ⟨C_Shelf, aC_Shelf, cl_Shelf, n_Shelf_page_room⟩
  have w_KEYS := PySem.W.mg_of X G g_KEYS
  have w_PARTS := PySem.W.mg_of X G g_PARTS
  have w_HIGH := PySem.W.mg_of X G g_HIGH
  have w_EMPTY_LEAF := PySem.W.mg_of X G g_EMPTY_LEAF
  have qq_EMPTY_LEAF : KRep K (.tup [.int 0, .tup [], .tup [], .non, .non]) (.ref ta_EMPTY_LEAF_0) := (kr_tup (xs := [.int 0, .ref ta_EMPTY_LEAF_1, .ref ta_EMPTY_LEAF_2, .non, .non]) tp_EMPTY_LEAF_0 (Nat.le_of_ble_eq_true rfl) (.cons ⟨_, rfl⟩ (.cons rfl (.cons rfl (.cons rfl (.cons rfl .nil))))) (krl_cons kr_int (krl_cons (kr_tup (xs := []) tp_EMPTY_LEAF_1 (Nat.le_of_ble_eq_true rfl) .nil krl_nil) (krl_cons (kr_tup (xs := []) tp_EMPTY_LEAF_2 (Nat.le_of_ble_eq_true rfl) .nil krl_nil) (krl_cons kr_non (krl_cons kr_non krl_nil))))))
  refine ⟨PySem.W.fnOf "law" "law" (defArgs s_law) (defBody s_law) (defScope s_law) .none kV27 dc27 pm27 an27 cd27 ct27, fun s v => .of_eq rfl, fun base _ _ => ?_⟩
  have v0 := has_Shelf_pages (P := P) (w := w) (mg := mg) (base := base) U0 aC_Shelf cl_Shelf ⟨a0, i0, k0⟩ y_len x_Shelf_kept
  have v1 := has_Shelf_check_number (P := P) (w := w) (mg := mg) (base := base) U1 aC_Shelf cl_Shelf ⟨a1, i1, k1⟩ y_len x_Shelf_kept
  have v2 := has_Shelf_read (P := P) (w := w) (mg := mg) (base := base) U2 aC_Shelf cl_Shelf ⟨a2, i2, k2⟩ v1 x_Shelf_kept x_Shelf_read_count
  have v3 := has_Shelf_root (P := P) (w := w) (mg := mg) (base := base) U3 aC_Shelf cl_Shelf ⟨a3, i3, k3⟩ x_Shelf_top
  have v4 := has_law_leaves (P := P) (w := w) (mg := mg) (base := base) U4 (PySem.W.mg_of X G a4) v0 v2 v3 y_range y_zip
  have v5 := has_is_full (P := P) (w := w) (mg := mg) (base := base) U5 (PySem.W.mg_of X G a5) y_len w_KEYS
  have v6 := has_law_cell_at (P := P) (w := w) (mg := mg) (base := base) U6 (PySem.W.mg_of X G a6) y_len
  have v7 := has_law_churn (P := P) (w := w) (mg := mg) (base := base) U7 (PySem.W.mg_of X G a7)
  have v8 := has_law_keys (P := P) (w := w) (mg := mg) (base := base) U8 (PySem.W.mg_of X G a8) v6 v7 y_len y_range
  have v9 := has_count_not_above (P := P) (w := w) (mg := mg) (base := base) U9 (PySem.W.mg_of X G a9) y_len
  have v10 := has_count_below (P := P) (w := w) (mg := mg) (base := base) U10 (PySem.W.mg_of X G a10) y_len
  have v11 := has_worth_of (P := P) (w := w) (mg := mg) (base := base) U11 (PySem.W.mg_of X G a11) v9 v10 w_PARTS w_KEYS
  have v12 := has_kid_for (P := P) (w := w) (mg := mg) (base := base) U12 (PySem.W.mg_of X G a12) v9 w_PARTS w_KEYS
  have v13 := has_beyond (P := P) (w := w) (mg := mg) (base := base) U13 (PySem.W.mg_of X G a13) w_HIGH
  have v14 := has_law_led (P := P) (w := w) (mg := mg) (base := base) U14 (PySem.W.mg_of X G a14) v2 v12 v13 v3 y_range
  have v15 := has_Shelf_make_root (P := P) (w := w) (mg := mg) (base := base) U15 aC_Shelf cl_Shelf ⟨a15, i15, k15⟩ v1 x_Shelf_top
  have v16 := has_Shelf_lay (P := P) (w := w) (mg := mg) (base := base) U16 aC_Shelf cl_Shelf ⟨a16, i16, k16⟩ y_len x_Shelf_kept x_Shelf_write_count
  have v17 := has_Shelf_write (P := P) (w := w) (mg := mg) (base := base) U17 aC_Shelf cl_Shelf ⟨a17, i17, k17⟩ v1 x_Shelf_kept x_Shelf_write_count
  have v18 := has_Shelf___init__ (P := P) (w := w) (mg := mg) (base := base) U18 aC_Shelf (PySem.W.mg_of X G aC_Shelf) ⟨mk_Shelf, a18, i18, kc_Shelf⟩ w_EMPTY_LEAF qq_EMPTY_LEAF x_Shelf_write_count x_Shelf_read_count x_Shelf_top x_Shelf_kept x_Shelf_page_room
  have v19 := has_shelf_of (P := P) (w := w) (mg := mg) (base := base) U19 (PySem.W.mg_of X G a19) v15 v16 v17 v18 y_len
  have v20 := has_linked (P := P) (w := w) (mg := mg) (base := base) U20 (PySem.W.mg_of X G a20) y_len y_range
  have v21 := has_kid_counts (P := P) (w := w) (mg := mg) (base := base) U21 (PySem.W.mg_of X G a21)
  have v22 := has_fork_fills (P := P) (w := w) (mg := mg) (base := base) U22 (PySem.W.mg_of X G a22) v21 y_len y_tuple y_range
  have v23 := has_leaf_fills (P := P) (w := w) (mg := mg) (base := base) U23 (PySem.W.mg_of X G a23) y_len y_range y_tuple
  have v24 := has_packed (P := P) (w := w) (mg := mg) (base := base) U24 (PySem.W.mg_of X G a24) v19 v20 v22 v23 y_len
  have v25 := has_law_size (P := P) (w := w) (mg := mg) (base := base) U25 (PySem.W.mg_of X G a25) v7 y_min
  have v26 := has_law_table (P := P) (w := w) (mg := mg) (base := base) U26 (PySem.W.mg_of X G a26) v7 v6 y_range y_max y_len
  exact law_fn U27 v4 v0 v5 v2 v8 v11 v14 v24 v25 v26 v7 v6 y_range y_dict y_list
theorem walk {l : PySem.W.OpenLaw} {q : Program} {loose : List Str} {XP : (Str → Option Value) → Heap → Prop} {YP : World → Heap → Prop} {d : DefRec} {K : Params → PySem.W.Frag} (hn : l.most = some 63) (hdf : d.params.defaults = [])
    (hY : ∀ (w : World) (h : Heap), YP w h → (K w.params).In h)
    (F : ∀ (w : World) (mg : Str → Option Value) (fa : Addr) (h : Heap), (K w.params).In h → h.Ns mainGlobals mg → mg d.name = some (.ref fa) →
      ∃ fd : FuncData, (∀ (s : Shared) (u : Value), BindsTo s fd ⟨[u], []⟩ [("script", u)]) ∧ ∀ base : Heap, (K w.params).In base → base.Ns mainGlobals mg → FnOk l.prog w (K w.params) mg base CX0 5 fa fd ["script"] (spD (K w.params) 1 F_law)) :
    PySem.W.WalkO q loose XP YP l.row.toRowW d [] (fun f vs => PySem.call f vs) :=
  L2.walk_of (n := 63) (k := 5) (x := "script") (CX := fun _ => CX0) (sp := fun w => spD (K w.params) 1 F_law) hn (by decide) hdf ⟨rfl, by decide, by decide⟩ hY F (fun w _ a ns hl _ hS => law_sp (law_true ns hl) hS) fun _ _ _ _ _ z => z
end K62
open PySem PySem.W PyProof.Rows
set_option maxRecDepth 100000 in
set_option maxHeartbeats 0 in
theorem PySem.Challenge.cw_sidelink_k62_whole_each_key_led_to_holds : PySem.Challenge.rw_sidelink_k62_whole_each_key_led_to.Holds := by
  w_on; o_law; k_head; (case hw => w_witness2)
  k_fill
  refine K62.walk (l := PySem.Challenge.rw_sidelink_k62_whole_each_key_led_to) rfl rfl (fun w h Y => PySem.W.kIn_of Y) ?F
  case F =>
    intro w mg fa h KX G hmg
    refine' K62.all_mk KX G hmg ?aC_Shelf ?a0 ?i0 ?l0 ?c0 ?k0 ?a1 ?i1 ?l1 ?c1 ?k1 ?a2 ?i2 ?l2 ?c2 ?k2 ?a3 ?i3 ?l3 ?c3 ?k3 ?a4 ?l4 ?c4 ?k4 ?a5 ?l5 ?c5 ?k5 ?a6 ?l6 ?c6 ?k6 ?a7 ?l7 ?c7 ?k7 ?a8 ?l8 ?c8 ?k8 ?a9 ?l9 ?c9 ?k9 ?a10 ?l10 ?c10 ?k10 ?a11 ?l11 ?c11 ?k11 ?a12 ?l12 ?c12 ?k12 ?a13 ?l13 ?c13 ?k13 ?a14 ?l14 ?c14 ?k14 ?a15 ?i15 ?l15 ?c15 ?k15 ?a16 ?i16 ?l16 ?c16 ?k16 ?a17 ?i17 ?l17 ?c17 ?k17 ?a18 ?i18 ?l18 ?c18 ?k18 ?a19 ?l19 ?c19 ?k19 ?a20 ?l20 ?c20 ?k20 ?a21 ?l21 ?c21 ?k21 ?a22 ?l22 ?c22 ?k22 ?a23 ?l23 ?c23 ?k23 ?a24 ?l24 ?c24 ?k24 ?a25 ?l25 ?c25 ?k25 ?a26 ?l26 ?c26 ?k26 ?a27 ?l27 ?c27 ?k27 ?z_len ?z_range ?z_zip ?z_tuple ?z_min ?z_max ?z_dict ?z_list ?g_KEYS ?g_PARTS ?g_HIGH ?g_EMPTY_LEAF ?tp_EMPTY_LEAF_0 ?tp_EMPTY_LEAF_2 ?tp_EMPTY_LEAF_1 ?pg_Shelf ?hd_Shelf ?po_Shelf ?sa_Shelf ?mk_Shelf ?kc_Shelf ?n_Shelf_kept ?n_Shelf_read_count ?n_Shelf_top ?n_Shelf_write_count ?n_Shelf_page_room
    (case aC_Shelf => k_is)
    (case a0 => k_is); (case i0 => k_is); (case l0 => k_is); (case c0 => k_is); (case k0 => k_is)
    (case a1 => k_is); (case i1 => k_is); (case l1 => k_is); (case c1 => k_is); (case k1 => k_is)
    (case a2 => k_is); (case i2 => k_is); (case l2 => k_is); (case c2 => k_is); (case k2 => k_is)
    (case a3 => k_is); (case i3 => k_is); (case l3 => k_is); (case c3 => k_is); (case k3 => k_is)
    (case a4 => k_is); (case l4 => k_is); (case c4 => k_is); (case k4 => k_is)
    (case a5 => k_is); (case l5 => k_is); (case c5 => k_is); (case k5 => k_is)
    (case a6 => k_is); (case l6 => k_is); (case c6 => k_is); (case k6 => k_is)
    (case a7 => k_is); (case l7 => k_is); (case c7 => k_is); (case k7 => k_is)
    (case a8 => k_is); (case l8 => k_is); (case c8 => k_is); (case k8 => k_is)
    (case a9 => k_is); (case l9 => k_is); (case c9 => k_is); (case k9 => k_is)
    (case a10 => k_is); (case l10 => k_is); (case c10 => k_is); (case k10 => k_is)
    (case a11 => k_is); (case l11 => k_is); (case c11 => k_is); (case k11 => k_is)
    (case a12 => k_is); (case l12 => k_is); (case c12 => k_is); (case k12 => k_is)
    (case a13 => k_is); (case l13 => k_is); (case c13 => k_is); (case k13 => k_is)
    (case a14 => k_is); (case l14 => k_is); (case c14 => k_is); (case k14 => k_is)
    (case a15 => k_is); (case i15 => k_is); (case l15 => k_is); (case c15 => k_is); (case k15 => k_is)
    (case a16 => k_is); (case i16 => k_is); (case l16 => k_is); (case c16 => k_is); (case k16 => k_is)
    (case a17 => k_is); (case i17 => k_is); (case l17 => k_is); (case c17 => k_is); (case k17 => k_is)
    (case a18 => k_is); (case i18 => k_is); (case l18 => k_is); (case c18 => k_is); (case k18 => k_is)
    (case a19 => k_is); (case l19 => k_is); (case c19 => k_is); (case k19 => k_is)
    (case a20 => k_is); (case l20 => k_is); (case c20 => k_is); (case k20 => k_is)
    (case a21 => k_is); (case l21 => k_is); (case c21 => k_is); (case k21 => k_is)
    (case a22 => k_is); (case l22 => k_is); (case c22 => k_is); (case k22 => k_is)
    (case a23 => k_is); (case l23 => k_is); (case c23 => k_is); (case k23 => k_is)
    (case a24 => k_is); (case l24 => k_is); (case c24 => k_is); (case k24 => k_is)
    (case a25 => k_is); (case l25 => k_is); (case c25 => k_is); (case k25 => k_is)
    (case a26 => k_is); (case l26 => k_is); (case c26 => k_is); (case k26 => k_is)
    (case a27 => k_is); (case l27 => k_is); (case c27 => k_is); (case k27 => k_is)
    (case z_len => k_is)
    (case z_range => k_is)
    (case z_zip => k_is)
    (case z_tuple => k_is)
    (case z_min => k_is)
    (case z_max => k_is)
    (case z_dict => k_is)
    (case z_list => k_is)
    (case g_KEYS => k_is)
    (case g_PARTS => k_is)
    (case g_HIGH => k_is)
    (case g_EMPTY_LEAF => k_is)
    (case tp_EMPTY_LEAF_0 => k_is)
    (case tp_EMPTY_LEAF_2 => k_is)
    (case tp_EMPTY_LEAF_1 => k_is)
    (case pg_Shelf => k_is); (case hd_Shelf => k_is); (case po_Shelf => k_is); (case sa_Shelf => k_is); (case mk_Shelf => k_is); (case kc_Shelf => k_is)
    (case n_Shelf_kept => k_is)
    (case n_Shelf_read_count => k_is)
    (case n_Shelf_top => k_is)
    (case n_Shelf_write_count => k_is)
    (case n_Shelf_page_room => k_is)

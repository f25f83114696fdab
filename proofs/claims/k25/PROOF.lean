import PyProof.Rows.All
import Wide.All
import OpenK.AllK
import Wide.FinOn
import Lean
import PyProof.EqAt
import PyProof.EqKinds
import PyProof.TupleCall
import PySem.Challenge.RW_sidelink_k25_whole_sound_at_each_step
-- CHANGE: your row's module here, as the last of these rows
set_option Elab.async false
set_option linter.all false
set_option maxRecDepth 100000
namespace L2
open PySem PySem.Spec PyProof.Rows
abbrev Key := Sum Int Str
def Ub : Key -> Value -> Bool
  | .inl k, v => Value.isInt k v
  | .inr x, v => Value.isStrOf x v
def QeW (w : World) : Key -> Int
  | .inl k => hashInt k
  | .inr x => hashStr w x
theorem Jp : ∀ {k : Key} {v : Value}, Ub k v = true -> (∃ i t, k = Sum.inl i /\ v = Value.int i t) ∨ (∃ x t, k = Sum.inr x /\ v = Value.str x t)
  | .inl i, v, h => by
    obtain ⟨t, e⟩ := Value.isInt_shape (k := i) (v := v) h
    exact .inl ⟨i, t, rfl, e⟩
  | .inr x, v, h => by
    obtain ⟨t, e⟩ := Value.isStrOf_shape (x := x) (v := v) h
    exact .inr ⟨x, t, rfl, e⟩
theorem u4 (i : Int) (t : Tok) : Ub (.inl i) (.int i t) = true := by simp [Ub, Value.isInt]
theorem gL (x : Str) (t : Tok) : Ub (.inr x) (.str x t) = true := by simp [Ub, Value.isStrOf]
theorem Qdo (a b : Int) : decide ((Sum.inl a : Key) = Sum.inl b) = (a == b) := by
  by_cases e : a = b
  . subst e; simp
  . have h : ¬ (Sum.inl a : Key) = Sum.inl b := fun q => e (Sum.inl.inj q)
    rw [decide_eq_false h]
    exact (beq_eq_false_iff_ne.mpr e).symm
theorem QdK (a b : Str) : decide ((Sum.inr a : Key) = Sum.inr b) = decide (a = b) := by
  by_cases e : a = b
  . subst e; simp
  . have h : ¬ (Sum.inr a : Key) = Sum.inr b := fun q => e (Sum.inr.inj q)
    rw [decide_eq_false h, decide_eq_false e]
theorem QcM (a : Int) (b : Str) : decide ((Sum.inl a : Key) = Sum.inr b) = false := decide_eq_false (fun q => nomatch q)
theorem QcQ (a : Str) (b : Int) : decide ((Sum.inr a : Key) = Sum.inl b) = false := decide_eq_false (fun q => nomatch q)
def Jn (prog : Program) (w : World) : PySem.KeyKind prog w Key where
  is := Ub
  hash := QeW w
  inj := fun v a b ha hb => by
    rcases Jp ha with ⟨i, t, rfl, rfl⟩ | ⟨x, t, rfl, rfl⟩
    . rcases Jp hb with ⟨j, u, rfl, e⟩ | ⟨y, u, rfl, e⟩
      . injection e with e1 _; rw [e1]
      . exact nomatch e
    . rcases Jp hb with ⟨j, u, rfl, e⟩ | ⟨y, u, rfl, e⟩
      . exact nomatch e
      . injection e with e1 _; rw [e1]
  byValue := fun k v h => by
    rcases Jp h with ⟨i, t, rfl, rfl⟩ | ⟨x, t, rfl, rfl⟩ <;> rfl
  pyHash := fun hv h => by
    rcases Jp hv with ⟨i, t, rfl, rfl⟩ | ⟨x, t, rfl, rfl⟩
    . exact wpAny_pyHash_int h
    . exact wpAny_pyHash_str h
  eqBool := fun hu hv h => by
    rcases Jp hu with ⟨i, t, rfl, rfl⟩ | ⟨x, t, rfl, rfl⟩
    . rcases Jp hv with ⟨j, u, rfl, rfl⟩ | ⟨y, u, rfl, rfl⟩
      . rw [Qdo] at h; exact wpAny_eqBool_int h
      . rw [QcM] at h; exact SeqAt.EqAt.int_str i t y u _ _ _ _ h
    . rcases Jp hv with ⟨j, u, rfl, rfl⟩ | ⟨y, u, rfl, rfl⟩
      . rw [QcQ] at h; exact SeqAt.EqAt.str_int x t j u _ _ _ _ h
      . rw [QdK] at h; exact wpAny_eqBool_str h
  «strs» := fun k x t v h => by
    rcases Jp h with ⟨i, u, rfl, e⟩ | ⟨y, u, rfl, e⟩
    . exact nomatch e
    . injection e with e1 _
      subst e1
      cases v <;> rfl
theorem KE (prog : Program) (w : World) (i : Int) (t : Tok) : (Jn prog w).is (.inl i) (.int i t) = true := u4 i t
theorem KL (prog : Program) (w : World) (x : Str) (t : Tok) : (Jn prog w).is (.inr x) (.str x t) = true := gL x t
end L2
namespace L2
open PySem PySem.Spec PyProof.Rows
inductive V where
  | non | bl (b : Bool) | int (i : Int) | str (x : Str) | byt (b : Array UInt8) | flt (b : UInt64) | ref (a : Addr) | ty (n : String)
  deriving DecidableEq
def RelV : V -> Value -> Prop
  | .non, u => u = Value.none
  | .bl b, u => u = Value.bool b
  | .int i, u => ∃ t, u = Value.int i t
  | .str x, u => ∃ t, u = Value.str x t
  | .byt b, u => ∃ t, u = Value.bytes b t
  | .flt b, u => ∃ t, u = Value.float b t
  | .ref a, u => u = Value.ref a
  | .ty n, u => u = Value.type n
abbrev Vals : List V -> List Value -> Prop := Paired RelV
theorem Vals.length {xs : List V} {us : List Value} (r : Vals xs us) : xs.length = us.length := Paired.length r
theorem Vals.get : ∀ {xs : List V} {us : List Value} {i : Nat} {x : V}, Vals xs us -> xs[i]? = some x -> ∃ u, us[i]? = some u /\ RelV x u
  | _, _, _, _, .nil, e => by simp at e
  | _, _, 0, _, .cons r _, e => by simp at e; subst e; exact ⟨_, rfl, r⟩
  | _, _, i + 1, x, .cons _ t, e => by
    obtain ⟨u, h1, h2⟩ := Vals.get (i := i) (x := x) t (by simpa using e)
    exact ⟨u, by simpa using h1, h2⟩
theorem Vals.set {x : V} {u : Value} (r : RelV x u) : ∀ {xs : List V} {us : List Value} (i : Nat), Vals xs us -> Vals (xs.set i x) (us.set i u)
  | _, _, _, .nil => .nil
  | _, _, 0, .cons _ t => .cons r t
  | _, _, i + 1, .cons q t => .cons q (Vals.set r i t)
theorem Vals.append : ∀ {xs ys : List V} {us ws : List Value}, Vals xs us -> Vals ys ws -> Vals (xs ++ ys) (us ++ ws)
  | _, _, _, _, .nil, s => s
  | _, _, _, _, .cons r t, s => .cons r (Vals.append t s)
theorem Vals.take : ∀ {xs : List V} {us : List Value} (n : Nat), Vals xs us -> Vals (xs.take n) (us.take n)
  | _, _, 0, _ => .nil
  | _, _, _ + 1, .nil => .nil
  | _, _, n + 1, .cons r t => .cons r (Vals.take n t)
theorem Vals.drop : ∀ {xs : List V} {us : List Value} (n : Nat), Vals xs us -> Vals (xs.drop n) (us.drop n)
  | _, _, 0, r => r
  | _, _, _ + 1, .nil => .nil
  | _, _, n + 1, .cons _ t => Vals.drop n t
def RelO : Option V -> Option Value -> Prop
  | some v, some u => RelV v u
  | none, none => True
  | _, _ => False
def KV {κ : Type} : List (κ × V) -> List (κ × Value) -> Prop := Paired fun (p : κ × V) (q : κ × Value) => p.1 = q.1 /\ RelV p.2 q.2
def kV : Key -> V
  | .inl i => .int i
  | .inr x => .str x
inductive HO where
    | lst (xs : List V)
    | tup (xs : List V)
    | dK (kvs : List (Key × V)) | dT (kvs : List (List Key × V))
    | set (S : Int -> Bool) (n : Nat)
    | ins (C dx : Addr) (fs : List (Str × V))
    | own (x : Addr)
    | xd (fs : List (Str × V))
    | met (f x : Addr)
    | rng (lo hi : Int)
    | frz (o : Obj) (u : HO)
    | tbl (ps : Array Value)
    | ext (φ : Heap -> Prop)
abbrev Hp := Addr -> Option HO
def upd (H : Hp) (a : Addr) (o : HO) : Hp := fun b => if b = a then some o else H b
theorem Q8 {H : Hp} {a : Addr} {o : HO} : upd H a o a = some o := by unfold upd; rw [if_pos rfl]
theorem QS {H : Hp} {a b : Addr} {o : HO} (h : b ≠ a) : upd H a o b = H b := by unfold upd; rw [if_neg h]
theorem Qea {H : Hp} {a b : Addr} {o u : HO} (h : H a = some o) (h' : H b = some u) (d : o ≠ u) : a ≠ b := by
  intro e; subst e; rw [h] at h'; exact d (Option.some.inj h')
theorem ZJ {H : Hp} {a b : Addr} {o : HO} (h : H a = some o) (h' : H b = none) : a ≠ b := by
  intro e; subst e; rw [h] at h'; cases h'
section
variable (P : Program) (w : World)
def ObjOk (H : Hp) (h : Heap) (a : Addr) : HO -> Prop
  | .lst xs => xs.length <= sizeLine /\ ∃ (its : List Value) (n : Nat), Vals xs its /\ h.get? a = some { cls := .type "list", data := .seq its.toArray n }
  | .tup xs => xs.length <= sizeLine /\ ∃ its : List Value, Vals xs its /\ IsTup h a its.toArray
  | .dK kvs => kvs.length <= sizeLine /\ (a == sysModules) = false /\ ∃ vs, KV kvs vs /\ h.DictOf (Jn P w) a vs
  | .dT kvs => kvs.length <= sizeLine /\ (a == sysModules) = false /\ ∃ xs : List (List Key × Addr × Value),
      Paired (fun (p : List Key × V) (q : List Key × Addr × Value) => p.1 = q.1 /\ H q.2.1 = some (.tup (p.1.map kV)) /\ RelV p.2 q.2.2) kvs xs /\
      ∃ o es ep, h.get? a = some o /\ o.ExactDict /\ o.data = .dict es ep /\ es.toList = xs.map (entryOfKey (tupleKind (Jn P w))) /\ (xs.map (·.1)).Nodup
  | .set S n => h.SetOf (intKind P w) a S n
  | .ins C dx fs => H dx = some (.own a) /\ fs.length <= 1000 /\ dx ≠ a /\ h.get? a = some (PySem.W.instObj C dx) /\
      ∃ mA, h.Ns1 dx mA /\ (∀ f, RelO (fs.lookup f) (mA f)) /\ PySem.Within mA (fs.map (·.1))
  | .own _ => ∃ o, h.get? a = some o
  | .xd fs => ∃ mA, h.Ns1 a mA /\ ∀ f, RelO (fs.lookup f) (mA f)
  | .rng lo hi => ∃ t u v, h.get? a = some { cls := .type "range", data := .fields #[.int lo t, .int hi u, .int 1 v] }
  | .frz o u => h.get? a = some o /\ ObjOk H h a u
  | .tbl ps => h.get? a = some { cls := .none, data := .fields ps }
  | .met f x => h.get? a = some (PySem.W.methodObj (.ref f) (.ref x))
  | .ext φ => φ h /\ (∃ o, h.get? a = some o) /\ ∀ h1 h2 : Heap, φ h1 -> (∀ o, h1.get? a = some o -> h2.get? a = some o) -> φ h2
def HOk (H : Hp) (h : Heap) : Prop := ∀ a o, H a = some o -> ObjOk P w H h a o
end
section
variable {P : Program} {w : World} {H H' : Hp} {h h' : Heap} {a : Addr} {o : HO}
theorem ObjOk.lt (x : ObjOk P w H h a o) : a < h.objs.size := by
  cases o with
  | lst xs => obtain ⟨_, _, _, _, e⟩ := x; exact Heap.lt_size e
  | tup xs => obtain ⟨_, _, _, p⟩ := x; exact p.lt
  | dK kvs => obtain ⟨_, _, _, _, o, _, _, e, _⟩ := x; exact Heap.lt_size e
  | dT kvs => obtain ⟨_, _, _, _, o, _, _, e, _⟩ := x; exact Heap.lt_size e
  | set S n => obtain ⟨o, _, _, _, e, _⟩ := x; exact Heap.lt_size e
  | ins C dx fs => obtain ⟨_, _, _, e, _⟩ := x; exact Heap.lt_size e
  | own y => obtain ⟨_, e⟩ := x; exact Heap.lt_size e
  | xd fs => obtain ⟨_, ⟨_, _, _, e, _⟩, _⟩ := x; exact Heap.lt_size e
  | rng lo hi => obtain ⟨_, _, _, e⟩ := x; exact Heap.lt_size e
  | frz ob u => obtain ⟨e, _⟩ := x; exact Heap.lt_size e
  | tbl ps => exact Heap.lt_size (show h.get? a = some _ from x)
  | met f y => exact Heap.lt_size (show h.get? a = some _ from x)
  | ext φ => obtain ⟨_, ⟨_, e⟩, _⟩ := x; exact Heap.lt_size e
theorem Paired.mapP {α β : Type} {F G : α -> β -> Prop} : ∀ {l₁ : List α} {l₂ : List β}, Paired F l₁ l₂ -> (∀ a b, F a b -> G a b) -> Paired G l₁ l₂
  | _, _, .nil, _ => .nil
  | _, _, .cons r t, f => .cons (f _ _ r) (Paired.mapP t f)
theorem ObjOk.stay (x : ObjOk P w H h a o) (k : ∀ b u, (b = a ∨ H b = some (.own a)) -> h.get? b = some u -> h'.get? b = some u)
    (ho : ∀ b, H b = some (.own a) -> H' b = some (.own a)) (ht : ∀ b xs, H b = some (.tup xs) -> H' b = some (.tup xs)) : ObjOk P w H' h' a o := by
  induction o with
  | lst xs => obtain ⟨z, its, n, r, e⟩ := x; exact ⟨z, its, n, r, k _ _ (.inl rfl) e⟩
  | tup xs => obtain ⟨z, its, r, ob, e, c⟩ := x; exact ⟨z, its, r, ob, k _ _ (.inl rfl) e, c⟩
  | dK kvs => obtain ⟨z, y, vs, r, ob, es, ep, e, c⟩ := x; exact ⟨z, y, vs, r, ob, es, ep, k _ _ (.inl rfl) e, c⟩
  | dT kvs =>
    obtain ⟨z, y, xs, r, ob, es, ep, e, c⟩ := x
    exact ⟨z, y, xs, Paired.mapP r fun p q z => ⟨z.1, ht _ _ z.2.1, z.2.2⟩, ob, es, ep, k _ _ (.inl rfl) e, c⟩
  | set S n => obtain ⟨ob, es, ep, t, e, c⟩ := x; exact ⟨ob, es, ep, t, k _ _ (.inl rfl) e, c⟩
  | ins C dx fs =>
    obtain ⟨d, z, ne, e, mA, ⟨od, es, ep, e2, c⟩, r⟩ := x
    exact ⟨ho _ d, z, ne, k _ _ (.inl rfl) e, mA, ⟨od, es, ep, k _ _ (.inr d) e2, c⟩, r⟩
  | own y => obtain ⟨ob, e⟩ := x; exact ⟨ob, k _ _ (.inl rfl) e⟩
  | xd fs => obtain ⟨mA, ⟨od, es, ep, e, c⟩, r⟩ := x; exact ⟨mA, ⟨od, es, ep, k _ _ (.inl rfl) e, c⟩, r⟩
  | rng lo hi => obtain ⟨t, u, v, e⟩ := x; exact ⟨t, u, v, k _ _ (.inl rfl) e⟩
  | frz ob u ih => obtain ⟨e, q⟩ := x; exact ⟨k _ _ (.inl rfl) e, ih q⟩
  | tbl ps =>
    have e : h.get? a = some { cls := .none, data := .fields ps } := x
    show h'.get? a = some { cls := .none, data := .fields ps }
    exact k a _ (.inl rfl) e
  | met f y =>
    have e : h.get? a = some (PySem.W.methodObj (.ref f) (.ref y)) := x
    show h'.get? a = some (PySem.W.methodObj (.ref f) (.ref y))
    exact k a _ (.inl rfl) e
  | ext φ => obtain ⟨p, ⟨o, e⟩, st⟩ := x; exact ⟨st _ _ p fun o q => k _ _ (.inl rfl) q, ⟨o, k _ _ (.inl rfl) e⟩, st⟩
theorem HOk.lt (x : HOk P w H h) (e : H a = some o) : a < h.objs.size := (x a o e).lt
theorem HOk.fresh (x : HOk P w H h) (e : h.objs.size <= a) : H a = none := by
  cases q : H a with
  | none => rfl
  | some u => exact absurd (Nat.lt_of_lt_of_le (x.lt q) e) (Nat.lt_irrefl _)
theorem HOk.kept (x : HOk P w H h) (k : ∀ b u, h.get? b = some u -> h'.get? b = some u) : HOk P w H h' := fun a o e =>
  (x a o e).stay (fun b u _ q => k b u q) (fun _ q => q) fun _ _ q => q
theorem HOk.laid (x : HOk P w H h) (k : ∀ b u, h.get? b = some u -> h'.get? b = some u) (hp : h.objs.size <= a) (new : ObjOk P w (upd H a o) h' a o) : HOk P w (upd H a o) h' := fun b u e => by
  have hn := x.fresh hp
  by_cases hb : b = a
  . subst hb; rw [Q8] at e; cases e; exact new
  . rw [QS hb] at e
    exact (x b u e).stay (fun c v _ q => k c v q) (fun c q => by rw [QS (ZJ q hn)]; exact q) fun c xs q => by rw [QS (ZJ q hn)]; exact q
end
def Rd (H : Hp) (a : Addr) (u : HO) : Prop := H a = some u ∨ ∃ o, H a = some (.frz o u)
theorem Rd.ok {P : Program} {w : World} {H : Hp} {h : Heap} {a : Addr} {u : HO} (r : Rd H a u) (x : HOk P w H h) : ObjOk P w H h a u := by
  rcases r with r | ⟨o, r⟩
  . exact x a u r
  . obtain ⟨_, q⟩ := x a _ r
    exact q
def Mut : Option HO -> Prop
  | some (.lst _) => True
  | some (.dK _) => True
  | some (.dT _) => True
  | some (.set _ _) => True
  | some (.ins _ _ _) => True
  | some (.ext _) => True
  | _ => False
section
variable {P : Program} {w : World} {H : Hp} {h h' : Heap} {x e : Addr} {o' : HO}
theorem HOk.write (ok : HOk P w H h) (mu : Mut (H x)) (he : e = x ∨ H e = some (.own x)) (k : ∀ b u, b ≠ e -> h.get? b = some u -> h'.get? b = some u) (heo : ∃ u, h'.get? e = some u)
    (new : ObjOk P w (upd H x o') h' x o') : HOk P w (upd H x o') h' := fun b u q => by
  have nown : ∀ c y, H c = some (.own y) -> c ≠ x := fun c y r z => by subst z; rw [r] at mu; exact mu
  have ntup : ∀ c xs, H c = some (.tup xs) -> c ≠ x := fun c xs r z => by subst z; rw [r] at mu; exact mu
  by_cases hb : b = x
  . subst hb; rw [Q8] at q; cases q; exact new
  . rw [QS hb] at q
    by_cases hbe : b = e
    . have q' : H b = some (.own x) := by
        rcases he with z | z
        . exact absurd (hbe.trans z) hb
        . rw [hbe]; exact z
      rw [q] at q'; cases q'
      obtain ⟨v, hv⟩ := heo
      exact ⟨v, by rw [hbe]; exact hv⟩
    . refine (ok b u q).stay (fun c v hc r => k c v ?_ r) (fun c r => by rw [QS (nown c b r)]; exact r) fun c xs r => by rw [QS (ntup c xs r)]; exact r
      rcases hc with rfl | hc
      . exact hbe
      . rintro rfl
        rcases he with z | z
        . exact nown c b hc z
        . rw [hc] at z; cases z; exact hb rfl
end
structure Un (fs ex : List Addr) (H H' : Hp) (h h' : Heap) : Prop where
  keep : ∀ b o, h.get? b = some o -> H b = none -> b ∉ fs -> b ∉ ex -> h'.get? b = some o
  slot : ∀ b o, h.get? b = some o -> H b = none -> b ∈ fs -> b ∉ ex -> ∃ sl, h'.get? b = some { o with slots := sl }
  free : ∀ b o, h.get? b = some o -> H b = none -> b ∉ ex -> H' b = none
  there : ∀ b o, h.get? b = some o -> b ∉ ex -> ∃ o', h'.get? b = some o'
  tups : ∀ b xs, H b = some (.tup xs) -> H' b = some (.tup xs)
  frzs : ∀ b o u, H b = some (.frz o u) -> H' b = some (.frz o u)
  tbls : ∀ b ps, H b = some (.tbl ps) -> ∃ more, H' b = some (.tbl (ps ++ more))
section
variable {fs fs' ex ex' : List Addr} {H H1 H2 : Hp} {h h1 h2 h' : Heap} {a x e : Addr} {o : HO}
theorem Un.any (u : Un fs ex H H1 h h1) {b : Addr} {ob : Obj} (q : h.get? b = some ob) (n : H b = none) (hx : b ∉ ex) : ∃ sl, h1.get? b = some { ob with slots := sl } := by
  by_cases hb : b ∈ fs
  . exact u.slot b ob q n hb hx
  . exact ⟨ob.slots, u.keep b ob q n hb hx⟩
theorem Un.kept (k : ∀ b u, h.get? b = some u -> h'.get? b = some u) : Un fs ex H H h h' :=
  ⟨fun b ob q _ _ _ => k b ob q, fun b ob q _ _ _ => ⟨ob.slots, k b ob q⟩, fun _ _ _ n _ => n, fun b ob q _ => ⟨ob, k b ob q⟩, fun _ _ q => q, fun _ _ _ q => q, fun _ ps q => ⟨#[], by rw [q]; simp⟩⟩
theorem Un.refl : Un fs ex H H h h := Un.kept fun _ _ q => q
theorem Un.laid (k : ∀ b u, h.get? b = some u -> h'.get? b = some u) (hp : h.objs.size <= a) (hn : H a = none) : Un fs ex H (upd H a o) h h' where
  keep := fun b u q _ _ _ => k b u q
  slot := fun b u q _ _ _ => ⟨u.slots, k b u q⟩
  free := fun b u q n _ => by rw [QS (Nat.ne_of_lt (Nat.lt_of_lt_of_le (Heap.lt_size q) hp))]; exact n
  there := fun b u q _ => ⟨u, k b u q⟩
  tups := fun b xs q => by rw [QS (ZJ q hn)]; exact q
  frzs := fun b u xs q => by rw [QS (ZJ q hn)]; exact q
  tbls := fun b ps q => ⟨#[], by rw [QS (ZJ q hn), q]; simp⟩
theorem Un.write (mu : Mut (H x)) (he : e = x ∨ H e = some (.own x)) (k : ∀ b u, b ≠ e -> h.get? b = some u -> h'.get? b = some u) (heo : ∃ u, h'.get? e = some u) : Un fs ex H (upd H x o) h h' := by
  have hx : ∀ b, H b = none -> b ≠ x := fun b n z => by subst z; rw [n] at mu; exact mu
  have hb : ∀ b, H b = none -> b ≠ e := fun b n z => by
    subst z
    rcases he with r | r
    . exact hx b n r
    . rw [n] at r; cases r
  have hm : ∀ b u, H b = some u -> ¬ Mut (some u) -> b ≠ x := fun b u q nm z => by subst z; rw [q] at mu; exact nm mu
  refine ⟨fun b u q n _ _ => k b u (hb b n) q, fun b u q n _ _ => ⟨u.slots, k b u (hb b n) q⟩, fun b u q n _ => by rw [QS (hx b n)]; exact n, fun b u q _ => ?_,
    fun b xs q => by rw [QS (hm b _ q fun z => z)]; exact q, fun b u xs q => by rw [QS (hm b _ q fun z => z)]; exact q, fun b ps q => ⟨#[], by rw [QS (hm b _ q fun z => z), q]; simp⟩⟩
  by_cases hbe : b = e
  . subst hbe; exact heo
  . exact ⟨u, k b u hbe q⟩
end
def trk (h : Heap) (H : Hp) : List Addr := (List.range h.objs.size).filter fun a => (H a).isSome
def UI (h : Heap) (H : Hp) : Heap := PySem.W.hideAll h (trk h H)
theorem gx (h : Heap) (H : Hp) : (UI h H).objs.size = h.objs.size := PySem.W.hideAll_size _ _
theorem QaN {h : Heap} {H : Hp} {b : Addr} {o : Obj} (e : h.get? b = some o) (n : H b = none) : (UI h H).get? b = some o :=
  PySem.W.hideAll_get _ e fun hm => by
    have q : (H b).isSome = true := (List.mem_filter.mp hm).2
    rw [n] at q; simp at q
theorem Qch {h : Heap} {H : Hp} {b : Addr} {o : Obj} (e : (UI h H).get? b = some o) : h.get? b = some o /\ H b = none := by
  have e' : h.get? b = some o := PySem.W.of_hideAll (trk h H) e
  refine ⟨e', ?_⟩
  cases q : H b with
  | none => rfl
  | some x =>
    have hm : b ∈ trk h H := List.mem_filter.mpr ⟨List.mem_range.mpr (Heap.lt_size e'), by simp [q]⟩
    have z : (UI h H).get? b = none := PySem.W.hideAll_none (trk h H) hm
    rw [z] at e; cases e
def KA (g h : Heap) (L : Addr) : List (Addr × Obj) := (List.range h.objs.size).filterMap fun a => if a = L ∨ (g.get? a).isSome = true then none else (h.get? a).map fun o => (a, o)
theorem yR {g h : Heap} {L : Addr} {p : Addr × Obj} (hp : p ∈ KA g h L) : p.1 ≠ L /\ g.get? p.1 = none /\ h.get? p.1 = some p.2 := by
  obtain ⟨b, _, e⟩ := List.mem_filterMap.mp hp
  split at e
  . cases e
  . rename_i hn
    cases q : h.get? b with
    | none => rw [q] at e; simp at e
    | some u =>
      rw [q] at e
      simp only [Option.map_some, Option.some.injEq] at e
      subst e
      refine ⟨fun z => hn (.inl z), ?_, q⟩
      show g.get? b = none
      cases r : g.get? b with
      | none => rfl
      | some v => exact (hn (.inr (by simp [r]))).elim
def rest (g h : Heap) (L d : Addr) : List (Addr × Obj) := (KA g h L).filter fun p => decide (p.1 ≠ d)
theorem Qan {g h : Heap} {L : Addr} : News g L h (KA g h L) := fun p hp => let ⟨a, b, c⟩ := yR hp; ⟨c, a, b⟩
end L2
namespace L2
open PySem PySem.Spec PyProof.Rows
structure Mod (K : PySem.W.Frag) (mg : Str -> Option Value) (base : Heap) : Prop where
  kin : K.In base
  glob : base.Ns mainGlobals mg
  blt : ∃ mb, base.Ns builtinsNs mb /\ ∀ x : Str, x ≠ "__name__" -> mb x = bootBuiltins x
  nolimit : base.NoLimit
structure Cx where
  prog : Program
  w : World
  K : PySem.W.Frag
  mg : Str -> Option Value
  base : Heap
  A : Around
  N : List Str
  s₀ : Shared
  H₀ : Hp
  env : Env
  outer : List Env
  stack : List Env
  ex : List Addr
  fn : Str -> Bool
  calm : Bool
  pn : List (Addr × Obj)
  xe : Value -> Shared -> Prop
def frs (l : List Env) : List Addr := l.filterMap (·.frame)
abbrev Cx.fs (X : Cx) : List Addr := frs X.outer
def Vis (sc : Scope) (x : Str) : Prop := sc.names.lookup x = some .local ∨ sc.names.lookup x = some .cell ∨ sc.names.lookup x = some .free
def Loc (sc : Scope) (x : Str) : Prop := sc.names.lookup x = some .local ∨ sc.names.lookup x = some .cell
def Qfl (env : Env) (h : Heap) (m : Str -> Option Value) (x : Str) (u : Value) : Prop :=
  (env.kindOf x = some .local /\ m x = some u) ∨ ((env.kindOf x = some .cell ∨ env.kindOf x = some .free) /\ ∃ c, env.cells.lookup x = some c /\ h.IsCell c (some u))
structure Cx.Ok (X : Cx) : Prop where
  mod : Mod X.K X.mg X.base
  kind : X.env.scope.kind = .function
  glob : X.env.globals = mainGlobals
  blt : X.env.builtins = builtinsNs
  above : X.s₀.heap.objs.size <= X.env.locals
  inj : ∀ x y c, X.env.cells.lookup x = some c -> X.env.cells.lookup y = some c -> x = y
  has : ∀ x, (X.env.kindOf x = some .cell ∨ X.env.kindOf x = some .free) -> ∃ c, X.env.cells.lookup x = some c
  cab : ∀ x c, X.fn x = true -> X.env.cells.lookup x = some c -> X.s₀.heap.objs.size <= c
  hd : X.calm = true -> X.A.handled = none
  frames : X.A.frames = some X.stack
  stk : X.stack = X.outer ∨ (X.stack = X.env :: X.outer /\ X.env.frame = some X.env.locals)
  exf : ∀ b ∈ X.ex, b ≠ X.env.locals /\ ∀ x c, X.env.cells.lookup x = some c -> c ≠ b
  bs : ∀ b o, X.base.get? b = some o -> X.s₀.heap.get? b = some o /\ X.H₀ b = none
  bsz : X.base.objs.size <= X.s₀.heap.objs.size
  noex : ∀ b o, X.base.get? b = some o -> b ∉ X.ex
  exfs : ∀ b ∈ X.ex, b ∉ X.fs
  funs : X.s₀.heap.FunFrames X.base X.outer
  frf : ∀ b ∈ X.fs, X.H₀ b = none
structure Inv (X : Cx) (pins : List (Addr × Obj)) (σ : List (Option V)) (H : Hp) (s : Shared) : Prop where
  ok : X.Ok
  os : s.os = X.s₀.os
  bare : AllBare s.gens
  base : Un X.fs X.ex X.H₀ H X.s₀.heap s.heap
  loc : ∃ m, s.heap.Ns X.env.locals m /\ ∀ (i : Nat) (x : Str) (v : V), X.N[i]? = some x -> σ[i]? = some (some v) -> Vis X.env.scope x -> ∃ u, RelV v u /\ Qfl X.env s.heap m x u
  cell : ∀ x c, X.env.cells.lookup x = some c -> ∃ v, s.heap.IsCell c v
  free : H X.env.locals = none
  freeC : ∀ x c, X.env.cells.lookup x = some c -> H c = none
  pin : ∀ p ∈ X.pn ++ pins, s.heap.get? p.1 = some p.2 /\ H p.1 = none /\ p.1 ≠ X.env.locals /\ p.1 ∉ X.fs /\ ∀ v, p.2.data ≠ .cell v
  hok : HOk X.prog X.w H s.heap
  len : σ.length = X.N.length
section
variable {X : Cx} {pins : List (Addr × Obj)} {σ : List (Option V)} {H H' : Hp} {s : Shared} {h' : Heap}
theorem Cx.Ok.nofr (ok : X.Ok) {b : Addr} {o : Obj} (e : X.base.get? b = some o) : b ∉ X.fs := fun hb => by
  have := (ok.funs.mem hb).1
  rw [e] at this; cases this
theorem Inv.bs (I : Inv X pins σ H s) : ∀ b o, X.base.get? b = some o -> s.heap.get? b = some o /\ H b = none := fun b o e =>
  ⟨I.base.keep b o (I.ok.bs b o e).1 (I.ok.bs b o e).2 (I.ok.nofr e) (I.ok.noex b o e), I.base.free b o (I.ok.bs b o e).1 (I.ok.bs b o e).2 (I.ok.noex b o e)⟩
theorem Inv.bk (I : Inv X pins σ H s) : ∀ b o, X.base.get? b = some o -> s.heap.get? b = some o := fun b o e => (I.bs b o e).1
theorem Inv.mod (I : Inv X pins σ H s) : Mod X.K X.mg X.base := I.ok.mod
theorem Inv.kIn (I : Inv X pins σ H s) : X.K.In s.heap := I.ok.mod.kin.keeps I.bk
theorem Inv.fr (I : Inv X pins σ H s) : ∃ m, Fr X.base X.env.locals s.heap m :=
  let ⟨m, hn, _⟩ := I.loc
  ⟨m, hn, I.bk, Nat.le_trans I.ok.bsz I.ok.above⟩
theorem Inv.lt (I : Inv X pins σ H s) : X.env.locals < s.heap.objs.size := let ⟨_, hn, _⟩ := I.loc; hn.lt
theorem Inv.sz (I : Inv X pins σ H s) : X.s₀.heap.objs.size <= s.heap.objs.size := Nat.le_trans I.ok.above (Nat.le_of_lt I.lt)
theorem Inv.nofs (I : Inv X pins σ H s) {a : Addr} (h : s.heap.objs.size <= a) : a ∉ X.fs := fun hb => by
  obtain ⟨_, o, ho, _⟩ := I.ok.funs.mem hb
  exact absurd (Nat.lt_of_lt_of_le (Heap.lt_size ho) (Nat.le_trans I.sz h)) (Nat.lt_irrefl _)
theorem Inv.cne (I : Inv X pins σ H s) : ∀ x c, X.env.cells.lookup x = some c -> c ≠ X.env.locals := fun x c e z => by
  obtain ⟨v, o, ho, hd⟩ := I.cell x c e
  obtain ⟨m, ⟨o', es, ep, ho', hd', _⟩, _⟩ := I.loc
  rw [z, ho'] at ho; cases ho; rw [hd'] at hd; cases hd
theorem Inv.funs (I : Inv X pins σ H s) : s.heap.FunFrames X.base X.outer := by
  have all : ∀ (l : List Env), (∀ b ∈ frs l, b ∈ X.fs) -> X.s₀.heap.FunFrames X.base l -> s.heap.FunFrames X.base l := by
    intro l
    induction l with
    | nil => intro _ _; trivial
    | cons env r ih =>
      intro hs hl
      obtain ⟨hk, ⟨L, o, hf, hn, ho, hd⟩, hr⟩ := hl
      have hL : L ∈ X.fs := hs L (by unfold frs; rw [List.filterMap_cons, hf]; exact List.mem_cons_self)
      obtain ⟨sl, e⟩ := I.base.slot L o ho (I.ok.frf L hL) hL fun z => I.ok.exfs L z hL
      exact ⟨hk, ⟨L, _, hf, hn, e, hd⟩, ih (fun b hb => hs b (by unfold frs; rw [List.filterMap_cons, hf]; exact List.mem_cons_of_mem _ hb)) hr⟩
  exact all X.outer (fun _ hb => hb) I.ok.funs
theorem Inv.stack (I : Inv X pins σ H s) : s.heap.FunFrames X.base X.stack := by
  rcases I.ok.stk with e | ⟨e, hf⟩
  . rw [e]; exact I.funs
  . rw [e]
    obtain ⟨m, hn, _⟩ := I.loc
    refine .cons (by rw [I.ok.kind]; decide) hf hn ?_ I.funs
    exact Heap.get?_none_of_le (Nat.le_trans I.ok.bsz I.ok.above)
theorem Inv.stkSub (I : Inv X pins σ H s) : ∀ b ∈ frs X.stack, b ∈ X.env.locals :: X.fs := fun b hb => by
  rcases I.ok.stk with e | ⟨e, hf⟩
  . rw [e] at hb; exact List.mem_cons_of_mem _ hb
  . rw [e] at hb
    unfold frs at hb
    rw [List.filterMap_cons, hf] at hb
    exact hb
theorem Inv.stkFree (I : Inv X pins σ H s) : ∀ b ∈ frs X.stack, H b = none := fun b hb => by
  rcases List.mem_cons.mp (I.stkSub b hb) with e | hb
  . rw [e]; exact I.free
  . obtain ⟨_, o, ho, _⟩ := I.ok.funs.mem hb
    exact I.base.free b o ho (I.ok.frf b hb) fun z => I.ok.exfs b z hb
theorem Inv.step {g' : Array GenState} {t' : Nat} {d' : Drawn} {ch : List Addr} (I : Inv X pins σ H s)
    (hch : ∀ b ∈ ch, (b ∈ X.ex ∨ X.s₀.heap.objs.size <= b) /\ b ≠ X.env.locals /\ (∀ x c, X.env.cells.lookup x = some c -> c ≠ b) /\ ∀ p ∈ X.pn ++ pins, p.1 ≠ b)
    (keep : ∀ b o, b ≠ X.env.locals -> b ∉ X.fs -> b ∉ ch -> s.heap.get? b = some o -> H b = none -> h'.get? b = some o)
    (slot : ∀ b o, b ≠ X.env.locals -> b ∈ X.fs -> b ∉ ch -> s.heap.get? b = some o -> H b = none -> ∃ sl, h'.get? b = some { o with slots := sl }) (free : ∀ b o, b ∉ ch -> s.heap.get? b = some o -> H b = none -> H' b = none)
    (there : ∀ b o, b ∉ ch -> s.heap.get? b = some o -> ∃ o', h'.get? b = some o')
    (tups : ∀ b xs, H b = some (.tup xs) -> H' b = some (.tup xs)) (frzs : ∀ b o u, H b = some (.frz o u) -> H' b = some (.frz o u)) (tbls : ∀ b ps, H b = some (.tbl ps) -> ∃ more, H' b = some (.tbl (ps ++ more)))
    (ns : ∀ m, s.heap.Ns X.env.locals m -> h'.Ns X.env.locals m) (hok : HOk X.prog X.w H' h') (hg : AllBare g') :
    Inv X pins σ H' { s with heap := h', gens := g', drawn := d', toks := t' } := by
  have neL : ∀ b o, X.s₀.heap.get? b = some o -> b ≠ X.env.locals := fun b o e => Nat.ne_of_lt (Nat.lt_of_lt_of_le (Heap.lt_size e) I.ok.above)
  have neC : ∀ b o, X.s₀.heap.get? b = some o -> b ∉ X.ex -> b ∉ ch := fun b o e hx hb => by
    rcases (hch b hb).1 with z | z
    . exact hx z
    . exact absurd (Nat.lt_of_lt_of_le (Heap.lt_size e) z) (Nat.lt_irrefl _)
  have cellK : ∀ x c, X.env.cells.lookup x = some c -> ∀ v, s.heap.IsCell c v -> h'.IsCell c v := fun x c e v ⟨o, ho, hd⟩ => by
    have nch : c ∉ ch := fun z => (hch c z).2.2.1 x c e rfl
    by_cases hc : c ∈ X.fs
    . obtain ⟨sl, q⟩ := slot c o (I.cne x c e) hc nch ho (I.freeC x c e)
      exact ⟨_, q, hd⟩
    . exact ⟨o, keep c o (I.cne x c e) hc nch ho (I.freeC x c e), hd⟩
  refine ⟨I.ok, I.os, hg, ⟨fun b o e n hb hx => ?_, fun b o e n hb hx => ?_, fun b o e n hx => ?_, fun b o e hx => ?_, fun b xs e => tups b xs (I.base.tups b xs e), fun b o xs e => frzs b o xs (I.base.frzs b o xs e), fun b ps e => ?_⟩, ?_, fun x c e => ?_, ?_, fun x c e => ?_, fun p hp => ?_, hok, I.len⟩
  . exact keep b o (neL b o e) hb (neC b o e hx) (I.base.keep b o e n hb hx) (I.base.free b o e n hx)
  . obtain ⟨sl, e1⟩ := I.base.slot b o e n hb hx
    obtain ⟨sl', e2⟩ := slot b _ (neL b o e) hb (neC b o e hx) e1 (I.base.free b o e n hx)
    exact ⟨sl', e2⟩
  . obtain ⟨o', e1⟩ := I.base.there b o e hx
    exact free b o' (neC b o e hx) e1 (I.base.free b o e n hx)
  . obtain ⟨o', e1⟩ := I.base.there b o e hx
    exact there b o' (neC b o e hx) e1
  . obtain ⟨m1, e1⟩ := I.base.tbls b ps e
    obtain ⟨m2, e2⟩ := tbls b _ e1
    exact ⟨m1 ++ m2, by rw [e2, Array.append_assoc]⟩
  . obtain ⟨m, hn, hl⟩ := I.loc
    refine ⟨m, ns m hn, fun i x v e1 e2 e3 => ?_⟩
    obtain ⟨u, r, l⟩ := hl i x v e1 e2 e3
    refine ⟨u, r, ?_⟩
    rcases l with l | ⟨k, c, e, z⟩
    . exact .inl l
    . exact .inr ⟨k, c, e, cellK x c e _ z⟩
  . obtain ⟨v, z⟩ := I.cell x c e
    exact ⟨v, cellK x c e v z⟩
  . obtain ⟨m, ⟨o, _, _, ho, _⟩, _⟩ := I.loc
    exact free _ o (fun z => (hch _ z).2.1 rfl) ho I.free
  . obtain ⟨v, o, ho, hd⟩ := I.cell x c e
    exact free c o (fun z => (hch c z).2.2.1 x c e rfl) ho (I.freeC x c e)
  . obtain ⟨e, n, ne, nf, d⟩ := I.pin p hp
    have nch : p.1 ∉ ch := fun z => (hch p.1 z).2.2.2 p hp rfl
    exact ⟨keep p.1 p.2 ne nf nch e n, free p.1 p.2 nch e n, ne, nf, d⟩
theorem Inv.un {t' : Nat} (I : Inv X pins σ H s) (u : Un X.fs [] H H' s.heap h') (hok : HOk X.prog X.w H' h') : Inv X pins σ H' { s with heap := h', toks := t' } := by
  obtain ⟨m, ⟨o, es, ep, ho, r⟩, _⟩ := id I.loc
  obtain ⟨sl, hL⟩ := u.any ho I.free (by simp)
  exact I.step (g' := s.gens) (d' := s.drawn) (ch := []) (fun _ z => nomatch z) (fun b o _ hb _ e n => u.keep b o e n hb (by simp)) (fun b o _ hb _ e n => u.slot b o e n hb (by simp)) (fun b o _ e n => u.free b o e n (by simp)) (fun b o _ e => u.there b o e (by simp)) u.tups u.frzs u.tbls (fun m' hm => by
    obtain ⟨o', es', ep', ho', r'⟩ := hm
    rw [ho] at ho'; cases ho'
    exact ⟨_, es', ep', hL, r'⟩) hok I.bare
theorem Inv.call {g' : Array GenState} {t' : Nat} {d' : Drawn} {ch : List Addr} (I : Inv X pins σ H s) (u : Un (frs X.stack) ch H H' s.heap h') (hok : HOk X.prog X.w H' h') (hg : AllBare g')
    (hch : ∀ b ∈ ch, (b ∈ X.ex ∨ X.s₀.heap.objs.size <= b) /\ b ≠ X.env.locals /\ (∀ x c, X.env.cells.lookup x = some c -> c ≠ b) /\ ∀ p ∈ X.pn ++ pins, p.1 ≠ b) :
    Inv X pins σ H' { s with heap := h', gens := g', drawn := d', toks := t' } := by
  obtain ⟨m, ⟨o, es, ep, ho, r⟩, _⟩ := id I.loc
  obtain ⟨sl, hL⟩ := u.any ho I.free fun z => (hch _ z).2.1 rfl
  exact I.step (ch := ch) hch (fun b o hL hb hc e n => u.keep b o e n (fun z => (List.mem_cons.mp (I.stkSub b z)).elim hL hb) hc) (fun b o _ _ hc e n => u.any e n hc) (fun b o hc e n => u.free b o e n hc) (fun b o hc e => u.there b o e hc) u.tups u.frzs u.tbls (fun m' hm => by
    obtain ⟨o', es', ep', ho', r'⟩ := hm
    rw [ho] at ho'; cases ho'
    exact ⟨_, es', ep', hL, r'⟩) hok hg
theorem Inv.turned {t' : Nat} {it : Addr} (I : Inv X pins σ H s) (k : ∀ b o, b ≠ it -> s.heap.get? b = some o -> h'.get? b = some o) (hn : H it = none) (hL : it ≠ X.env.locals)
    (h1 : it ∈ X.ex ∨ X.s₀.heap.objs.size <= it) (h2 : ∀ x c, X.env.cells.lookup x = some c -> c ≠ it) (h3 : ∀ p ∈ X.pn ++ pins, p.1 ≠ it) : Inv X pins σ H { s with heap := h', toks := t' } := by
  have nit : ∀ b u, H b = some u -> b ≠ it := fun b u e z => by rw [z, hn] at e; cases e
  refine I.step (g' := s.gens) (d' := s.drawn) (ch := [it]) (fun b hb => ?_) (fun b o _ _ hc e _ => k b o (fun z => hc (by simp [z])) e) (fun b o _ _ hc e _ => ⟨o.slots, k b o (fun z => hc (by simp [z])) e⟩) (fun _ _ _ _ n => n)
    (fun b o hc e => ⟨o, k b o (fun z => hc (by simp [z])) e⟩) (fun _ _ e => e) (fun _ _ _ e => e) (fun b ps e => ⟨#[], by rw [e]; simp⟩) (fun m hm => ?_) (fun b u e => ?_) I.bare
  . have e : b = it := by simpa using hb
    subst e
    exact ⟨h1, hL, h2, h3⟩
  . obtain ⟨o, es, ep, ho, r⟩ := hm
    exact ⟨o, es, ep, k _ o (Ne.symm hL) ho, r⟩
  . refine (I.hok b u e).stay (fun c v hc q => k c v ?_ q) (fun _ q => q) fun _ _ q => q
    rcases hc with z | z
    . rw [z]; exact nit b u e
    . exact nit c _ z
theorem Inv.tok (I : Inv X pins σ H s) (t : Nat) : Inv X pins σ H { s with toks := t } := I.un (h' := s.heap) (t' := t) Un.refl I.hok
theorem Inv.kept {t' : Nat} (I : Inv X pins σ H s) (k : ∀ b u, s.heap.get? b = some u -> h'.get? b = some u) : Inv X pins σ H { s with heap := h', toks := t' } := I.un (Un.kept k) (I.hok.kept k)
theorem Inv.laid {a : Addr} {o : HO} {t' : Nat} (I : Inv X pins σ H s) (k : ∀ b u, s.heap.get? b = some u -> h'.get? b = some u) (hp : s.heap.objs.size <= a) (new : ObjOk X.prog X.w (upd H a o) h' a o) :
    Inv X pins σ (upd H a o) { s with heap := h', toks := t' } := I.un (Un.laid k hp (I.hok.fresh hp)) (I.hok.laid k hp new)
theorem Inv.write {x e : Addr} {o : HO} {t' : Nat} (I : Inv X pins σ H s) (mu : Mut (H x)) (he : e = x ∨ H e = some (.own x)) (k : ∀ b u, b ≠ e -> s.heap.get? b = some u -> h'.get? b = some u) (heo : ∃ u, h'.get? e = some u)
    (new : ObjOk X.prog X.w (upd H x o) h' x o) : Inv X pins σ (upd H x o) { s with heap := h', toks := t' } := I.un (Un.write mu he k heo) (I.hok.write mu he k heo new)
theorem Inv.pins_of {pins' : List (Addr × Obj)} (I : Inv X pins σ H s) (h : ∀ p ∈ pins', s.heap.get? p.1 = some p.2 /\ H p.1 = none /\ p.1 ≠ X.env.locals /\ p.1 ∉ X.fs /\ ∀ v, p.2.data ≠ .cell v) : Inv X pins' σ H s :=
  ⟨I.ok, I.os, I.bare, I.base, I.loc, I.cell, I.free, I.freeC, fun p hp => (List.mem_append.mp hp).elim (fun z => I.pin p (List.mem_append_left _ z)) (h p), I.hok, I.len⟩
theorem Go {N : List Str} (hN : N.Nodup) {i j : Nat} {x : Str} (a : N[i]? = some x) (b : N[j]? = some x) : i = j := by
  obtain ⟨h1, e1⟩ := List.getElem?_eq_some_iff.mp a
  obtain ⟨h2, e2⟩ := List.getElem?_eq_some_iff.mp b
  exact (List.getElem_inj hN).mp (e1.trans e2.symm)
theorem Uk {M : Model} {A : Around} {E : Value -> Shared -> Prop} {i : Nat} {x : Str} {v : V} {u : Value} {Q : Unit -> Shared -> Prop} (I : Inv X pins σ H s) (hN : X.N.Nodup) (hi : X.N[i]? = some x) (hx : Loc X.env.scope x) (r : RelV v u)
    (h : ∀ s', Inv X pins (σ.set i (some v)) H s' -> (∃ a, Heap.SameBut a s.heap s'.heap /\ (a = X.env.locals ∨ X.env.cells.lookup x = some a)) -> Q () s') (hf : X.fn x = true ∨ X.env.scope.names.lookup x = some .local := by first | exact .inl rfl | exact .inr rfl | assumption) : wpAny M A (storeName X.env x u) Q E s := by
  obtain ⟨m, hn, hl⟩ := id I.loc
  have hcls : (X.env.scope.kind == .class || (X.env.scope.kind == .module && X.env.locals != X.env.globals)) = false := by rw [I.ok.kind]; rfl
  have hiσ : i < σ.length := by rw [I.len]; exact (List.getElem?_eq_some_iff.mp hi).1
  have cne := I.cne
  have tracked : ∀ {a : Addr} {h' : Heap}, (∃ o, s.heap.get? a = some o /\ H a = none) -> Heap.SameBut a s.heap h' -> HOk X.prog X.w H h' := fun {a h'} ha hs b ob e => by
    obtain ⟨_, _, hfree⟩ := ha
    refine (I.hok b ob e).stay (fun c w' hc q => (hs.2 c ?_).trans q) (fun _ q => q) fun _ _ q => q
    rintro rfl
    rcases hc with rfl | hc
    . rw [hfree] at e; cases e
    . rw [hfree] at hc; cases hc
  rcases hx with hk | hk
  . refine wpAny_storeName_local hk hn (fun h' hn' hs => ?_) hcls
    obtain ⟨oL, _, _, hoL, _⟩ := id hn
    refine h _ ⟨I.ok, I.os, I.bare, ⟨fun b o e n hb hx => ?_, fun b o e n hb hx => ?_, I.base.free, fun b o e hx => ?_, I.base.tups, I.base.frzs, I.base.tbls⟩, ⟨_, hn', fun j y v' e1 e2 e3 => ?_⟩, fun y c e => ?_, I.free, I.freeC, fun p hp => ?_, tracked ⟨oL, hoL, I.free⟩ hs, by simpa using I.len⟩ ⟨_, hs, .inl rfl⟩
    . exact (hs.2 b (Nat.ne_of_lt (Nat.lt_of_lt_of_le (Heap.lt_size e) I.ok.above))).trans (I.base.keep b o e n hb hx)
    . obtain ⟨sl, e1⟩ := I.base.slot b o e n hb hx
      exact ⟨sl, (hs.2 b (Nat.ne_of_lt (Nat.lt_of_lt_of_le (Heap.lt_size e) I.ok.above))).trans e1⟩
    . obtain ⟨o', e1⟩ := I.base.there b o e hx
      exact ⟨o', (hs.2 b (Nat.ne_of_lt (Nat.lt_of_lt_of_le (Heap.lt_size e) I.ok.above))).trans e1⟩
    . by_cases hj : j = i
      . subst hj
        rw [hi] at e1; cases e1
        rw [List.getElem?_set_self hiσ] at e2
        cases e2
        exact ⟨u, r, .inl ⟨hk, by simp⟩⟩
      . rw [List.getElem?_set_ne (Ne.symm hj)] at e2
        obtain ⟨u', r', q⟩ := hl j y v' e1 e2 e3
        refine ⟨u', r', ?_⟩
        rcases q with ⟨k, e⟩ | ⟨k, c, e, z⟩
        . refine .inl ⟨k, ?_⟩
          have : y ≠ x := fun e => hj (Go hN e1 (e ▸ hi))
          simp [this, e]
        . exact .inr ⟨k, c, e, z.sameBut hs (cne y c e)⟩
    . obtain ⟨w', z⟩ := I.cell y c e
      exact ⟨w', z.sameBut hs (cne y c e)⟩
    . obtain ⟨e, n, ne, nf, d⟩ := I.pin p hp
      exact ⟨(hs.2 p.1 ne).trans e, n, ne, nf, d⟩
  . have hfn : X.fn x = true := by
      rcases hf with z | z
      . exact z
      . rw [z] at hk; cases hk
    obtain ⟨c, hc⟩ := I.ok.has x (.inl hk)
    obtain ⟨w', z⟩ := I.cell x c hc
    refine wpAny_storeName_cell I.ok.kind hk hc z (fun h' hc' hs => ?_)
    obtain ⟨oc, hoc, hocd⟩ := id z
    refine h { s with heap := h' } ⟨I.ok, I.os, I.bare, ⟨fun b o e n hb hx => ?_, fun b o e n hb hx => ?_, I.base.free, fun b o e hx => ?_, I.base.tups, I.base.frzs, I.base.tbls⟩, ⟨m, hn.sameBut hs (Ne.symm (cne x c hc)), fun j y v' e1 e2 e3 => ?_⟩, fun y c' e => ?_, I.free, I.freeC, fun p hp => ?_, tracked ⟨oc, hoc, I.freeC x c hc⟩ hs, by simpa using I.len⟩ ⟨c, hs, .inr hc⟩
    . exact (hs.2 b (Nat.ne_of_lt (Nat.lt_of_lt_of_le (Heap.lt_size e) (I.ok.cab x c hfn hc)))).trans (I.base.keep b o e n hb hx)
    . obtain ⟨sl, e1⟩ := I.base.slot b o e n hb hx
      exact ⟨sl, (hs.2 b (Nat.ne_of_lt (Nat.lt_of_lt_of_le (Heap.lt_size e) (I.ok.cab x c hfn hc)))).trans e1⟩
    . obtain ⟨o', e1⟩ := I.base.there b o e hx
      exact ⟨o', (hs.2 b (Nat.ne_of_lt (Nat.lt_of_lt_of_le (Heap.lt_size e) (I.ok.cab x c hfn hc)))).trans e1⟩
    . by_cases hj : j = i
      . subst hj
        rw [hi] at e1; cases e1
        rw [List.getElem?_set_self hiσ] at e2
        cases e2
        exact ⟨u, r, .inr ⟨.inl hk, c, hc, hc'⟩⟩
      . rw [List.getElem?_set_ne (Ne.symm hj)] at e2
        obtain ⟨u', r', q⟩ := hl j y v' e1 e2 e3
        refine ⟨u', r', ?_⟩
        rcases q with q | ⟨k, c', e, z'⟩
        . exact .inl q
        . refine .inr ⟨k, c', e, z'.sameBut hs ?_⟩
          rintro rfl
          exact hj (Go hN e1 (I.ok.inj _ _ _ e hc ▸ hi))
    . by_cases hcc : c' = c
      . subst hcc; exact ⟨_, hc'⟩
      . obtain ⟨w2, z2⟩ := I.cell y c' e
        exact ⟨w2, z2.sameBut hs hcc⟩
    . obtain ⟨e, n, ne, nf, d⟩ := I.pin p hp
      refine ⟨(hs.2 p.1 ?_).trans e, n, ne, nf, d⟩
      intro q
      rw [q, hoc] at e
      have q' : oc = p.2 := Option.some.inj e
      exact d w' (by rw [<- q']; exact hocd)
theorem Gn {M : Model} {A : Around} {E : Value -> Shared -> Prop} {i : Nat} {x : Str} {v : V} {u : Value} {Q : Unit -> Shared -> Prop} (I : Inv X pins σ H s) (hN : X.N.Nodup) (hi : X.N[i]? = some x) (hx : Loc X.env.scope x) (r : RelV v u)
    (h : ∀ s', Inv X pins (σ.set i (some v)) H s' -> Q () s') (hf : X.fn x = true ∨ X.env.scope.names.lookup x = some .local := by first | exact .inl rfl | exact .inr rfl | assumption) : wpAny M A (storeName X.env x u) Q E s :=
  Uk I hN hi hx r (fun s' I' _ => h s' I') hf
theorem Inv.call' {s' : Shared} {ch : List Addr} (I : Inv X pins σ H s) (ho : s'.os = s.os) (u : Un (frs X.stack) ch H H' s.heap s'.heap) (hok : HOk X.prog X.w H' s'.heap) (hg : AllBare s'.gens)
    (hch : ∀ b ∈ ch, (b ∈ X.ex ∨ X.s₀.heap.objs.size <= b) /\ b ≠ X.env.locals /\ (∀ x c, X.env.cells.lookup x = some c -> c ≠ b) /\ ∀ p ∈ X.pn ++ pins, p.1 ≠ b) : Inv X pins σ H' s' := by
  obtain ⟨h', g', d', t', o'⟩ := s'
  have e : o' = s.os := ho
  subst e
  exact I.call (g' := g') (t' := t') (d' := d') u hok hg hch
end
abbrev XK := Value -> Option Addr -> Hp -> Prop
abbrev St := List (Option V)
abbrev VK := V -> Hp -> Prop
abbrev TE := St -> Hp -> VK -> Prop
abbrev TT := St -> Hp -> (Bool -> Hp -> Prop) -> Prop
abbrev TA := St -> Hp -> (List V -> Hp -> Prop) -> Prop
structure UN where
  nx : St -> Hp -> Prop
  rt : VK
  bk : St -> Hp -> Prop := fun _ _ => False
  ct : St -> Hp -> Prop := fun _ _ => False
abbrev TS := UN -> St -> Hp -> Prop
def EP (X : Cx) (pins : List (Addr × Obj)) (σ : St) (Q : VK) (u : Value) (s' : Shared) : Prop := ∃ v H', Inv X pins σ H' s' /\ RelV v u /\ Q v H'
def TP (X : Cx) (pins : List (Addr × Obj)) (σ : St) (Q : Bool -> Hp -> Prop) (b : Bool) (s' : Shared) : Prop := ∃ H', Inv X pins σ H' s' /\ Q b H'
def AP (X : Cx) (pins : List (Addr × Obj)) (σ : St) (Q : List V -> Hp -> Prop) (us : List Value) (s' : Shared) : Prop := ∃ vs H', Inv X pins σ H' s' /\ Vals vs us /\ Q vs H'
def SP (X : Cx) (pins : List (Addr × Obj)) (D : UN) (f : Flow) (s' : Shared) : Prop :=
  match f with
  | .next => ∃ σ' H', Inv X pins σ' H' s' /\ D.nx σ' H'
  | .brk => ∃ σ' H', Inv X pins σ' H' s' /\ D.bk σ' H'
  | .cont => ∃ σ' H', Inv X pins σ' H' s' /\ D.ct σ' H'
  | .ret u => ∃ v σ' H', Inv X pins σ' H' s' /\ RelV v u /\ D.rt v H'
def PE (X : Cx) (e : Expr) (t : TE) : Prop :=
  ∀ (pins : List (Addr × Obj)) (s : Shared) (σ : St) (H : Hp) (Q : VK), Inv X pins σ H s -> t σ H Q -> wpAny (model X.prog X.w) X.A (eval e X.env) (EP X pins σ Q) X.xe s
def PT (X : Cx) (e : Expr) (t : TT) : Prop :=
  ∀ (pins : List (Addr × Obj)) (s : Shared) (σ : St) (H : Hp) (Q : Bool -> Hp -> Prop), Inv X pins σ H s -> t σ H Q -> wpAny (model X.prog X.w) X.A (isTrue e X.env (eval e X.env)) (TP X pins σ Q) X.xe s
def PW (X : Cx) (e : Expr) (t : TT) : Prop :=
  ∀ (whole : Sem Value) (pins : List (Addr × Obj)) (s : Shared) (σ : St) (H : Hp) (Q : Bool -> Hp -> Prop), Inv X pins σ H s -> t σ H Q -> wpAny (model X.prog X.w) X.A (isTrue e X.env whole) (TP X pins σ Q) X.xe s
def PA (X : Cx) (es : List Expr) (t : TA) : Prop :=
  ∀ (pos : Pos) (pins : List (Addr × Obj)) (s : Shared) (σ : St) (H : Hp) (Q : List V -> Hp -> Prop), Inv X pins σ H s -> t σ H Q -> wpAny (model X.prog X.w) X.A (spliced (backTo pos (starEach es X.env))) (AP X pins σ Q) X.xe s
def PS (X : Cx) (st : Stmt) (t : TS) : Prop :=
  ∀ (pins : List (Addr × Obj)) (s : Shared) (σ : St) (H : Hp) (D : UN), Inv X pins σ H s -> t D σ H -> wpAny (model X.prog X.w) X.A (exec st X.env) (SP X pins D) X.xe s
def PSs (X : Cx) (st : List Stmt) (t : TS) : Prop :=
  ∀ (pins : List (Addr × Obj)) (s : Shared) (σ : St) (H : Hp) (D : UN), Inv X pins σ H s -> t D σ H -> wpAny (model X.prog X.w) X.A (execs st X.env) (SP X pins D) X.xe s
theorem thn {α : Type} {t : Sem α} {Q Q' : α -> Shared -> Prop} {M : Model} {A : Around} {E : Value -> Shared -> Prop} {s : Shared} (h : wpAny M A t Q E s) (hQ : ∀ a s, Q a s -> Q' a s) : wpAny M A t Q' E s := wpAny_mono h hQ fun _ _ x => x
end L2
namespace L2
open PySem PySem.Spec PyProof.Rows
section
variable {X : Cx}
theorem bin {a b : Expr} {ta tb : TE} (ha : PE X a ta) (hb : PE X b tb) {pins : List (Addr × Obj)} {s : Shared} {σ : St} {H : Hp} {R : V -> V -> Hp -> Prop} (I : Inv X pins σ H s) (h : ta σ H fun x H1 => tb σ H1 fun y H2 => R x y H2)
    {α : Type} {Q : α -> Shared -> Prop} {f : Value -> Value -> Sem α}
    (hf : ∀ v u s2 x y H2, Inv X pins σ H2 s2 -> RelV x v -> RelV y u -> R x y H2 -> wpAny (model X.prog X.w) X.A (f v u) Q X.xe s2) :
    wpAny (model X.prog X.w) X.A (eval a X.env) (fun v s₁ => wpAny (model X.prog X.w) X.A (eval b X.env) (fun u s₂ => wpAny (model X.prog X.w) X.A (f v u) Q X.xe s₂) X.xe s₁) X.xe s := by
  refine thn (ha pins s σ H _ I h) fun v s1 ⟨x, H1, I1, r1, q1⟩ => ?_
  refine thn (hb pins s1 σ H1 _ I1 q1) fun u s2 ⟨y, H2, I2, r2, q2⟩ => ?_
  exact hf v u s2 x y H2 I2 r1 r2 q2
def Qd9 (i : Nat) : TE := fun σ H Q => ∃ v, σ[i]? = some (some v) /\ Q v H
def tC (v : V) : TE := fun _ H Q => Q v H
theorem gX {i : Nat} {x : Str} {pos : Pos} (hN : X.N[i]? = some x) (hv : Vis X.env.scope x) (hd : (x == ("__debug__" : Str)) = false := by decide) (hcd : (x == ("__classdict__" : Str)) = false := by decide) : PE X (.Name x pos) (Qd9 i) := by
  intro pins s σ H Q I h
  obtain ⟨v, e, h⟩ := h
  obtain ⟨m, hn, hl⟩ := I.loc
  obtain ⟨u, r, l⟩ := hl i x v hN e hv
  have fin : EP X pins σ Q u s := ⟨v, H, I, r, h⟩
  rcases l with ⟨hk, hm⟩ | ⟨hk, c, hc, hcell⟩
  . exact wpAny_Name (wpAny_loadName_local I.ok.kind hk hn hm fin) hd
  . rcases hk with hk | hk
    . exact wpAny_Name (wpAny_loadName_cell I.ok.kind hk hc hcell fin) hd
    . exact wpAny_Name (wpAny_loadName_free I.ok.kind hk hc hcell fin hcd) hd
theorem Qdq {i j pos} : PE X (.Constant (.int i) j pos) (tC (.int i)) := fun _ _ _ H _ I h => wpAny_Constant_int ⟨.int i, H, I.tok _, ⟨_, rfl⟩, h⟩
theorem QeL {b j pos} : PE X (.Constant (.bool b) j pos) (tC (.bl b)) := fun _ _ _ H _ I h => Constant_bool ⟨.bl b, H, I, rfl, h⟩
theorem Qdi {j pos} : PE X (.Constant .none j pos) (tC .non) := fun _ _ _ H _ I h => Constant_none ⟨.non, H, I, rfl, h⟩
theorem QdU {x j pos} : PE X (.Constant (.str x) j pos) (tC (.str x)) := fun _ _ _ H _ I h => Calls.Constant_str ⟨.str x, H, I.tok _, ⟨_, rfl⟩, h⟩
def Gl (X : Cx) (x : Str) : Prop := X.env.kindOf x = some .globalImplicit
theorem Ku {E : Value -> Shared -> Prop} {pins : List (Addr × Obj)} {s : Shared} {σ : St} {H : Hp} {x : Str} {u : Value} {pos : Pos} {Q : Value -> Shared -> Prop} (I : Inv X pins σ H s) (hg : Gl X x) (hm : X.mg x = some u) (h : Q u s)
    (hd : (x == ("__debug__" : Str)) = false := by decide) : wpAny (model X.prog X.w) X.A (eval (.Name x pos) X.env) Q E s :=
  Calls.Name_function_global I.ok.kind hg (Calls.loadGlobal_global (by rw [I.ok.glob]; exact I.mod.glob.keeps I.bk) hm h) hd
theorem yV {E : Value -> Shared -> Prop} {pins : List (Addr × Obj)} {s : Shared} {σ : St} {H : Hp} {x : Str} {u : Value} {pos : Pos} {Q : Value -> Shared -> Prop} (I : Inv X pins σ H s) (hg : Gl X x) (hm : X.mg x = none) (hv : bootBuiltins x = some u) (h : Q u s)
    (hn : x ≠ "__name__" := by decide) (hd : (x == ("__debug__" : Str)) = false := by decide) : wpAny (model X.prog X.w) X.A (eval (.Name x pos) X.env) Q E s := by
  obtain ⟨mb, h1, h2⟩ := I.mod.blt
  exact Calls.Name_function_global I.ok.kind hg (Calls.loadGlobal_builtin (by rw [I.ok.glob]; exact I.mod.glob.keeps I.bk) hm (by rw [I.ok.blt]; exact h1.keeps I.bk) ((h2 x hn).trans hv) h) hd
theorem uO {x : Str} {v : V} {u : Value} {pos : Pos} (hg : Gl X x) (hm : X.mg x = some u) (r : RelV v u) (hd : (x == ("__debug__" : Str)) = false := by decide) : PE X (.Name x pos) (tC v) :=
  fun _ _ _ H _ I h => Ku I hg hm ⟨v, H, I, r, h⟩ hd
variable {a b : Expr} {ta tb : TE} {pos : Pos}
def PC (X : Cx) (op : CmpOp) (a b : Expr) (t : TE) : Prop :=
  ∀ (pins : List (Addr × Obj)) (s : Shared) (σ : St) (H : Hp) (Q : VK), Inv X pins σ H s -> t σ H Q ->
    wpAny (model X.prog X.w) X.A (eval a X.env) (fun v s₁ => wpAny (model X.prog X.w) X.A (eval b X.env) (fun u s₂ => wpAny (model X.prog X.w) X.A (compareOp op v u) (EP X pins σ Q) X.xe s₂) X.xe s₁) X.xe s
theorem gZ (b : Expr) {op : CmpOp} (h : op ≠ .In) (h2 : op ≠ .NotIn) : behindInMarks op b = false := by
  have e1 : (op == CmpOp.In) = false := by cases op <;> first | rfl | exact absurd rfl h
  have e2 : (op == CmpOp.NotIn) = false := by cases op <;> first | rfl | exact absurd rfl h2
  cases b <;> simp [behindInMarks, e1, e2]
def tB (t : TE) : TT := fun σ H Q => t σ H fun x H1 => ∃ c, x = .bl c /\ Q c H1
theorem Qfk {op : CmpOp} {t : TE} (h : PC X op a b t) (h1 : behindInMarks op b = false := by first | exact gZ _ (by decide) (by decide) | rfl) : PT X (.Compare a [op] [b] pos) (tB t) := by
  intro pins s σ H Q I hw
  refine wpAny_isTrue_Compare1 (thn (h pins s σ H _ I hw) fun v s1 h1 => thn h1 fun u s2 h2 => thn h2 fun c s3 ⟨x, H1, I1, r1, q1⟩ => ?_) h1
  obtain ⟨d, rfl, q⟩ := q1
  cases r1
  exact wpAny_truthy_bool ⟨H1, I1, q⟩
theorem QdD {e : Expr} {t : TE} (h : PE X e t) (he : ∀ whole, isTrue e X.env whole = (do let v <- whole; standAt e.pos; holding [v] (truthy v)) := by intro _; rfl) : PT X e (tB t) := by
  intro pins s σ H Q I hw
  refine isTrue_plain (thn (h pins s σ H _ I hw) fun v s1 ⟨x, H1, I1, r1, q1⟩ => ?_) (he _)
  obtain ⟨d, rfl, q⟩ := q1
  cases r1
  exact wpAny_truthy_bool ⟨H1, I1, q⟩
variable {tA tB' : TT} {rest : List Expr}
def Qfb (t u : TT) : TT := fun σ H Q => t σ H fun c H1 => if c = true then u σ H1 Q else Q false H1
def tOr (t u : TT) : TT := fun σ H Q => t σ H fun c H1 => if c = true then Q true H1 else u σ H1 Q
def Qe7 (t : TT) : TT := fun σ H Q => t σ H fun c H1 => Q (!c) H1
theorem QbR (ha : PT X a tA) : PW X (.BoolOp .And [a] pos) tA := by
  intro wh pins s σ H Q I h
  refine isTrue_and (thn (ha pins s σ H Q I h) fun c s1 e => ?_)
  cases c with
  | true => exact isTrue_and_nil e
  | false => exact e
theorem QdZ (ha : PT X a tA) : PW X (.BoolOp .Or [a] pos) tA := by
  intro wh pins s σ H Q I h
  refine isTrue_or (thn (ha pins s σ H Q I h) fun c s1 e => ?_)
  cases c with
  | false => exact isTrue_or_nil e
  | true => exact e
theorem Qd1 (ha : PT X a tA) (hb : PW X (.BoolOp .And (b :: rest) pos) tB') : PW X (.BoolOp .And (a :: b :: rest) pos) (Qfb tA tB') := by
  intro wh pins s σ H Q I h
  refine isTrue_and (thn (ha pins s σ H _ I h) fun c s1 ⟨H1, I1, q1⟩ => ?_)
  cases c with
  | true => exact hb wh pins s1 σ H1 Q I1 q1
  | false => exact ⟨H1, I1, q1⟩
theorem QeP (ha : PT X a tA) (hb : PW X (.BoolOp .Or (b :: rest) pos) tB') : PW X (.BoolOp .Or (a :: b :: rest) pos) (tOr tA tB') := by
  intro wh pins s σ H Q I h
  refine isTrue_or (thn (ha pins s σ H _ I h) fun c s1 ⟨H1, I1, q1⟩ => ?_)
  cases c with
  | true => exact ⟨H1, I1, q1⟩
  | false => exact hb wh pins s1 σ H1 Q I1 q1
theorem Qdw (ha : PT X a tA) : PT X (.UnaryOp .Not a pos) (Qe7 tA) := by
  intro pins s σ H Q I h
  exact isTrue_not (ha pins s σ H (fun c H1 => Q (!c) H1) I h)
def Qd8 (ta tb : TE) : TE := fun σ H Q => ta σ H fun x H1 => ∃ c, x = .bl c /\ if c = true then tb σ H1 Q else Q (.bl false) H1
theorem QdG {op} {t : TE} (h : PE X a t) : PE X (.BoolOp op [a] pos) t := fun pins s σ H Q I hw => BoolOp_one (h pins s σ H Q I hw)
theorem QcT (ha : PE X a ta) (hb : PE X (.BoolOp .And (b :: rest) pos) tb) : PE X (.BoolOp .And (a :: b :: rest) pos) (Qd8 ta tb) := by
  intro pins s σ H Q I h
  refine BoolOp_and (thn (ha pins s σ H _ I h) fun v s1 ⟨x, H1, I1, r1, q1⟩ => ?_)
  obtain ⟨c, rfl, q1⟩ := q1
  cases r1
  refine wpAny_truthy_bool ?_
  cases c with
  | true => exact hb pins s1 σ H1 Q I1 q1
  | false => exact ⟨.bl false, H1, I1, rfl, q1⟩
def tIf (t : TT) (ta tb : TE) : TE := fun σ H Q => t σ H fun c H1 => if c = true then ta σ H1 Q else tb σ H1 Q
theorem kI {c : Expr} (hc : PT X c tA) (ha : PE X a ta) (hb : PE X b tb) : PE X (.IfExp c a b pos) (tIf tA ta tb) := by
  intro pins s σ H Q I h
  refine wpAny_IfExp (thn (hc pins s σ H _ I h) fun d s1 ⟨H1, I1, q1⟩ => ?_)
  cases d with
  | true => exact ha pins s1 σ H1 Q I1 q1
  | false => exact hb pins s1 σ H1 Q I1 q1
end
end L2
namespace L2
open PySem PySem.Spec PyProof.Rows
def SqL (K : PySem.W.Frag) (H : Hp) (a : Addr) (xs : List V) : Prop :=
  Rd H a (.lst xs) ∨
    ∃ (o : Obj) (its : Array Value) (n : Nat), K.lookup a = some o /\ o.cls = .type "list" /\ o.dict = none /\ o.data = .seq its n /\ its.size <= sizeLine /\ Vals xs its.toList
def SqT (K : PySem.W.Frag) (H : Hp) (a : Addr) (xs : List V) : Prop :=
  Rd H a (.tup xs) ∨
    ∃ (o : Obj) (its : Array Value) (n : Nat), K.lookup a = some o /\ o.cls = .type "tuple" /\ o.data = .seq its n /\ its.size <= sizeLine /\ Vals xs its.toList
def Qfo : Value -> Option V
  | .none => some .non
  | .bool b => some (.bl b)
  | .int i _ => some (.int i)
  | .str x _ => some (.str x)
  | .bytes b _ => some (.byt b)
  | .float b _ => some (.flt b)
  | .ref a => some (.ref a)
  | .type n => some (.ty n)
  | _ => none
theorem RelV.abs {x : V} {u : Value} (r : RelV x u) : Qfo u = some x := by
  cases x with
  | non => cases r; rfl
  | bl _ => cases r; rfl
  | int _ => obtain ⟨t, rfl⟩ := r; rfl
  | str _ => obtain ⟨t, rfl⟩ := r; rfl
  | byt _ => obtain ⟨t, rfl⟩ := r; rfl
  | flt _ => obtain ⟨t, rfl⟩ := r; rfl
  | ref _ => cases r; rfl
  | ty _ => cases r; rfl
theorem RelV.inj {x y : V} {u : Value} (r : RelV x u) (q : RelV y u) : x = y := Option.some.inj (r.abs.symm.trans q.abs)
theorem Vals.inj : ∀ {xs ys : List V} {us : List Value}, Vals xs us -> Vals ys us -> xs = ys
  | _, _, _, .nil, .nil => rfl
  | _, _, _, .cons r t, .cons r' t' => by rw [r.inj r', Vals.inj t t']
section
variable {X : Cx} {pins : List (Addr × Obj)} {σ : St} {H : Hp} {s : Shared} {a : Addr} {xs ys : List V}
theorem SqL.of {K : PySem.W.Frag} (h : H a = some (.lst xs)) : SqL K H a xs := .inl (.inl h)
theorem SqT.of {K : PySem.W.Frag} (h : H a = some (.tup xs)) : SqT K H a xs := .inl (.inl h)
theorem Inv.list (I : Inv X pins σ H s) (h : SqL X.K H a xs) : ∃ its : List Value, Vals xs its /\ PlainL s.heap a its.toArray /\ xs.length <= sizeLine := by
  rcases h with h | ⟨o, its, n, hk, hc, hd, hs, hz, r⟩
  . obtain ⟨z, its, n, r, e⟩ := h.ok I.hok
    exact ⟨its, r, ⟨_, n, e, rfl, rfl, rfl⟩, z⟩
  . refine ⟨its.toList, r, ⟨o, n, I.kIn a o hk, hc, hd, by simpa using hs⟩, ?_⟩
    have e := r.length
    simp only [Array.length_toList] at e
    omega
theorem Inv.tuple (I : Inv X pins σ H s) (h : SqT X.K H a xs) : ∃ its : List Value, Vals xs its /\ IsTup s.heap a its.toArray /\ xs.length <= sizeLine := by
  rcases h with h | ⟨o, its, n, hk, hc, hs, hz, r⟩
  . obtain ⟨z, its, r, p⟩ := h.ok I.hok
    exact ⟨its, r, p, z⟩
  . refine ⟨its.toList, r, ⟨o, I.kIn a o hk, hc, n, by simpa using hs⟩, ?_⟩
    have e := r.length
    simp only [Array.length_toList] at e
    omega
theorem Inv.list_inj (I : Inv X pins σ H s) (h : SqL X.K H a xs) (h' : SqL X.K H a ys) : xs = ys := by
  obtain ⟨its, r, ⟨o, n, e, _, _, d⟩, _⟩ := I.list h
  obtain ⟨its', r', ⟨o', n', e', _, _, d'⟩, _⟩ := I.list h'
  rw [e] at e'; cases e'
  rw [d] at d'
  injection d' with d1 _
  have : its = its' := by simpa using congrArg Array.toList d1
  subst this
  exact r.inj r'
theorem Inv.tuple_inj (I : Inv X pins σ H s) (h : SqT X.K H a xs) (h' : SqT X.K H a ys) : xs = ys := by
  obtain ⟨its, r, ⟨o, e, _, n, d⟩, _⟩ := I.tuple h
  obtain ⟨its', r', ⟨o', e', _, n', d'⟩, _⟩ := I.tuple h'
  rw [e] at e'; cases e'
  rw [d] at d'
  injection d' with d1 _
  have : its = its' := by simpa using congrArg Array.toList d1
  subst this
  exact r.inj r'
end
abbrev Cx.wish (X : Cx) (E : Value -> Shared -> Prop) : Cx := { X with xe := E }
abbrev Cx.nox (X : Cx) : Cx := X.wish fun _ _ => False
theorem Cx.Ok.wish {X : Cx} (ok : X.Ok) (E : Value -> Shared -> Prop) : (X.wish E).Ok :=
  ⟨ok.mod, ok.kind, ok.glob, ok.blt, ok.above, ok.inj, ok.has, ok.cab, ok.hd, ok.frames, ok.stk, ok.exf, ok.bs, ok.bsz, ok.noex, ok.exfs, ok.funs, ok.frf⟩
theorem Cx.Ok.unwish {X : Cx} {E : Value -> Shared -> Prop} (ok : (X.wish E).Ok) : X.Ok :=
  ⟨ok.mod, ok.kind, ok.glob, ok.blt, ok.above, ok.inj, ok.has, ok.cab, ok.hd, ok.frames, ok.stk, ok.exf, ok.bs, ok.bsz, ok.noex, ok.exfs, ok.funs, ok.frf⟩
section
variable {X : Cx} {pins : List (Addr × Obj)} {σ : St} {H : Hp} {s : Shared} {E : Value -> Shared -> Prop}
theorem Inv.wish (I : Inv X pins σ H s) (E : Value -> Shared -> Prop) : Inv (X.wish E) pins σ H s := ⟨I.ok.wish E, I.os, I.bare, I.base, I.loc, I.cell, I.free, I.freeC, I.pin, I.hok, I.len⟩
theorem Inv.unwish (I : Inv (X.wish E) pins σ H s) : Inv X pins σ H s := ⟨I.ok.unwish, I.os, I.bare, I.base, I.loc, I.cell, I.free, I.freeC, I.pin, I.hok, I.len⟩
theorem SP.unwish {D : UN} {f : Flow} {s' : Shared} (h : SP (X.wish E) pins D f s') : SP X pins D f s' := by
  cases f with
  | next => obtain ⟨σ', H', I, q⟩ := h; exact ⟨σ', H', I.unwish, q⟩
  | brk => obtain ⟨σ', H', I, q⟩ := h; exact ⟨σ', H', I.unwish, q⟩
  | cont => obtain ⟨σ', H', I, q⟩ := h; exact ⟨σ', H', I.unwish, q⟩
  | ret u => obtain ⟨v, σ', H', I, r, q⟩ := h; exact ⟨v, σ', H', I.unwish, r, q⟩
theorem PSs.nox {st : List Stmt} {t : TS} (h : PSs X.nox st t) : PSs X st t := fun pins s σ H D I hw =>
  wpAny_mono (h pins s σ H D (I.wish _) hw) (fun _ _ q => q.unwish) fun _ _ z => False.elim z
end
section
variable {X : Cx} {st : Stmt} {rest : List Stmt} {t u : TS} {e : Expr} {te : TE} {pos : Pos}
def Qet : TS := fun D σ H => D.nx σ H
def Qd4 (t u : TS) : TS := fun D σ H => t { D with nx := u D } σ H
theorem pss_nil : PSs X [] Qet := fun _ _ σ H _ I h => wpAny_execs_nil ⟨σ, H, I, h⟩
theorem Qa2 (h1 : PS X st t) (h2 : PSs X rest u) : PSs X (st :: rest) (Qd4 t u) := by
  intro pins s σ H D I h
  refine wpAny_execs_cons (thn (h1 pins s σ H { D with nx := u D } I h) fun f s1 q => ?_)
  cases f with
  | next =>
    obtain ⟨σ', H', I', q⟩ := q
    exact h2 pins s1 σ' H' D I' q
  | ret v => exact q
  | brk => exact q
  | cont => exact q
theorem Qcx (h1 : PS X st t) : PSs X [st] t := by
  intro pins s σ H D I h
  refine wpAny_execs_cons (thn (h1 pins s σ H D I h) fun f s1 q => ?_)
  cases f with
  | next => exact wpAny_execs_nil q
  | ret v => exact q
  | brk => exact q
  | cont => exact q
theorem Inv.quiet {pins : List (Addr × Obj)} {σ : St} {H : Hp} {s : Shared} (I : Inv X pins σ H s) : interactive X.env = false := by simp [interactive, I.ok.kind]
def Qei (te : TE) : TS := fun D σ H => te σ H fun _ H1 => D.nx σ H1
theorem Qco (he : PE X e te) (hs : swapsWith e none pos.line X.env = pure false := by rfl) : PS X (.Expr e pos) (Qei te) := by
  intro pins s σ H D I h
  exact wpAny_Expr_any (thn (he pins s σ H _ I h) fun v s1 ⟨x, H1, I1, r1, q1⟩ => ⟨σ, H1, I1, q1⟩) I.quiet hs
def Qfd (te : TE) : TS := fun D σ H => te σ H D.rt
theorem QdJ (he : PE X e te) : PS X (.Return (some e) pos) (Qfd te) := by
  intro pins s σ H D I h
  exact wpAny_Return_some (thn (he pins s σ H _ I h) fun v s1 ⟨x, H1, I1, r1, q1⟩ => ⟨x, σ, H1, I1, r1, q1⟩)
def QeY (c : TT) (t u : TS) : TS := fun D σ H => c σ H fun b H1 => if b = true then t D σ H1 else u D σ H1
theorem QeR {c : Expr} {a b : List Stmt} {tc : TT} (hc : PT X c tc) (ha : PSs X a t) (hb : PSs X b u) : PS X (.If c a b pos) (QeY tc t u) := by
  intro pins s σ H D I h
  refine wpAny_If (thn (hc pins s σ H _ I h) fun d s1 ⟨H1, I1, q1⟩ => ?_)
  cases d with
  | true => exact ha pins s1 σ H1 D I1 q1
  | false => exact hb pins s1 σ H1 D I1 q1
def QcW : TS := fun _ _ _ => False
theorem kK : PS X st QcW := fun _ _ _ _ _ _ h => h.elim
end
abbrev TG := V -> St -> Hp -> (St -> Hp -> Prop) -> Prop
def PG (X : Cx) (target : Expr) (t : TG) : Prop :=
  ∀ (pins : List (Addr × Obj)) (s : Shared) (σ : St) (H : Hp) (v : V) (u : Value) (Q : St -> Hp -> Prop), Inv X pins σ H s -> RelV v u -> t v σ H Q ->
    wpAny (model X.prog X.w) X.A (assign target X.env u) (fun _ s' => ∃ σ' H', Inv X pins σ' H' s' /\ Q σ' H') X.xe s
abbrev QbA := V -> V -> V -> Hp -> (Hp -> Prop) -> Prop
def QbO (X : Cx) (t : QbA) : Prop :=
  ∀ (pins : List (Addr × Obj)) (s : Shared) (σ : St) (H : Hp) (o i v : V) (ov iv u : Value) (Q : Hp -> Prop), Inv X pins σ H s -> RelV o ov -> RelV i iv -> RelV v u -> t o i v H Q ->
    wpAny (model X.prog X.w) X.A (setItem ov iv u) (fun _ s' => ∃ H', Inv X pins σ H' s' /\ Q H') X.xe s
section
variable {X : Cx} {pos : Pos}
def uv (i : Nat) : TG := fun v σ H Q => Q (σ.set i (some v)) H
theorem uH {i : Nat} {x : Str} (hN : X.N.Nodup) (hi : X.N[i]? = some x) (hx : Loc X.env.scope x) (hf : X.fn x = true ∨ X.env.scope.names.lookup x = some .local := by first | exact .inl rfl | exact .inr rfl | assumption) : PG X (.Name x pos) (uv i) := by
  intro pins s σ H v u Q I r h
  exact wpAny_assign_Name (Gn I hN hi hx r (fun s' I' => ⟨_, H, I', h⟩) hf)
def Qe2 (to ti : TE) (t : QbA) : TG := fun v σ H Q => to σ H fun o H1 => ti σ H1 fun i H2 => t o i v H2 fun H3 => Q σ H3
theorem Qdf {o i : Expr} {to ti : TE} {t : QbA} (ho : PE X o to) (hi : PE X i ti) (hs : QbO X t)
    (ha : ∀ v, assign (.Subscript o i pos) X.env v = (do
      let ov <- holding [v] (eval o X.env)
      let iv <- holding [v, ov] (eval i X.env)
      standAt pos
      holding [v, ov, iv] (setItem ov iv v)
      release [v, ov, iv] []) := by intro _; rfl) : PG X (.Subscript o i pos) (Qe2 to ti t) := by
  intro pins s σ H v u Q I r h
  rw [ha]
  refine wpAny_bind (wpAny_holding (thn (ho pins s σ H _ I h) fun ov s1 ⟨x, H1, I1, r1, q1⟩ => ?_))
  refine wpAny_bind (wpAny_holding (thn (hi pins s1 σ H1 _ I1 q1) fun iv s2 ⟨y, H2, I2, r2, q2⟩ => ?_))
  refine wpAny_bind (wpAny_standAt (wpAny_bind (wpAny_holding (thn (hs pins s2 σ H2 x y v ov iv u _ I2 r1 r2 r q2) fun _ s3 ⟨H3, I3, q3⟩ => ?_))))
  exact wpAny_release ⟨σ, H3, I3, q3⟩
def QbD (te : TE) (g : TG) : TS := fun D σ H => te σ H fun x H1 => g x σ H1 D.nx
theorem Qdt {tg e : Expr} {te : TE} {g : TG} (he : PE X e te) (hg : PG X tg g) (hs : swapsWithSole [tg] e pos.line X.env = pure false := by rfl) (hw : swappedStores [tg] e X.env = pure none := by rfl)
    (h1 : (assignEach [tg] X.env).map (·.2) = [assign tg X.env] := by rfl) : PS X (.Assign [tg] e pos) (QbD te g) := by
  intro pins s σ H D I h
  refine wpAny_Assign_stores (thn (he pins s σ H _ I h) fun v s1 ⟨x, H1, I1, r1, q1⟩ => ?_) hs hw
  rw [h1]
  exact thn (hg pins s1 σ H1 x v _ I1 r1 q1) fun _ s2 q => q
theorem Qdl {i : Nat} {x : Str} {e : Expr} {te : TE} {pos' : Pos} (hN : X.N.Nodup) (hi : X.N[i]? = some x) (hx : Loc X.env.scope x) (he : PE X e te) (hs : swapsWith e (some (.Name x pos')) pos.line X.env = pure false := by rfl) (hf : X.fn x = true ∨ X.env.scope.names.lookup x = some .local := by first | exact .inl rfl | exact .inr rfl | assumption) :
    PS X (.Assign [.Name x pos'] e pos) (QbD te (uv i)) := by
  intro pins s σ H D I h
  refine wpAny_Assign_Name (thn (he pins s σ H _ I h) fun v s1 ⟨y, H1, I1, r1, q1⟩ => ?_) hs
  exact Gn I1 hN hi hx r1 (fun s2 I2 => ⟨_, H1, I2, q1⟩) hf
end
section
variable {X : Cx} {pos : Pos}
def Qdv (c : TT) (tb : TS) : TS := fun D σ H => ∃ W : Nat -> St -> Hp -> Prop, (∃ m, W m σ H) /\ ∀ m σ H, W m σ H ->
  c σ H fun b H1 => if b = true then ∃ N : St -> Hp -> Prop, (∀ σ' H', N σ' H' -> ∃ m', m' < m /\ W m' σ' H') /\ tb { D with nx := N, ct := N, bk := D.nx } σ H1 else D.nx σ H1
theorem Qbb {c : Expr} {body : List Stmt} {tc : TT} {tb : TS} (hp : PassesOwn (model X.prog X.w) X.A X.env X.xe) (hc : PT X c tc) (hb : PSs X body tb) : PS X (.While c body [] pos) (Qdv tc tb) := by
  intro pins s σ H D I h
  obtain ⟨W, ⟨m0, w0⟩, turn⟩ := h
  refine wpAny_While (codeAny_whileLoop (fun n s' => ∃ σ' H', Inv X pins σ' H' s' /\ W n σ' H') ?_ m0 ⟨σ, H, I, w0⟩)
  rintro n s1 ⟨σ1, H1, I1, w1⟩
  refine wpAny_passesOwn hp (thn (hc pins s1 σ1 H1 _ I1 (turn n σ1 H1 w1)) fun b s2 ⟨H2, I2, q2⟩ => ?_)
  cases b with
  | true =>
    obtain ⟨N, hN, q2⟩ := q2
    rw [if_pos rfl]
    refine wpAny_passesOwn hp (thn (hb pins s2 σ1 H2 _ I2 q2) fun f s3 q3 => ?_)
    cases f with
    | next =>
      obtain ⟨σ3, H3, I3, n3⟩ := q3
      obtain ⟨m', hm, w3⟩ := hN σ3 H3 n3
      exact ⟨m', hm, σ3, H3, I3, w3⟩
    | cont =>
      obtain ⟨σ3, H3, I3, n3⟩ := q3
      obtain ⟨m', hm, w3⟩ := hN σ3 H3 n3
      exact ⟨m', hm, σ3, H3, I3, w3⟩
    | brk => exact q3
    | ret v => exact q3
  | false =>
    rw [if_neg Bool.false_ne_true]
    exact wpAny_execs_nil ⟨σ1, H2, I2, q2⟩
end
structure It where
  go : Nat -> Hp -> Prop
  yld : Nat -> Hp -> V -> Hp -> Prop
  stop : Nat -> Hp -> Prop
def Kh (X : Cx) (pins : List (Addr × Obj)) (H : Hp) (b : Addr) : Prop :=
  H b = none /\ b ≠ X.env.locals /\ b ∉ X.fs /\ (b ∈ X.ex ∨ X.s₀.heap.objs.size <= b) /\ (∀ x c, X.env.cells.lookup x = some c -> c ≠ b) /\ ∀ p ∈ X.pn ++ pins, p.1 ≠ b
theorem Inv.fpOk {X : Cx} {pins : List (Addr × Obj)} {σ : St} {H H' : Hp} {s : Shared} {b : Addr} (I : Inv X pins σ H s) (hb : s.heap.objs.size <= b) (hn : H' b = none) : Kh X pins H' b := by
  refine ⟨hn, Nat.ne_of_gt (Nat.lt_of_lt_of_le I.lt hb), I.nofs hb, .inr (Nat.le_trans I.sz hb), fun x c e z => ?_, fun p hp z => ?_⟩
  . obtain ⟨v, q⟩ := I.cell x c e
    exact absurd (Nat.lt_of_lt_of_le q.lt (by rw [z]; exact hb)) (Nat.lt_irrefl _)
  . exact absurd (Nat.lt_of_lt_of_le (Heap.lt_size (I.pin p hp).1) (by rw [z]; exact hb)) (Nat.lt_irrefl _)
structure kY (P : Program) (w : World) (K : PySem.W.Frag) (tg : Expr) (J : It) (fp : List Addr) (it : Addr) (tn : Nat -> Heap -> Prop) : Prop where
  mem : it ∈ fp
  obj : ∀ i h, tn i h -> ∀ b ∈ fp, ∃ o, h.get? b = some o /\ ∀ v, o.data ≠ .cell v
  keep : ∀ i h h', tn i h -> (∀ b ∈ fp, ∀ o, h.get? b = some o -> h'.get? b = some o) -> tn i h'
  item : ∀ (X : Cx), X.prog = P -> X.w = w -> X.K = K -> X.calm = true -> ∀ (i : Nat) (pins : List (Addr × Obj)) (s : Shared) (σ : St) (H : Hp) (E : Value -> Shared -> Prop), Inv X pins σ H s -> (∀ b ∈ fp, Kh X pins H b) -> tn i s.heap -> J.go i H ->
    wpAny (model P w) X.A (pyNext (.ref it)) (fun r s1 => ∃ u, r = some u /\
      wpAny (model P w) X.A (letOwnedTupleGo tg (.ref it) u) (fun _ s2 => ∃ x H', Inv X pins σ H' s2 /\ RelV x u /\ J.yld i H x H' /\ tn (i + 1) s2.heap /\ ∀ b ∈ fp, H' b = none) E s1) E s
  done : ∀ (X : Cx), X.prog = P -> X.w = w -> X.K = K -> X.calm = true -> ∀ (i : Nat) (pins : List (Addr × Obj)) (s : Shared) (σ : St) (H : Hp) (E : Value -> Shared -> Prop), Inv X pins σ H s -> (∀ b ∈ fp, Kh X pins H b) -> tn i s.heap -> J.stop i H ->
    wpAny (model P w) X.A (pyNext (.ref it)) (fun r s1 => r = none /\ Inv X pins σ H s1) E s
  self : ∀ (A : Around) (i : Nat) (s : Shared) (Q : Value -> Shared -> Prop) (E : Value -> Shared -> Prop), tn i s.heap -> Q (.ref it) s -> wpAny (model P w) A (pyIter (.ref it)) Q E s
abbrev TI := St -> Hp -> (It -> Hp -> Prop) -> Prop
def PIE (X : Cx) (pins : List (Addr × Obj)) (σ : St) (tg : Expr) (R : It -> Hp -> Prop) (itv : Value) (s2 : Shared) : Prop :=
  ∃ (it : Addr) (fp : List Addr) (tn : Nat -> Heap -> Prop) (J : It) (H' : Hp), itv = .ref it /\ Inv X pins σ H' s2 /\ kY X.prog X.w X.K tg J fp it tn /\ tn 0 s2.heap /\ (∀ b ∈ fp, Kh X pins H' b) /\ R J H'
def PI (X : Cx) (tg iter : Expr) (wi : TI) : Prop :=
  ∀ (pins : List (Addr × Obj)) (s : Shared) (σ : St) (H : Hp) (R : It -> Hp -> Prop), Inv X pins σ H s -> wi σ H R ->
    wpAny (model X.prog X.w) X.A (eval iter X.env) (fun v s1 => wpAny (model X.prog X.w) X.A (pyIter v) (PIE X pins σ tg R) X.xe s1) X.xe s
theorem Qag {M : Model} {A : Around} {E : Value -> Shared -> Prop} {s : Shared} {tg : Expr} {it : Addr} {u : Value} {o : Obj} {n : String} {vs : Array Value} {Q : Unit -> Shared -> Prop} (ho : s.heap.get? it = some o) (hc : o.cls = .type n) (hd : o.data = .fields vs)
    (hn : ["enumerate", "zip", "dict_itemiterator", "dict_reverseitemiterator", "odict_iterator", "itertools.zip_longest", "itertools.pairwise"].contains n = false) (hQ : Q () s) : wpAny M A (letOwnedTupleGo tg (.ref it) u) Q E s := by
  unfold letOwnedTupleGo
  cases tg <;> first
    | exact wpAny_pure hQ
    | (cases u <;> first
        | exact wpAny_pure hQ
        | (refine wpAny_bind (wpAny_load ho ?_)
           rw [hc, hd]
           show wpAny M A (if (["enumerate", "zip", "dict_itemiterator", "dict_reverseitemiterator", "odict_iterator", "itertools.zip_longest", "itertools.pairwise"].contains n && vs[0]? == some (rawInt _)) = true then _ else _) Q E s
           rw [if_neg (by intro h; rw [hn, Bool.false_and] at h; cases h)]
           exact wpAny_pure hQ))
def Itl (K : PySem.W.Frag) (a : Addr) : It :=
  ⟨fun i H => ∃ xs x, SqL K H a xs /\ xs[i]? = some x, fun i H x H' => H' = H /\ ∀ xs, SqL K H a xs -> xs[i]? = some x, fun i H => ∃ xs, SqL K H a xs /\ xs.length <= i⟩
def Itt (K : PySem.W.Frag) (a : Addr) : It :=
  ⟨fun i H => ∃ xs x, SqT K H a xs /\ xs[i]? = some x, fun i H x H' => H' = H /\ ∀ xs, SqT K H a xs -> xs[i]? = some x, fun i H => ∃ xs, SqT K H a xs /\ xs.length <= i⟩
def Itr (lo : Int) (n : Nat) : It := ⟨fun i _ => i < n, fun i H x H' => H' = H /\ x = .int (lo + i), fun i _ => n <= i⟩
theorem ga {P : Program} {w : World} {K : PySem.W.Frag} {tg : Expr} (a it : Addr) : kY P w K tg (Itl K a) [it] it (fun i h => h.IsListIter it a i) where
  mem := by simp
  obj := fun i h st b hb => by
    have e : b = it := by simpa using hb
    subst e
    obtain ⟨o, e, c, d⟩ := st
    exact ⟨o, e, fun v z => by rw [d] at z; cases z⟩
  keep := fun i h h' st k => st.at fun o e => k it (by simp) o e
  item := by
    intro X hP hw hK hc i pins s σ H E I hf st hg
    subst hP hw hK
    obtain ⟨xs, x, hq, hx⟩ := hg
    obtain ⟨its, rv, p, hz⟩ := I.list hq
    obtain ⟨u, hu, ru⟩ := rv.get hx
    obtain ⟨f0, f1, f2, f3, f4, f5⟩ := hf it (by simp)
    refine wpAny_pyNext_list_item st p.isList (x := u) (by simpa using hu) fun h' st' sb => ?_
    have I1 : Inv X pins σ H { s with heap := h' } := I.turned (t' := s.toks) (fun b o hb e => (sb.2 b hb).trans e) f0 f1 f3 f4 f5
    obtain ⟨o, e, c, d⟩ := id st'
    exact ⟨u, rfl, Qag (s := { s with heap := h' }) e c d (by decide) ⟨x, H, I1, ru, ⟨rfl, fun ys hy => by rw [I.list_inj hy hq]; exact hx⟩, st', fun b hb => (hf b hb).1⟩⟩
  done := by
    intro X hP hw hK hc i pins s σ H E I hf st hg
    subst hP hw hK
    obtain ⟨xs, hq, hx⟩ := hg
    obtain ⟨its, rv, p, hz⟩ := I.list hq
    obtain ⟨f0, f1, f2, f3, f4, f5⟩ := hf it (by simp)
    have hl := rv.length
    exact wpAny_pyNext_list_end (I.ok.hd hc) st p.isList (by simp; omega) fun h' eb => ⟨rfl, I.turned (t' := s.toks) (fun b o hb e => eb b o hb e) f0 f1 f3 f4 f5⟩
  self := fun _ _ _ _ _ st h => wpAny_pyIter_listiter st h
theorem G9 {P : Program} {w : World} {K : PySem.W.Frag} {tg : Expr} (a it : Addr) : kY P w K tg (Itt K a) [it] it (fun i h => h.IsTupleIter it a i) where
  mem := by simp
  obj := fun i h st b hb => by
    have e : b = it := by simpa using hb
    subst e
    obtain ⟨o, e, c, d⟩ := st
    exact ⟨o, e, fun v z => by rw [d] at z; cases z⟩
  keep := fun i h h' st k => st.at fun o e => k it (by simp) o e
  item := by
    intro X hP hw hK hc i pins s σ H E I hf st hg
    subst hP hw hK
    obtain ⟨xs, x, hq, hx⟩ := hg
    obtain ⟨its, rv, p, hz⟩ := I.tuple hq
    obtain ⟨u, hu, ru⟩ := rv.get hx
    obtain ⟨f0, f1, f2, f3, f4, f5⟩ := hf it (by simp)
    refine wpAny_pyNext_tuple_item st (show s.heap.IsTuple a its.toArray from p) (x := u) (by simpa using hu) fun h' st' sb => ?_
    have I1 : Inv X pins σ H { s with heap := h' } := I.turned (t' := s.toks) (fun b o hb e => (sb.2 b hb).trans e) f0 f1 f3 f4 f5
    obtain ⟨o, e, c, d⟩ := id st'
    exact ⟨u, rfl, Qag (s := { s with heap := h' }) e c d (by decide) ⟨x, H, I1, ru, ⟨rfl, fun ys hy => by rw [I.tuple_inj hy hq]; exact hx⟩, st', fun b hb => (hf b hb).1⟩⟩
  done := by
    intro X hP hw hK hc i pins s σ H E I hf st hg
    subst hP hw hK
    obtain ⟨xs, hq, hx⟩ := hg
    obtain ⟨its, rv, p, hz⟩ := I.tuple hq
    obtain ⟨f0, f1, f2, f3, f4, f5⟩ := hf it (by simp)
    have hl := rv.length
    exact wpAny_pyNext_tuple_end (I.ok.hd hc) st (show s.heap.IsTuple a its.toArray from p) (by simp; omega) fun h' eb => ⟨rfl, I.turned (t' := s.toks) (fun b o hb e => eb b o hb e) f0 f1 f3 f4 f5⟩
  self := fun _ _ _ _ _ st h => wpAny_pyIter_tupleiter st h
theorem vG {P : Program} {w : World} {K : PySem.W.Frag} {tg : Expr} (it : Addr) (lo : Int) (n : Nat) : kY P w K tg (Itr lo n) [it] it (fun i h => IsRangeIter h it (lo + (i : Nat) * 1) ((n : Int) - (i : Nat)) 1) where
  mem := by simp
  obj := fun i h st b hb => by
    have e : b = it := by simpa using hb
    subst e
    exact ⟨_, st, fun v z => by
      have z' : Data.fields _ = Data.cell v := z
      cases z'⟩
  keep := fun i h h' st k => k it (by simp) _ st
  item := by
    intro X hP hw hK hc i pins s σ H E I hf st hg
    subst hP hw hK
    obtain ⟨f0, f1, f2, f3, f4, f5⟩ := hf it (by simp)
    have W := Walks.range (prog := X.prog) (w := X.w) (I.ok.hd hc) it lo 1 n
    refine W.item i s _ _ hg st fun v h' tk hv st' kk => ?_
    obtain ⟨t, rfl⟩ := hv
    have I1 : Inv X pins σ H { s with heap := h', toks := tk } := I.turned (fun b o hb e => kk b o (by simpa using hb) e) f0 f1 f3 f4 f5
    refine ⟨_, rfl, Qag (s := { s with heap := h', toks := tk }) (n := "range_iterator") st' rfl rfl (by decide) ⟨.int (lo + i), H, I1, ⟨t, ?_⟩, ⟨rfl, rfl⟩, st', fun b hb => (hf b hb).1⟩⟩
    rw [Int.mul_one]
  done := by
    intro X hP hw hK hc i pins s σ H E I hf st hg
    subst hP hw hK
    obtain ⟨f0, f1, f2, f3, f4, f5⟩ := hf it (by simp)
    exact wpAny_pyNext_range_end (I.ok.hd hc) st (by have : n <= i := hg; omega) fun h' eb => ⟨rfl, I.turned (t' := s.toks) (fun b o hb e => eb b o hb e) f0 f1 f3 f4 f5⟩
  self := fun _ _ _ _ _ st h => wpAny_pyIter_rangeiter st h
end L2
namespace L2
open PySem PySem.Spec PyProof.Rows
section
variable {X : Cx} {tg : Expr}
def Qew (K : PySem.W.Frag) (tl : TE) : TI := fun σ H R => tl σ H fun x H1 => ∃ a, x = .ref a /\ (∃ xs, SqL K H1 a xs) /\ R (Itl K a) H1
def QeZ (K : PySem.W.Frag) (tl : TE) : TI := fun σ H R => tl σ H fun x H1 => ∃ a, x = .ref a /\ (∃ xs, SqT K H1 a xs) /\ R (Itt K a) H1
theorem QbP {l : Expr} {tl : TE} (hl : PE X l tl) : PI X tg l (Qew X.K tl) := by
  intro pins s σ H R I h
  refine thn (hl pins s σ H _ I h) fun v s1 ⟨x, H1, I1, r1, q1⟩ => ?_
  obtain ⟨a, e, ⟨xs, hq⟩, q⟩ := q1
  subst e
  cases r1
  obtain ⟨its, rv, p, hz⟩ := I1.list hq
  refine wpAny_pyIter_list p.isList ?_
  refine ⟨s1.heap.objs.size, [s1.heap.objs.size], _, _, H1, rfl, I1.kept (t' := s1.toks) fun b o e => Heap.get?_push_of_some _ e, ga a _, ⟨_, Heap.get?_push_size _ rfl, rfl, rfl⟩, fun b hb => ?_, q⟩
  have e : b = s1.heap.objs.size := by simpa using hb
  subst e
  exact I1.fpOk (Nat.le_refl _) (I1.hok.fresh (Nat.le_refl _))
theorem QcO {l : Expr} {tl : TE} (hl : PE X l tl) : PI X tg l (QeZ X.K tl) := by
  intro pins s σ H R I h
  refine thn (hl pins s σ H _ I h) fun v s1 ⟨x, H1, I1, r1, q1⟩ => ?_
  obtain ⟨a, e, ⟨xs, hq⟩, q⟩ := q1
  subst e
  cases r1
  obtain ⟨its, rv, p, hz⟩ := I1.tuple hq
  refine wpAny_pyIter_tuple (show s1.heap.IsTuple a its.toArray from p) ?_
  refine ⟨s1.heap.objs.size, [s1.heap.objs.size], _, _, H1, rfl, I1.kept (t' := s1.toks) fun b o e => Heap.get?_push_of_some _ e, G9 a _, ⟨_, Heap.get?_push_size _ rfl, rfl, rfl⟩, fun b hb => ?_, q⟩
  have e : b = s1.heap.objs.size := by simpa using hb
  subst e
  exact I1.fpOk (Nat.le_refl _) (I1.hok.fresh (Nat.le_refl _))
theorem K4 {pins : List (Addr × Obj)} {σ : St} {H : Hp} {s : Shared} {R : It -> Hp -> Prop} {E : Value -> Shared -> Prop} {lo hi : Int} {t u v : Tok} {tk : Nat} (I : Inv X pins σ H s) (h1 : -(2 ^ 62) <= lo) (h2 : lo < 2 ^ 62) (h3 : -(2 ^ 62) <= hi) (h4 : hi < 2 ^ 62)
    (q : R (Itr lo (hi - lo).toNat) H) : wpAny (model X.prog X.w) X.A (pyIter (.ref s.heap.objs.size)) (PIE X pins σ tg R) E { s with heap := s.heap.push { cls := .type "range", data := .fields #[.int lo t, .int hi u, .int 1 v] }, toks := tk } := by
  refine wpAny_pyIter_range (IsRange.new ..) (small_one h1 h2 h3 h4) ?_
  have I1 : Inv X pins σ H { s with heap := s.heap.push { cls := .type "range", data := .fields #[.int lo t, .int hi u, .int 1 v] }, toks := tk } := I.kept fun b o e => Heap.get?_push_of_some _ e
  refine ⟨(s.heap.push { cls := .type "range", data := .fields #[.int lo t, .int hi u, .int 1 v] }).objs.size, [(s.heap.push { cls := .type "range", data := .fields #[.int lo t, .int hi u, .int 1 v] }).objs.size], _, _, H, rfl,
    I1.kept (t' := tk) fun b o e => Heap.get?_push_of_some _ e, vG _ lo (hi - lo).toNat, ?_, fun b hb => ?_, q⟩
  . have e1 : lo + ((0 : Nat) : Int) * 1 = lo := by simp
    have e2 : (((hi - lo).toNat : Nat) : Int) - ((0 : Nat) : Int) = Builtin.Range.rangeSize lo hi 1 := by rw [rangeSize_one]; split <;> omega
    show IsRangeIter _ _ (lo + ((0 : Nat) : Int) * 1) ((((hi - lo).toNat : Nat) : Int) - ((0 : Nat) : Int)) 1
    rw [e1, e2]
    exact Heap.get?_push_size _ rfl
  . have e : b = (s.heap.push { cls := .type "range", data := .fields #[.int lo t, .int hi u, .int 1 v] }).objs.size := by simpa using hb
    subst e
    exact I1.fpOk (Nat.le_refl _) (I1.hok.fresh (Nat.le_refl _))
def QeF (ta : TA) : TI := fun σ H R => ta σ H fun vs H1 => ∃ j : Int, vs = [.int j] /\ -(2 ^ 62) <= j /\ j < 2 ^ 62 /\ R (Itr 0 j.toNat) H1
def QeQ (ta : TA) : TI := fun σ H R => ta σ H fun vs H1 => ∃ i j : Int, vs = [.int i, .int j] /\ (-(2 ^ 62) <= i /\ i < 2 ^ 62 /\ -(2 ^ 62) <= j /\ j < 2 ^ 62) /\ R (Itr i (j - i).toNat) H1
theorem gE {a : Expr} {ta : TA} {p pos : Pos} (hg : Gl X "range") (hm : X.mg "range" = none) (ha : PA X [a] ta) (hs : starEach [a] X.env = [(false, eval a X.env)] := by rfl) : PI X tg (.Call (.Name "range" p) [a] [] pos) (QeF ta) := by
  intro pins s σ H R I h
  refine Call_ (yV I hg hm boot_range (PyProof.Rows.callWith_type1 (thn (ha pos pins s σ H _ I h) fun us s1 ⟨vs, H1, I1, r1, q1⟩ => ?_) hs rfl))
  obtain ⟨j, e, q1, q2, q⟩ := q1
  subst e
  cases r1 with
  | cons r rr =>
    cases rr
    obtain ⟨t, rfl⟩ := r
    exact call_range_1 (K4 I1 (by omega) (by omega) q1 q2 (by simpa using q))
theorem gR {a b : Expr} {ta : TA} {p pos : Pos} (hg : Gl X "range") (hm : X.mg "range" = none) (ha : PA X [a, b] ta) (hs : starEach [a, b] X.env = [(false, eval a X.env), (false, eval b X.env)] := by rfl) (hs2 : starEach [b] X.env = [(false, eval b X.env)] := by rfl) :
    PI X tg (.Call (.Name "range" p) [a, b] [] pos) (QeQ ta) := by
  intro pins s σ H R I h
  refine Call_ (yV I hg hm boot_range (PyProof.Rows.callWith_type1 (thn (ha pos pins s σ H _ I h) fun us s1 ⟨vs, H1, I1, r1, q1⟩ => ?_) (by rw [hs, hs2]) (by rw [hs2]; rfl)))
  obtain ⟨i, j, e, ⟨q1, q2, q3, q4⟩, q⟩ := q1
  subst e
  cases r1 with
  | cons r rr =>
    cases rr with
    | cons r' rr =>
      cases rr
      obtain ⟨t, rfl⟩ := r
      obtain ⟨t', rfl⟩ := r'
      exact call_range_2 (K4 I1 q1 q2 q3 q4 q)
def Qe9 (wi : TI) (g : TG) (tb : TS) : TS := fun D σ H => wi σ H fun J H1 => ∃ W : Nat -> Nat -> St -> Hp -> Prop, (∃ m, W 0 m σ H1) /\ ∀ i m σ H, W i m σ H ->
  (J.stop i H /\ D.nx σ H) ∨ (J.go i H /\ ∃ N : St -> Hp -> Prop, (∀ σ' H', N σ' H' -> ∃ m', m' < m /\ W (i + 1) m' σ' H') /\ ∀ x H', J.yld i H x H' -> g x σ H' fun σ2 H2 => tb { D with nx := N, ct := N, bk := D.nx } σ2 H2)
def y2 (fp : List Addr) (h : Heap) : List (Addr × Obj) := fp.filterMap fun b => (h.get? b).map fun o => (b, o)
theorem q8 {fp : List Addr} {h : Heap} {b : Addr} {o : Obj} (hb : b ∈ fp) (e : h.get? b = some o) : (b, o) ∈ y2 fp h := List.mem_filterMap.mpr ⟨b, hb, by rw [e]; rfl⟩
theorem gC {fp : List Addr} {h : Heap} {p : Addr × Obj} (hp : p ∈ y2 fp h) : p.1 ∈ fp /\ h.get? p.1 = some p.2 := by
  obtain ⟨b, hb, e⟩ := List.mem_filterMap.mp hp
  cases q : h.get? b with
  | none => rw [q] at e; cases e
  | some o =>
    rw [q] at e
    have e' : (b, o) = p := Option.some.inj e
    subst e'
    exact ⟨hb, q⟩
theorem Inv.pinned {pins : List (Addr × Obj)} {σ : St} {H : Hp} {s : Shared} {fp : List Addr} (I : Inv X pins σ H s) (hf : ∀ b ∈ fp, Kh X pins H b) (ho : ∀ b ∈ fp, ∃ o, s.heap.get? b = some o /\ ∀ v, o.data ≠ .cell v) : Inv X (pins ++ y2 fp s.heap) σ H s :=
  I.pins_of fun p hp => (List.mem_append.mp hp).elim (fun z => I.pin p (List.mem_append_right _ z)) fun z => by
    obtain ⟨hb, e⟩ := gC z
    obtain ⟨f0, f1, f2, _⟩ := hf p.1 hb
    obtain ⟨o, e', d⟩ := ho p.1 hb
    rw [e] at e'; cases e'
    exact ⟨e, f0, f1, f2, d⟩
theorem Inv.unpinned {pins pl : List (Addr × Obj)} {σ : St} {H : Hp} {s : Shared} (I : Inv X (pins ++ pl) σ H s) : Inv X pins σ H s := I.pins_of fun p hp => I.pin p (List.mem_append_right _ (List.mem_append_left _ hp))
theorem kx {iter : Expr} {body : List Stmt} {wi : TI} {g : TG} {tb : TS} {pos : Pos} (hp : PassesOwn (model X.prog X.w) X.A X.env X.xe) (hc : X.calm = true) (hi : PI X tg iter wi) (hg : PG X tg g) (hb : PSs X body tb)
    (hs : ∀ x, foldedSetIterable iter X.env x = pure x := by intro _; rfl) : PS X (.For tg iter body [] pos) (Qe9 wi g tb) := by
  intro pins s σ H D I h
  refine wpAny_For (thn (hi pins s σ H _ I h) fun v s1 h1 => thn h1 fun itv s2 h2 => ?_) hs
  obtain ⟨it, fp, tn, J, H2, e, I2, T, st2, f2, W, ⟨m0, w0⟩, turn⟩ := h2
  subst e
  have stat : ∀ {H' : Hp}, (∀ b ∈ fp, H' b = none) -> ∀ b ∈ fp, Kh X pins H' b := fun hn b hb => ⟨hn b hb, (f2 b hb).2⟩
  refine codeAny_forLoop_any (fun n s' => ∃ i σ' H', Inv X pins σ' H' s' /\ tn i s'.heap /\ (∀ b ∈ fp, H' b = none) /\ W i n σ' H') ?_ m0 ⟨0, σ, H2, I2, st2, fun b hb => (f2 b hb).1, w0⟩
  rintro n s3 ⟨i, σ3, H3, I3, st3, fr3, w3⟩
  rcases turn i n σ3 H3 w3 with ⟨stop, qn⟩ | ⟨go, N, hN, step⟩
  . refine wpAny_passesOwn hp (thn (T.done X rfl rfl rfl hc i pins s3 σ3 H3 X.xe I3 (stat fr3) st3 stop) fun r s4 ⟨hr, I4⟩ => ?_)
    subst hr
    exact wpAny_execs_nil ⟨σ3, H3, I4, qn⟩
  . refine wpAny_passesOwn hp (thn (T.item X rfl rfl rfl hc i pins s3 σ3 H3 X.xe I3 (stat fr3) st3 go) fun r s4 ⟨u, hr, h4⟩ => ?_)
    subst hr
    refine wpAny_passesOwn hp (thn h4 fun _ s5 ⟨x, H5, I5, r5, y5, st5, fr5⟩ => ?_)
    have I5' := I5.pinned (stat fr5) (T.obj _ _ st5)
    refine wpAny_passesOwn hp (thn (hg _ s5 σ3 H5 x u _ I5' r5 (step x H5 y5)) fun _ s6 ⟨σ6, H6, I6, q6⟩ => ?_)
    refine wpAny_passesOwn hp (thn (hb _ s6 σ6 H6 _ I6 q6) fun f s7 q7 => ?_)
    have again : ∀ {σ7 : St} {H7 : Hp}, Inv X (pins ++ y2 fp s5.heap) σ7 H7 s7 -> N σ7 H7 -> ∃ m, m < n /\ ∃ i σ' H', Inv X pins σ' H' s7 /\ tn i s7.heap /\ (∀ b ∈ fp, H' b = none) /\ W i m σ' H' := fun {σ7 H7} I7 n7 => by
      obtain ⟨m', hm, w7⟩ := hN σ7 H7 n7
      refine ⟨m', hm, i + 1, σ7, H7, I7.unpinned, T.keep _ _ _ st5 fun b hb o e => (I7.pin (b, o) (List.mem_append_right _ (List.mem_append_right _ (q8 hb e)))).1, fun b hb => ?_, w7⟩
      obtain ⟨o, e, d⟩ := T.obj _ _ st5 b hb
      exact (I7.pin (b, o) (List.mem_append_right _ (List.mem_append_right _ (q8 hb e)))).2.1
    cases f with
    | next => obtain ⟨σ7, H7, I7, n7⟩ := q7; exact again I7 n7
    | cont => obtain ⟨σ7, H7, I7, n7⟩ := q7; exact again I7 n7
    | brk => obtain ⟨σ7, H7, I7, q7⟩ := q7; exact ⟨σ7, H7, I7.unpinned, q7⟩
    | ret v => obtain ⟨x7, σ7, H7, I7, r7, q7⟩ := q7; exact ⟨x7, σ7, H7, I7.unpinned, r7, q7⟩
end
end L2
namespace L2
open PySem PySem.Spec PyProof.Rows
abbrev R2 := V -> V -> Hp -> VK -> Prop
def OpR (X : Cx) (f : Value -> Value -> Sem Value) (r : R2) : Prop :=
  ∀ (pins : List (Addr × Obj)) (s : Shared) (σ : St) (H : Hp) (x y : V) (v u : Value) (Q : VK), Inv X pins σ H s -> RelV x v -> RelV y u -> r x y H Q ->
    wpAny (model X.prog X.w) X.A (f v u) (EP X pins σ Q) X.xe s
def UnR (X : Cx) (f : Value -> Sem Value) (r : V -> Hp -> VK -> Prop) : Prop :=
  ∀ (pins : List (Addr × Obj)) (s : Shared) (σ : St) (H : Hp) (x : V) (v : Value) (Q : VK), Inv X pins σ H s -> RelV x v -> r x H Q ->
    wpAny (model X.prog X.w) X.A (f v) (EP X pins σ Q) X.xe s
def Yk (X : Cx) (f : Value) (r : List V -> Hp -> VK -> Prop) : Prop :=
  ∀ (pins : List (Addr × Obj)) (s : Shared) (σ : St) (H : Hp) (xs : List V) (us : List Value) (Q : VK), Inv X pins σ H s -> Vals xs us -> r xs H Q ->
    wpAny (model X.prog X.w) X.A (call f us) (EP X pins σ Q) X.xe s
def tOp (r : R2) (ta tb : TE) : TE := fun σ H Q => ta σ H fun x H1 => tb σ H1 fun y H2 => r x y H2 Q
def tUn (r : V -> Hp -> VK -> Prop) (ta : TE) : TE := fun σ H Q => ta σ H fun x H1 => r x H1 Q
def rI (C : Int -> Int -> Prop) (g : Int -> Int -> V) : R2 := fun x y H Q => ∃ i j, x = .int i /\ y = .int j /\ C i j /\ Q (g i j) H
def rI0 (g : Int -> Int -> V) : R2 := fun x y H Q => ∃ i j, x = .int i /\ y = .int j /\ Q (g i j) H
def rU (g : Int -> V) : V -> Hp -> VK -> Prop := fun x H Q => ∃ i, x = .int i /\ Q (g i) H
section
variable {X : Cx} {a b c : Expr} {ta tb tc : TE} {pos : Pos}
theorem QdO (ha : PE X a ta) (hb : PE X b tb) {pins : List (Addr × Obj)} {s : Shared} {σ : St} {H : Hp} {R : V -> V -> Hp -> Prop} (I : Inv X pins σ H s)
    (h : ta σ H fun x H1 => tb σ H1 fun y H2 => R x y H2) {Q : Value -> Shared -> Prop} {f : Value -> Value -> Sem Value}
    (hf : ∀ v u s2 x y H2, Inv X pins σ H2 s2 -> RelV x v -> RelV y u -> R x y H2 -> wpAny (model X.prog X.w) X.A (f v u) Q X.xe s2) :
    wpAny (model X.prog X.w) X.A (eval a X.env) (fun v s₁ => wpAny (model X.prog X.w) X.A (eval b X.env) (fun u s₂ => wpAny (model X.prog X.w) X.A (f v u) Q X.xe s₂) X.xe s₁) X.xe s := by
  refine thn (ha pins s σ H _ I h) fun v s1 ⟨x, H1, I1, r1, q1⟩ => ?_
  refine thn (hb pins s1 σ H1 _ I1 q1) fun u s2 ⟨y, H2, I2, r2, q2⟩ => ?_
  exact hf v u s2 x y H2 I2 r1 r2 q2
theorem Qex {op : Operator} {r : R2} (ho : OpR X (binaryOp op) r) (ha : PE X a ta) (hb : PE X b tb) : PE X (.BinOp a op b pos) (tOp r ta tb) := by
  intro pins s σ H Q I h
  exact wpAny_BinOp (QdO ha hb I h fun v u s2 x y H2 I2 rx ry q => ho pins s2 σ H2 x y v u Q I2 rx ry q)
theorem Qd5 {op : UnaryOp} {r : V -> Hp -> VK -> Prop} (ho : UnR X (unaryOp op) r) (ha : PE X a ta) : PE X (.UnaryOp op a pos) (tUn r ta) := by
  intro pins s σ H Q I h
  exact UnaryOp_ (thn (ha pins s σ H _ I h) fun v s1 ⟨x, H1, I1, r1, q1⟩ => ho pins s1 σ H1 x v Q I1 r1 q1)
theorem opI {f : Value -> Value -> Sem Value} {C : Int -> Int -> Prop} {g : Int -> Int -> Int}
    (rule : ∀ (i j : Int) (t u : Tok) (s : Shared) (Q : Value -> Shared -> Prop) (E : Value -> Shared -> Prop), C i j -> Q (.int (g i j) s.toks) { s with toks := s.toks + 1 } -> wpAny (model X.prog X.w) X.A (f (.int i t) (.int j u)) Q E s) :
    OpR X f (rI C fun i j => .int (g i j)) := by
  intro pins s σ H x y v u Q I rx ry h
  obtain ⟨i, j, rfl, rfl, hc, q⟩ := h
  obtain ⟨t, rfl⟩ := rx
  obtain ⟨t', rfl⟩ := ry
  exact rule i j t t' s _ _ hc ⟨.int (g i j), H, I.tok _, ⟨_, rfl⟩, q⟩
theorem QeT {f : Value -> Value -> Sem Value} {g : Int -> Int -> Int}
    (rule : ∀ (i j : Int) (t u : Tok) (s : Shared) (Q : Value -> Shared -> Prop) (E : Value -> Shared -> Prop), Q (.int (g i j) s.toks) { s with toks := s.toks + 1 } -> wpAny (model X.prog X.w) X.A (f (.int i t) (.int j u)) Q E s) :
    OpR X f (rI0 fun i j => .int (g i j)) := by
  intro pins s σ H x y v u Q I rx ry h
  obtain ⟨i, j, rfl, rfl, q⟩ := h
  obtain ⟨t, rfl⟩ := rx
  obtain ⟨t', rfl⟩ := ry
  exact rule i j t t' s _ _ ⟨.int (g i j), H, I.tok _, ⟨_, rfl⟩, q⟩
theorem Qb6 {f : Value -> Value -> Sem Value} {g : Int -> Int -> Bool}
    (rule : ∀ (i j : Int) (t u : Tok) (s : Shared) (Q : Value -> Shared -> Prop) (E : Value -> Shared -> Prop), Q (.bool (g i j)) s -> wpAny (model X.prog X.w) X.A (f (.int i t) (.int j u)) Q E s) :
    OpR X f (rI0 fun i j => .bl (g i j)) := by
  intro pins s σ H x y v u Q I rx ry h
  obtain ⟨i, j, rfl, rfl, q⟩ := h
  obtain ⟨t, rfl⟩ := rx
  obtain ⟨t', rfl⟩ := ry
  exact rule i j t t' s _ _ ⟨.bl (g i j), H, I, rfl, q⟩
def Qfc (i j : Int) : Prop := 0 < j /\ j < 1073741824
def Qe4 (i j : Int) : Prop := 0 <= j /\ j <= 1000000 /\ i.natAbs < 2 ^ 64
def CMul (i j : Int) : Prop := (-(2 ^ 64) < i /\ i < 2 ^ 64) ∨ (-(2 ^ 64) < j /\ j < 2 ^ 64)
theorem CMul.ok {i j : Int} (h : CMul i j) : IntMulOk i j := by
  rcases h with ⟨h1, h2⟩ | ⟨h1, h2⟩
  . exact .of_left (intBits_le_64 h1 h2)
  . exact .of_right (intBits_le_64 h1 h2)
theorem QdE : OpR X (binaryOp .Add) (rI0 fun i j => .int (i + j)) := QeT fun _ _ _ _ _ _ _ q => add_int q
theorem Qda : OpR X (binaryOp .Sub) (rI0 fun i j => .int (i - j)) := QeT fun _ _ _ _ _ _ _ q => sub_int q
theorem QcU : OpR X (binaryOp .Mult) (rI CMul fun i j => .int (i * j)) := opI fun _ _ _ _ _ _ _ hc q => mul_int q hc.ok
theorem Qby : OpR X (binaryOp .FloorDiv) (rI Qfc fun i j => .int (i / j)) := opI fun i j _ _ _ _ _ hc q => by
  have h1 : (0 : Int) < j := hc.1
  have h2 : j < 1073741824 := hc.2
  exact floordiv_int (by omega) (by rw [Int.fdiv_eq_ediv_of_nonneg i (by omega)]; exact q) (.inl (PyProof.noPylong_small (by omega)))
theorem Qdk : OpR X (binaryOp .Mod) (rI (fun _ j => 0 < j) fun i j => .int (i % j)) := opI fun i j _ _ _ _ _ hc q => by
  have h1 : (0 : Int) < j := hc
  exact mod_int' (by omega) (by rw [Int.fmod_eq_emod_of_nonneg i (by omega)]; exact q)
theorem QdT : OpR X (binaryOp .Pow) (rI Qe4 fun i j => .int (i ^ j.toNat)) := opI fun _ _ _ _ _ _ _ hc q => pow_int_small hc.1 hc.2.1 hc.2.2 q
theorem unI {f : Value -> Sem Value} {g : Int -> Int}
    (rule : ∀ (i : Int) (t : Tok) (s : Shared) (Q : Value -> Shared -> Prop) (E : Value -> Shared -> Prop), Q (.int (g i) s.toks) { s with toks := s.toks + 1 } -> wpAny (model X.prog X.w) X.A (f (.int i t)) Q E s) :
    UnR X f (rU fun i => .int (g i)) := by
  intro pins s σ H x v Q I rx h
  obtain ⟨i, rfl, q⟩ := h
  obtain ⟨t, rfl⟩ := rx
  exact rule i t s _ _ ⟨.int (g i), H, I.tok _, ⟨_, rfl⟩, q⟩
theorem Qc3 : UnR X (unaryOp .USub) (rU fun i => .int (-i)) := unI fun _ _ _ _ _ q => neg_int q
end
section
variable {X : Cx} {a b c : Expr} {ta tb tc : TE} {pos : Pos}
theorem kD {pins : List (Addr × Obj)} {σ : St} {H : Hp} {s : Shared} {Q : VK} {k k' : Bool} (I : Inv X pins σ H s) (q : Q (.bl k) H) (e : k = k') : EP X pins σ Q (.bool k') s := by
  subst e
  exact ⟨.bl k, H, I, rfl, q⟩
theorem QeC : OpR X (compareOp .Lt) (rI0 fun i j => .bl (decide (i < j))) := Qb6 fun _ _ _ _ _ _ _ q => lt_int q
theorem QeJ : OpR X (compareOp .LtE) (rI0 fun i j => .bl (decide (i <= j))) := Qb6 fun _ _ _ _ _ _ _ q => le_int q
theorem Qeu : OpR X (compareOp .Gt) (rI0 fun i j => .bl (decide (j < i))) := Qb6 fun _ _ _ _ _ _ _ q => gt_int q
theorem Qeg : OpR X (compareOp .GtE) (rI0 fun i j => .bl (decide (j <= i))) := Qb6 fun _ _ _ _ _ _ _ q => ge_int q
theorem QcP : OpR X (compareOp .Is) (fun x y H Q => y = .non /\ Q (.bl (decide (x = .non))) H) := by
  intro pins s σ H x y v u Q I rx ry h
  obtain ⟨rfl, q⟩ := h
  cases ry
  refine is_none_gen (kD I q ?_)
  cases x <;> first
    | (cases rx; rfl)
    | (obtain ⟨t, rfl⟩ := rx; rfl)
theorem QbT : OpR X (compareOp .IsNot) (fun x y H Q => y = .non /\ Q (.bl (!decide (x = .non))) H) := by
  intro pins s σ H x y v u Q I rx ry h
  obtain ⟨rfl, q⟩ := h
  cases ry
  refine isnot_none_gen (kD I q ?_)
  cases x <;> first
    | (cases rx; rfl)
    | (obtain ⟨t, rfl⟩ := rx; rfl)
theorem QI (b : Expr) {op : CmpOp} (h : op ≠ .In := by decide) (h2 : op ≠ .NotIn := by decide) : behindInMarks op b = false := by
  have e1 : (op == CmpOp.In) = false := by cases op <;> first | rfl | exact absurd rfl h
  have e2 : (op == CmpOp.NotIn) = false := by cases op <;> first | rfl | exact absurd rfl h2
  cases b <;> simp [behindInMarks, e1, e2]
theorem Qbt {op : CmpOp} {r : R2} (ho : OpR X (compareOp op) r) (ha : PE X a ta) (hb : PE X b tb) (hm : behindInMarks op b = false) : PE X (.Compare a [op] [b] pos) (tOp r ta tb) := by
  intro pins s σ H Q I h
  exact wpAny_Compare1 (QdO ha hb I h fun v u s2 x y H2 I2 rx ry q => ho pins s2 σ H2 x y v u Q I2 rx ry q) hm
def QcJ (t : TE) : TT := fun σ H Q => t σ H fun x H' => ∃ k, x = .bl k /\ Q k H'
theorem Qcd {op : CmpOp} {r : R2} (ho : OpR X (compareOp op) r) (ha : PE X a ta) (hb : PE X b tb) (hm : behindInMarks op b = false) : PT X (.Compare a [op] [b] pos) (QcJ (tOp r ta tb)) := by
  intro pins s σ H Q I h
  refine wpAny_isTrue_Compare1 (thn (ha pins s σ H _ I h) fun v s1 ⟨x, H1, I1, r1, q1⟩ => thn (hb pins s1 σ H1 _ I1 q1) fun u s2 ⟨y, H2, I2, r2, q2⟩ =>
    thn (ho pins s2 σ H2 x y v u _ I2 r1 r2 q2) fun c s3 ⟨z, H3, I3, r3, k, e, q3⟩ => ?_) hm
  subst e
  cases r3
  exact wpAny_truthy_bool ⟨H3, I3, q3⟩
def QaO (r r' : R2) (ta tb tc : TE) : TE := fun σ H Q => ta σ H fun x H1 => tb σ H1 fun y H2 => r x y H2 fun z H3 => ∃ k, z = .bl k /\
  (if k = true then tc σ H3 fun w' H4 => r' y w' H4 Q else Q (.bl false) H3)
theorem g9 {op op' : CmpOp} {r r' : R2} (ho : OpR X (compareOp op) r) (ho' : OpR X (compareOp op') r') (ha : PE X a ta) (hb : PE X b tb) (hc : PE X c tc)
    (hm : lastMarks [op, op'] [b, c] = false := by with_unfolding_all rfl) : PT X (.Compare a [op, op'] [b, c] pos) (QcJ (QaO r r' ta tb tc)) := by
  intro pins s σ H Q I h
  refine isTrue_chain (thn (ha pins s σ H _ I h) fun v s1 ⟨x, H1, I1, r1, q1⟩ => test_link (thn (hb pins s1 σ H1 _ I1 q1) fun u s2 ⟨y, H2, I2, r2, q2⟩ =>
    thn (ho pins s2 σ H2 x y v u _ I2 r1 r2 q2) fun d s3 ⟨z, H3, I3, r3, k, e, q3⟩ => ?_)) hm
  subst e
  cases r3
  refine wpAny_truthy_bool ?_
  cases k with
  | false =>
    obtain ⟨k', e', q'⟩ := q3
    cases e'
    exact ite_ff ⟨H3, I3, q'⟩
  | true =>
    refine ite_tt (test_last (thn (hc pins s3 σ H3 _ I3 q3) fun w' s4 ⟨z', H4, I4, r4, q4⟩ => thn (ho' pins s4 σ H4 y z' u w' _ I4 r2 r4 q4) fun d' s5 ⟨z2, H5, I5, r5, k2, e2, q5⟩ => ?_))
    subst e2
    cases r5
    exact wpAny_truthy_bool ⟨H5, I5, q5⟩
theorem US : (sizeLine : Nat) < 2 ^ 63 := by rw [sizeLine_eq]; decide
theorem yX {x : V} {us : List Value} (r : Vals [x] us) : ∃ u, us = [u] /\ RelV x u := by
  cases r with
  | cons r1 r2 => cases r2; exact ⟨_, rfl, r1⟩
theorem Qcy {x y : V} {us : List Value} (r : Vals [x, y] us) : ∃ u w', us = [u, w'] /\ RelV x u /\ RelV y w' := by
  cases r with
  | cons r1 r2 =>
    cases r2 with
    | cons r3 r4 => cases r4; exact ⟨_, _, rfl, r1, r3⟩
theorem gc (hc : X.calm = true) : Yk X (.builtin "min") (fun xs H Q => ∃ i j, xs = [.int i, .int j] /\ Q (.int (if j < i then j else i)) H) := by
  intro pins s σ H xs us Q I r h
  obtain ⟨i, j, rfl, q⟩ := h
  obtain ⟨u, w', rfl, ⟨t, rfl⟩, ⟨t', rfl⟩⟩ := Qcy r
  refine min_two_ints (I.ok.hd hc) fun h' tk k => ⟨_, H, I.kept k, ?_, q⟩
  by_cases hj : j < i
  . rw [if_pos hj, if_pos hj]; exact ⟨_, rfl⟩
  . rw [if_neg hj, if_neg hj]; exact ⟨_, rfl⟩
theorem UD : Yk X (.type "int") (fun xs H Q => (∃ i, xs = [.int i] /\ Q (.int i) H) ∨ ∃ k, xs = [.bl k] /\ Q (.int (if k then 1 else 0)) H) := by
  intro pins s σ H xs us Q I r h
  rcases h with ⟨i, rfl, q⟩ | ⟨k, rfl, q⟩
  . obtain ⟨u, rfl, t, rfl⟩ := yX r
    exact call_int_int ⟨.int i, H, I, ⟨_, rfl⟩, q⟩
  . obtain ⟨u, rfl, r1⟩ := yX r
    cases r1
    exact call_int_bool ⟨.int (if k then 1 else 0), H, I.tok _, ⟨_, rfl⟩, q⟩
end
end L2
namespace L2
open PySem PySem.Spec PyProof.Rows
structure ObjM (h : Heap) (x dx C : Addr) (mA : Str -> Option Value) : Prop where
  obj : h.get? x = some (PySem.W.instObj C dx)
  ns : h.Ns1 dx mA
  ne : dx ≠ x
theorem gB {h : Heap} {dx : Addr} {mA : Str -> Option Value} (n : h.Ns1 dx mA) : ∃ od, h.get? dx = some od /\ ∀ name, PySem.W.lookIn name od = some (mA name) := by
  obtain ⟨o, es, ep, ho, hd, hk, _, hm⟩ := n
  refine ⟨o, ho, fun name => ?_⟩
  have e := hm name
  unfold nsFind findBy at e
  rw [<- Array.find?_toList] at e
  unfold PySem.W.lookIn
  rw [hd]
  dsimp only
  split
  . rename_i y q
    rw [q] at e
    exact congrArg some e
  . rename_i q
    rw [q] at e
    have a : es.toList.any (·.refKey) = false := by
      rw [List.any_eq_false]
      intro y hy
      obtain ⟨z, t, hkey⟩ := hk y (Array.mem_toList_iff.mp hy)
      simp [DictEntry.refKey, hkey]
    have a' : ¬ es.toList.any (·.refKey) = true := by rw [a]; exact Bool.false_ne_true
    rw [if_neg a']
    exact congrArg some e
theorem ObjM.look {h : Heap} {x dx C : Addr} {mA : Str -> Option Value} (I : ObjM h x dx C mA) : ∃ od, PySem.W.InstAt h x (PySem.W.instObj C dx) C (some od) /\ ∀ name, PySem.W.lookIn name od = some (mA name) :=
  let ⟨od, ho, hl⟩ := gB I.ns
  ⟨od, ⟨I.obj, rfl, rfl, ho⟩, hl⟩
section
variable {prog : Program} {w : World} {A : Around} {E : Value -> Shared -> Prop} {s : Shared} {K : PySem.W.Frag} {x dx C f : Addr} {mA : Str -> Option Value} {name : Str} {v : Value}
theorem QbW {expr : Bool} {Q : Value -> Shared -> Prop} (X : K.In s.heap) (I : ObjM s.heap x dx C mA) (hg : PySem.W.plainGet K C name = true) (hh : PySem.W.hasDictIn K C = true)
    (ha : PySem.W.findIn K (.ref C) name = some none) (hv : mA name = some v) (hv' : PySem.W.handedIn v = true) (h : Q v { s with toks := s.toks + 1 }) :
    wpAny (model prog w) A (getAttr (.ref x) name expr) Q E s := by
  obtain ⟨od, J, hl⟩ := I.look
  exact PySem.W.get_value X J (PySem.W.plainGet_of hg).1 (PySem.W.findObj_own hh ha rfl (by rw [hl, hv])) hv' h
theorem kT {pl : Sem Bool} {Q : Value × List Value -> Shared -> Prop} (X : K.In s.heap) (I : ObjM s.heap x dx C mA) (hg : PySem.W.plainGet K C name = true)
    (hf : PySem.W.findIn K (.ref C) name = some (some (.ref f))) (ht : PySem.W.isFn K (.ref f) = true) (hv : mA name = none) (h : Q (.ref f, [.ref x]) s) :
    wpAny (model prog w) A (getMethod (.ref x) name pl) Q E s := by
  obtain ⟨od, J, hl⟩ := I.look
  exact PySem.W.method_fn X J (PySem.W.plainGet_of hg).1 (PySem.W.plainGet_of hg).2 hf (beq_iff_eq.mp ht) (by show (PySem.W.lookIn name od).map (·.isSome) = some false; rw [hl, hv]; rfl) h
theorem QbC {ns : List Str} {Q : Unit -> Shared -> Prop} (X : K.In s.heap) (I : ObjM s.heap x dx C mA)
    (hs : PySem.W.findIn K (.ref C) "__setattr__" = some (some (.builtin "object.__setattr__"))) (hp : PySem.W.plainOver K C = true) (ht : PySem.W.takerIn K C name = some none) (hh : PySem.W.hasDictIn K C = true)
    (hw : PySem.Within mA ns) (hsz : ns.length <= sizeLine)
    (h : ∀ h', ObjM h' x dx C (fun y => if y = name then some v else mA y) -> Heap.SameBut dx s.heap h' -> Q () { s with heap := h', toks := s.toks + 2 }) :
    wpAny (model prog w) A (setAttr (.ref x) name v) Q E s := by
  obtain ⟨od, J, hl⟩ := I.look
  refine PySem.W.set_plain X J hs (PySem.W.osa_open (s := { s with toks := s.toks + 1 }) (r := none) X J hp ht fun b => ?_)
  obtain ⟨cd, hc, hd'⟩ := PySem.W.any_some hh
  have hx : s.heap.get? x = some ⟨.ref C, some dx, .plain, #[]⟩ := I.obj
  refine wpAny_bind (wpAny_pure (wpAny_bind (wpAny_bind (wpAny_loadPart hx (wpAny_bind (PySem.W.Looks.here (s := { s with toks := s.toks + 1 }) (PySem.W.looks_clsIn X hc) ?_))))))
  rw [hd']
  refine wpAny_pure (a := some dx) (wpAny_bind (wpAny_pure (wpAny_bind ?_)))
  refine wpAny_nsSet1 (s := { s with toks := s.toks + 1 }) I.ns fun h' hn2 hs2 => ?_
  obtain ⟨oD, esD, epD, hoD, hdD, hcD⟩ := hn2.count (PySem.Within.cons name v hw)
  refine wpAny_bind (wpAny_lookBehind hoD (by rw [hdD]; exact pastItsLine_dict (Nat.le_trans hcD (by rw [List.length_cons]; omega))) ?_)
  exact wpAny_pure (h _ ⟨(hs2.2 _ (Ne.symm I.ne)).trans I.obj, hn2, I.ne⟩ hs2)
theorem Qab {R : Result -> Shared -> Prop} {vs : List Value} {kw : List (Str × Value)} (X : K.In s.heap) (hm : PySem.W.makesIn K C = true)
    (hi : PySem.W.findIn K (.ref C) "__init__" = some (some (.ref f))) (hf : PySem.W.typeIn K (.ref f) = some (.type "function"))
    (h : codeAny (model prog w) (A.under (.builtin "type.__call__" ⟨.ref C :: vs, kw⟩)) (.call (.ref f) ⟨.ref (s.heap.objs.size + 1) :: vs, kw⟩) (PySem.W.InitBack (s.heap.objs.size + 1) R)
      { s with heap := (s.heap.push PySem.W.emptyDict).push (PySem.W.instObj C s.heap.objs.size) }) :
    codeAny (model prog w) A (.call (.ref C) ⟨vs, kw⟩) R s := by
  obtain ⟨hh, g, d, t, os⟩ := s
  exact PySem.W.make_core (PySem.W.makes_of X hm) (PySem.W.looks_findIn X hi) (fun self => PySem.W.bind_fn X self hf) (.inl rfl) h
end
def qt (f : Str) (v : V) : List (Str × V) -> List (Str × V)
  | [] => [(f, v)]
  | (g, x) :: r => if g = f then (g, v) :: r else (g, x) :: qt f v r
theorem yo (f g : Str) (v : V) : ∀ fs : List (Str × V), (qt f v fs).lookup g = if g = f then some v else fs.lookup g
  | [] => by
    show List.lookup g [(f, v)] = _
    by_cases h : g = f
    . have hb : (g == f) = true := beq_iff_eq.mpr h
      simp only [List.lookup, hb, if_pos h]
    . have hb : (g == f) = false := beq_eq_false_iff_ne.mpr h
      simp only [List.lookup, hb, if_neg h]
  | (k, x) :: r => by
    have ih := yo f g v r
    rw [show qt f v ((k, x) :: r) = (if k = f then (k, v) :: r else (k, x) :: qt f v r) from rfl]
    by_cases hk : k = f
    . rw [if_pos hk]
      by_cases h : g = k
      . have hb : (g == k) = true := beq_iff_eq.mpr h
        simp only [List.lookup, hb, if_pos (h.trans hk)]
      . have hb : (g == k) = false := beq_eq_false_iff_ne.mpr h
        simp only [List.lookup, hb, if_neg (fun e : g = f => h (e.trans hk.symm))]
    . rw [if_neg hk]
      by_cases h : g = k
      . have hb : (g == k) = true := beq_iff_eq.mpr h
        simp only [List.lookup, hb, if_neg (fun e : g = f => hk (h.symm.trans e))]
      . have hb : (g == k) = false := beq_eq_false_iff_ne.mpr h
        simp only [List.lookup, hb]
        exact ih
theorem xA (f : Str) (v : V) : ∀ fs : List (Str × V), f ∈ (qt f v fs).map (·.1) /\ ∀ g, g ∈ fs.map (·.1) -> g ∈ (qt f v fs).map (·.1)
  | [] => ⟨by simp [qt], fun g h => by simp at h⟩
  | (k, x) :: r => by
    obtain ⟨i1, i2⟩ := xA f v r
    rw [show qt f v ((k, x) :: r) = (if k = f then (k, v) :: r else (k, x) :: qt f v r) from rfl]
    by_cases hk : k = f
    . rw [if_pos hk]
      subst hk
      exact ⟨by simp, fun g h => by simpa using h⟩
    . rw [if_neg hk]
      refine ⟨?_, fun g h => ?_⟩
      . rw [List.map_cons]
        exact List.mem_cons_of_mem _ i1
      . rw [List.map_cons] at h ⊢
        rcases List.mem_cons.mp h with e | e
        . exact List.mem_cons.mpr (.inl e)
        . exact List.mem_cons_of_mem _ (i2 g e)
theorem xZ (f : Str) (v : V) : ∀ fs : List (Str × V), (qt f v fs).length <= fs.length + 1
  | [] => by simp [qt]
  | (k, x) :: r => by
    have ih := xZ f v r
    rw [show qt f v ((k, x) :: r) = (if k = f then (k, v) :: r else (k, x) :: qt f v r) from rfl]
    by_cases hk : k = f
    . rw [if_pos hk, List.length_cons, List.length_cons]; omega
    . rw [if_neg hk, List.length_cons, List.length_cons]; omega
theorem RelO.some_of {v : V} {o : Option Value} (r : RelO (some v) o) : ∃ u, o = some u /\ RelV v u := by
  cases o with
  | none => exact (show False from r).elim
  | some u => exact ⟨u, rfl, r⟩
theorem RelO.none_of {o : Option Value} (r : RelO none o) : o = none := by
  cases o with
  | none => rfl
  | some u => exact (show False from r).elim
theorem uZ {v : V} {u : Value} (r : RelV v u) : PySem.W.handedIn u = true := by
  cases v with
  | non => cases (show u = Value.none from r); rfl
  | bl b => cases (show u = Value.bool b from r); rfl
  | int i => obtain ⟨t, e⟩ := (show ∃ t, u = Value.int i t from r); cases e; rfl
  | str x => obtain ⟨t, e⟩ := (show ∃ t, u = Value.str x t from r); cases e; rfl
  | byt b => obtain ⟨t, e⟩ := (show ∃ t, u = Value.bytes b t from r); cases e; rfl
  | flt b => obtain ⟨t, e⟩ := (show ∃ t, u = Value.float b t from r); cases e; rfl
  | ref a => cases (show u = Value.ref a from r); rfl
  | ty n => cases (show u = Value.type n from r); rfl
section
variable {P : Program} {w : World} {H H' : Hp} {h h' : Heap} {a C dx : Addr} {fs fs' : List (Str × V)}
theorem UV (hok : HOk P w H h) (e : H a = some (.ins C dx fs)) : ∃ mA, ObjM h a dx C mA /\ (∀ f, RelO (fs.lookup f) (mA f)) /\ PySem.Within mA (fs.map (·.1)) /\ fs.length <= 1000 /\ H dx = some (.own a) := by
  obtain ⟨d, z, ne, ob, mA, n, r, q⟩ := (show ObjOk P w H h a (.ins C dx fs) from hok a _ e)
  exact ⟨mA, ⟨ob, n, ne⟩, r, q, z, d⟩
end
structure Cls (K : PySem.W.Frag) (C : Addr) : Prop where
  pg : PySem.W.plainGet K C Str.empty = true
  hd : PySem.W.hasDictIn K C = true
  po : PySem.W.plainOver K C = true
  sa : PySem.W.findIn K (.ref C) "__setattr__" = some (some (.builtin "object.__setattr__"))
theorem Cls.get {K : PySem.W.Frag} {C : Addr} (c : Cls K C) (f : Str) : PySem.W.plainGet K C f = true := c.pg
def NoAttr (K : PySem.W.Frag) (C : Addr) (f : Str) : Prop := PySem.W.findIn K (.ref C) f = some none
theorem NoAttr.taker {K : PySem.W.Frag} {C : Addr} {f : Str} (n : NoAttr K C f) : PySem.W.takerIn K C f = some none := by
  unfold PySem.W.takerIn
  rw [show PySem.W.findIn K (.ref C) f = some none from n]
  rfl
structure Ym (K : PySem.W.Frag) (C : Addr) (m : Str) (f : Addr) : Prop where
  at_ : PySem.W.findIn K (.ref C) m = some (some (.ref f))
  fn : PySem.W.isFn K (.ref f) = true
  kp : PySem.W.keepIn K (.ref f) = true
section
variable {X : Cx} {pins : List (Addr × Obj)} {σ : St} {H : Hp} {s : Shared} {a C dx : Addr} {fs : List (Str × V)} {f : Str} {v : V} {A : Around} {E : Value -> Shared -> Prop}
theorem Vw {b : Bool} {Q : Value -> Shared -> Prop} (I : Inv X pins σ H s) (e : H a = some (.ins C dx fs)) (c : Cls X.K C) (n : NoAttr X.K C f) (l : fs.lookup f = some v)
    (h : ∀ u s', Inv X pins σ H s' -> RelV v u -> Q u s') : wpAny (model X.prog X.w) A (getAttr (.ref a) f b) Q E s := by
  obtain ⟨mA, O, r, _, _, _⟩ := UV I.hok e
  obtain ⟨u, hu, ru⟩ := RelO.some_of (v := v) (o := mA f) (by rw [<- l]; exact r f)
  exact QbW I.kIn O (c.get f) c.hd n hu (uZ ru) (h u _ (I.tok _) ru)
theorem jv {m : Str} {g : Addr} {pl : Sem Bool} {Q : Value × List Value -> Shared -> Prop} (I : Inv X pins σ H s) (e : H a = some (.ins C dx fs)) (c : Cls X.K C) (k : Ym X.K C m g) (l : fs.lookup m = none)
    (h : Q (.ref g, [.ref a]) s) : wpAny (model X.prog X.w) A (getMethod (.ref a) m pl) Q E s := by
  obtain ⟨mA, O, r, _, _, _⟩ := UV I.hok e
  have hn : mA m = none := RelO.none_of (by rw [<- l]; exact r m)
  exact kT I.kIn O (c.get m) k.at_ k.fn hn h
theorem yU {y : V} {u : Value} {Q : Unit -> Shared -> Prop} (I : Inv X pins σ H s) (e : H a = some (.ins C dx fs)) (c : Cls X.K C) (n : NoAttr X.K C f) (hl : fs.length < 1000) (ry : RelV y u)
    (h : ∀ s', Inv X pins σ (upd H a (.ins C dx (qt f y fs))) s' -> Q () s') : wpAny (model X.prog X.w) A (setAttr (.ref a) f u) Q E s := by
  obtain ⟨mA, O, r, wi, _, ho⟩ := UV I.hok e
  have hz : (fs.map (·.1)).length <= sizeLine := by rw [List.length_map, sizeLine_eq]; omega
  refine QbC I.kIn O c.sa c.po n.taker c.hd wi hz fun h' O' sb => h _ ?_
  have hd : ∃ o, h'.get? dx = some o := let ⟨o, _, _, e', _⟩ := O'.ns; ⟨o, e'⟩
  refine I.write (x := a) (e := dx) (by rw [e]; exact True.intro) (.inr ho) (fun b q hb z => (sb.2 b hb).trans z) hd ?_
  refine ⟨by rw [QS O.ne]; exact ho, ?_, O.ne, O'.obj, _, O'.ns, fun g => ?_, fun g hg => ?_⟩
  . have := xZ f y fs; omega
  . show RelO ((qt f y fs).lookup g) (if g = f then some u else mA g)
    rw [yo]
    by_cases q : g = f
    . rw [if_pos q, if_pos q]; exact ry
    . rw [if_neg q, if_neg q]; exact r g
  . by_cases q : g = f
    . rw [q]; exact (xA f y fs).1
    . refine (xA f y fs).2 g (wi g fun z => hg ?_)
      show (if g = f then some u else mA g) = none
      rw [if_neg q]; exact z
theorem Inv.made (I : Inv X pins σ H s) : Inv X pins σ (upd (upd H s.heap.objs.size (.own (s.heap.objs.size + 1))) (s.heap.objs.size + 1) (.ins C s.heap.objs.size []))
    { s with heap := (s.heap.push PySem.W.emptyDict).push (PySem.W.instObj C s.heap.objs.size) } := by
  have e1 : (s.heap.push PySem.W.emptyDict).get? s.heap.objs.size = some PySem.W.emptyDict := Heap.get?_push_size s.heap rfl
  have e2 : ((s.heap.push PySem.W.emptyDict).push (PySem.W.instObj C s.heap.objs.size)).get? (s.heap.objs.size + 1) = some (PySem.W.instObj C s.heap.objs.size) := by
    have := Heap.get?_push_size (s.heap.push PySem.W.emptyDict) (o := PySem.W.instObj C s.heap.objs.size) rfl
    rwa [Heap.size_push] at this
  have e3 : (s.heap.push PySem.W.emptyDict).Ns s.heap.objs.size (fun _ => none) := ⟨PySem.W.emptyDict, #[], _, e1, rfl, (fun e he => absurd he (by simp)), fun _ => rfl⟩
  have I1 := I.laid (a := s.heap.objs.size) (o := .own (s.heap.objs.size + 1)) (h' := s.heap.push PySem.W.emptyDict) (t' := s.toks) (fun b u q => Heap.get?_push_of_some _ q) (Nat.le_refl _) ⟨_, e1⟩
  refine I1.laid (a := s.heap.objs.size + 1) (o := .ins C s.heap.objs.size []) (t' := s.toks) (fun b u q => Heap.get?_push_of_some _ q) (Nat.le_of_eq (Heap.size_push _ _)) ?_
  have ne : s.heap.objs.size ≠ s.heap.objs.size + 1 := Nat.ne_of_lt (Nat.lt_succ_self _)
  refine ⟨by rw [QS ne, Q8], Nat.zero_le _, ne, e2, fun _ => none, (Heap.Ns1.of_empty e3).at fun o q => Heap.get?_push_of_some _ q, fun _ => True.intro, fun y hy => absurd rfl hy⟩
theorem Qbr {prog : Program} {w : World} {env : Env} {e : Expr} {f : Str} {pos : Pos} {s : Shared} {Q : Value -> Shared -> Prop} (hb : attributeBase e f env (eval e env) = eval e env)
    (h : wpAny (model prog w) A (eval e env) (fun o s₁ => wpAny (model prog w) A (getAttr o f true) Q E s₁) E s) : wpAny (model prog w) A (eval (.Attribute e f pos) env) Q E s :=
  Attribute_any_ h (by rw [arm_eval_Attribute, hb])
end
def Qfm (K : PySem.W.Frag) (ta : TE) (f : Str) : TE := fun σ H Q => ta σ H fun x H1 => ∃ a C dx fs v, x = .ref a /\ H1 a = some (.ins C dx fs) /\ Cls K C /\ NoAttr K C f /\ fs.lookup f = some v /\ Q v H1
def Qfe (K : PySem.W.Frag) (ta tv : TE) (f : Str) : TS := fun D σ H => tv σ H fun y H1 => ta σ H1 fun x H2 => ∃ a C dx fs, x = .ref a /\ H2 a = some (.ins C dx fs) /\ Cls K C /\ NoAttr K C f /\ fs.length < 1000 /\
  D.nx σ (upd H2 a (.ins C dx (qt f y fs)))
def QeN (X : Cx) (op : Operator) (rd : V -> V -> Hp -> VK -> Prop) : Prop :=
  ∀ (pins : List (Addr × Obj)) (s : Shared) (σ : St) (H : Hp) (x y : V) (u v : Value) (Q : VK), Inv X pins σ H s -> RelV x u -> RelV y v -> rd x y H Q -> wpAny (model X.prog X.w) X.A (inplaceOp op u v) (EP X pins σ Q) X.xe s
def Qcr (K : PySem.W.Frag) (ta tv : TE) (rd : V -> V -> Hp -> VK -> Prop) (f : Str) : TS := fun D σ H => ta σ H fun x H1 => ∃ a C dx fs v, x = .ref a /\ H1 a = some (.ins C dx fs) /\ Cls K C /\ NoAttr K C f /\ fs.lookup f = some v /\
  tv σ H1 fun y H2 => rd v y H2 fun z H3 => ∃ dx' fs', H3 a = some (.ins C dx' fs') /\ fs'.length < 1000 /\ D.nx σ (upd H3 a (.ins C dx' (qt f z fs')))
section
variable {X : Cx} {o e value : Expr} {f : Str} {pos pos' tpos : Pos} {ta tv : TE}
theorem Qdx (he : PE X e ta) (hb : attributeBase e f X.env (eval e X.env) = eval e X.env) : PE X (.Attribute e f pos) (Qfm X.K ta f) := by
  intro pins s σ H Q I h
  refine Qbr hb (thn (he pins s σ H _ I h) fun u s1 ⟨x, H1, I1, rx, a, C, dx, fs, v, ex, ea, c, n, l, q⟩ => ?_)
  subst ex
  obtain rfl : u = Value.ref a := rx
  exact Vw I1 ea c n l fun u' s2 I2 ru => ⟨v, H1, I2, ru, q⟩
theorem QdA (ha : PE X o ta) (hv : PE X value tv) (hs : swapsWith value (some (.Attribute o f pos')) pos.line X.env = pure false) : PS X (.Assign [.Attribute o f pos'] value pos) (Qfe X.K ta tv f) := by
  intro pins s σ H D I h
  refine plainObj_wpAny_Assign_Attribute (thn (hv pins s σ H _ I h) fun u s1 ⟨y, H1, I1, ry, q⟩ => thn (ha pins s1 σ H1 _ I1 q) fun ov s2 ⟨x, H2, I2, rx, a, C, dx, fs, ex, ea, c, n, l, q2⟩ => ?_) hs
  subst ex
  obtain rfl : ov = Value.ref a := rx
  exact yU I2 ea c n l ry fun s3 I3 => ⟨σ, _, I3, q2⟩
theorem gS {op : Operator} {rd : V -> V -> Hp -> VK -> Prop} (ha : PE X o ta) (hv : PE X value tv) (hop : QeN X op rd) : PS X (.AugAssign (.Attribute o f tpos) op value pos) (Qcr X.K ta tv rd f) := by
  intro pins s σ H D I h
  refine wpAny_AugAssign_AttributeAny (thn (ha pins s σ H _ I h) fun ov s1 ⟨x, H1, I1, rx, a, C, dx, fs, v, ex, ea, c, n, l, q⟩ => ?_)
  subst ex
  obtain rfl : ov = Value.ref a := rx
  refine Vw I1 ea c n l fun u s2 I2 ru => thn (hv pins s2 σ H1 _ I2 q) fun w3 s3 ⟨y, H2, I3, ry, q3⟩ => thn (hop pins s3 σ H2 v y u w3 _ I3 ru ry q3) fun w4 s4 ⟨z, H3, I4, rz, dx', fs', ea', l', q4⟩ => ?_
  exact yU I4 ea' c n l' rz fun s5 I5 => ⟨σ, _, I5, q4⟩
def QeX : V -> V -> Hp -> VK -> Prop := fun x y H Q => ∃ i j, x = .int i /\ y = .int j /\ Q (.int (i + j)) H
theorem Qc8 : QeN X .Add QeX := by
  rintro pins s σ H x y u v Q I rx ry ⟨i, j, rfl, rfl, q⟩
  obtain ⟨t, rfl⟩ := (show ∃ t, u = Value.int i t from rx)
  obtain ⟨t', rfl⟩ := (show ∃ t', v = Value.int j t' from ry)
  exact PyProof.Rows.iadd_int ⟨.int (i + j), H, I.tok _, ⟨_, rfl⟩, q⟩
theorem QcH {pl : Sem Bool} {m : Str} {apos : Pos} {args : List Expr} {pins : List (Addr × Obj)} {s : Shared} {σ : St} {H : Hp} {Q : Value -> Shared -> Prop} {te : TE} (he : PE X e te) (I : Inv X pins σ H s)
    (h : te σ H fun x H1 => ∃ a C dx fs g, x = .ref a /\ H1 a = some (.ins C dx fs) /\ Cls X.K C /\ Ym X.K C m g /\ fs.lookup m = none /\
      ∀ s1, Inv X pins σ H1 s1 -> wpAny (model X.prog X.w) X.A (callWith pos (.ref g) [.ref a] (backTo pos (starEach args X.env)) (backToKw pos (keywordEach [] X.env))) Q X.xe s1)
    (ht : eval (.Call (.Attribute e m apos) args [] pos) X.env = (do
      let ov <- eval e X.env
      standAt apos.atName
      let (f, first) <- holding [ov] (getMethod ov m pl)
      callWith pos f first (backTo pos (starEach args X.env)) (backToKw pos (keywordEach [] X.env)))) :
    wpAny (model X.prog X.w) X.A (eval (.Call (.Attribute e m apos) args [] pos) X.env) Q X.xe s := by
  refine PySem.W.methodCall_KW (pl := pl) (thn (he pins s σ H _ I h) fun u s1 ⟨x, H1, I1, rx, a, C, dx, fs, g, ex, ea, c, k, l, q⟩ => ?_) ht
  subst ex
  obtain rfl : u = Value.ref a := rx
  exact jv I1 ea c k l (q s1 I1)
end
section
variable {X : Cx} {pins : List (Addr × Obj)} {σ : St} {H : Hp} {s : Shared} {A : Around} {E : Value -> Shared -> Prop} {Q : Value -> Shared -> Prop} {c : Value} {b : Bool}
end
end L2
namespace L2
open PySem PySem.Spec PyProof.Rows
structure Room (k : Nat) (A : Around) : Prop where
  hd : A.handled = none
  dp : A.depth + 3 * k + 5 < recursionLimit
  un : A.units + 16 * k + 200 < cLine
theorem Room.mono {j k : Nat} {A : Around} (r : Room k A) (h : j <= k) : Room j A := ⟨r.hd, by have := r.dp; omega, by have := r.un; omega⟩
theorem Room.deeper {k : Nat} {A : Around} (r : Room (k + 1) A) (env : Env) : Room k (A.deeper env) :=
  ⟨r.hd, by have := r.dp; show A.depth + 1 + 3 * k + 5 < _; omega, by have := r.un; show A.units + 3 + 16 * k + 200 < _; omega⟩
theorem vL {A : Around} {C : Addr} {us : List Value} {kw : List (Str × Value)} : (A.under (.builtin "type.__call__" ⟨.ref C :: us, kw⟩)).depth = A.depth + 1 := by
  first | rfl | simp [Around.under, Code.weight, Code.isCreation, Code.isGuard, Code.isCaller, Code.frames, Code.isFrame, guardIds]
theorem vv {A : Around} {C : Addr} {us : List Value} {kw : List (Str × Value)} : (A.under (.builtin "type.__call__" ⟨.ref C :: us, kw⟩)).units = A.units + 1 := by
  first | rfl | simp [Around.under, Code.cUnits, Code.frames, Code.isFrame]
theorem Room.make {k : Nat} {A : Around} (r : Room (k + 1) A) (C : Addr) (us : List Value) (kw : List (Str × Value)) : Room k (A.under (.builtin "type.__call__" ⟨.ref C :: us, kw⟩)) :=
  ⟨r.hd, by have := r.dp; rw [vL]; omega, by have := r.un; rw [vv]; omega⟩
theorem Room.depth {k : Nat} {A : Around} (r : Room k A) : A.depth < recursionLimit := by have := r.dp; omega
theorem Room.units {k : Nat} {A : Around} (r : Room k A) : A.units + 64 < cLine := by have := r.un; omega
def QeK : TA := fun _ H Q => Q [] H
def Qel (ta : TE) (tr : TA) : TA := fun σ H Q => ta σ H fun x H1 => tr σ H1 fun xs H2 => Q (x :: xs) H2
section
variable {X : Cx} {e : Expr} {es : List Expr} {te : TE} {t : TA} {pos : Pos}
theorem pa_nil : PA X [] QeK := fun _ _ _ _ H Q I h => Calls.spliced_nil ⟨[], H, I, .nil, h⟩
theorem Kl (ha : PE X e te) (hr : PA X es t) (hs : starEach (e :: es) X.env = (false, eval e X.env) :: starEach es X.env := by rfl) : PA X (e :: es) (Qel te t) := by
  intro pos pins s σ H Q I h
  rw [hs]
  show wpAny _ _ (spliced ((false, eval e X.env) :: backTo pos (starEach es X.env))) _ _ s
  refine Calls.spliced_cons (thn (ha pins s σ H _ I h) fun u s1 ⟨x, H1, I1, r1, q1⟩ => ?_)
  exact thn (hr pos pins s1 σ H1 _ I1 q1) fun us s2 ⟨xs, H2, I2, r2, q2⟩ => ⟨x :: xs, H2, I2, .cons r1 r2, q2⟩
def Qfp (t : TA) : TE := fun σ H Q => t σ H fun xs H1 => xs.length <= sizeLine /\ ∀ p, H1 p = none -> Q (.ref p) (upd H1 p (.tup xs))
def Qe8 (t : TA) : TE := fun σ H Q => t σ H fun xs H1 => xs.length <= sizeLine /\ ∀ p, H1 p = none -> Q (.ref p) (upd H1 p (.lst xs))
theorem QcS {x1} (h : PA X es t) : PE X (.Tuple es x1 pos) (Qfp t) := by
  intro pins s σ H Q I hq
  refine wpAny_Tuple_spliced (thn (h pos pins s σ H _ I hq) fun us s1 ⟨xs, H1, I1, r, z, q⟩ => ⟨by rw [<- r.length]; exact z, ?_⟩)
  have hf : H1 s1.heap.objs.size = none := I1.hok.fresh (Nat.le_refl _)
  refine ⟨.ref s1.heap.objs.size, upd H1 s1.heap.objs.size (.tup xs), I1.laid (t' := s1.toks) (fun b u e => Heap.get?_push_of_some _ e) (Nat.le_refl _) ?_, rfl, q _ hf⟩
  exact ⟨z, us, r, ⟨_, Heap.get?_push_size _ rfl, rfl, _, rfl⟩⟩
theorem kW (h : PA X es t) : PE X (.List es pos) (Qe8 t) := by
  intro pins s σ H Q I hq
  refine wpAny_List_spliced (thn (h pos pins s σ H _ I hq) fun us s1 ⟨xs, H1, I1, r, z, q⟩ => ⟨by rw [<- r.length]; exact z, ?_⟩)
  have hf : H1 s1.heap.objs.size = none := I1.hok.fresh (Nat.le_refl _)
  refine ⟨.ref s1.heap.objs.size, upd H1 s1.heap.objs.size (.lst xs), I1.laid (t' := s1.toks) (fun b u e => Heap.get?_push_of_some _ e) (Nat.le_refl _) ?_, rfl, q _ hf⟩
  exact ⟨z, us, 0, r, Heap.get?_push_size _ rfl⟩
end
abbrev Sp := List V -> Hp -> VK -> XK -> Prop
abbrev CXT := List Env -> Hp -> Shared -> XK -> Value -> Shared -> Prop
structure Env0 (P : Program) (w : World) (K : PySem.W.Frag) (mg : Str -> Option Value) (base : Heap) (A : Around) (outer : List Env) (s : Shared) (H : Hp) : Prop where
  frames : A.frames = some outer
  mod : Mod K mg base
  bs : ∀ b o, base.get? b = some o -> s.heap.get? b = some o /\ H b = none
  bsz : base.objs.size <= s.heap.objs.size
  funs : s.heap.FunFrames base outer
  frf : ∀ b ∈ frs outer, H b = none
  hok : HOk P w H s.heap
  bare : AllBare s.gens
def CE (outer : List Env) (P : Program) (w : World) (H : Hp) (s : Shared) (Q : VK) (u : Value) (s' : Shared) : Prop :=
  ∃ v H', s'.os = s.os /\ AllBare s'.gens /\ Un (frs outer) [] H H' s.heap s'.heap /\ HOk P w H' s'.heap /\ RelV v u /\ Q v H'
def CR (CX : CXT) (outer : List Env) (P : Program) (w : World) (H : Hp) (s : Shared) (Q : VK) (E : XK) (r : Result) (s' : Shared) : Prop :=
  match r with
  | .ok (.ret u) => CE outer P w H s Q u s'
  | .ok _ => False
  | .error e => CX outer H s E e s'
structure zF (P : Program) (w : World) (K : PySem.W.Frag) (mg : Str -> Option Value) (base : Heap) (CX : CXT) (k : Nat) (f : Addr) (fd : FuncData) (ps : List Str) (sp : Sp) : Prop where
  len : ∀ vs H Q E, sp vs H Q E -> vs.length = ps.length
  run : ∀ (A : Around) (outer : List Env) (s : Shared) (H : Hp) (args : Args) (us : List Value) (vs : List V) (Q : VK) (E : XK), Room k A -> Env0 P w K mg base A outer s H -> BindsTo s fd args (ps.zip us) -> Vals vs us -> sp vs H Q E ->
    codeAny (model P w) A (.call (.ref f) args) (CR CX outer P w H s Q E) s
theorem Env0.make {P : Program} {w : World} {K : PySem.W.Frag} {mg : Str -> Option Value} {base : Heap} {A : Around} {outer : List Env} {s : Shared} {H : Hp} (e : Env0 P w K mg base A outer s H) (C : Addr) (us : List Value) (kw : List (Str × Value)) :
    Env0 P w K mg base (A.under (.builtin "type.__call__" ⟨.ref C :: us, kw⟩)) outer s H := ⟨by first | exact e.frames | (simpa [Around.under, Code.envs, Code.isFrame, pushEnvs] using e.frames), e.mod, e.bs, e.bsz, e.funs, e.frf, e.hok, e.bare⟩
section
variable {X : Cx} {pins : List (Addr × Obj)} {σ : St} {H : Hp} {s s' : Shared}
theorem Inv.env0 (I : Inv X pins σ H s) : Env0 X.prog X.w X.K X.mg X.base X.A X.stack s H :=
  ⟨I.ok.frames, I.ok.mod, I.bs, Nat.le_trans I.ok.bsz I.sz, I.stack, I.stkFree, I.hok, I.bare⟩
theorem Inv.after {Q : VK} {u : Value} (I : Inv X pins σ H s) (h : CE X.stack X.prog X.w H s Q u s') : EP X pins σ Q u s' := by
  obtain ⟨v, H', os, bare, un, hok, r, q⟩ := h
  obtain ⟨hh, g, d, t, os'⟩ := s'
  obtain rfl : os' = s.os := os
  exact ⟨v, H', I.call (h' := hh) (g' := g) (d' := d) (t' := t) (ch := []) un hok bare (fun b z => absurd z (by simp)), r, q⟩
end
def Qed (sp : Sp) (dvs : List V) (E : XK) (t : TA) : TE := fun σ H Q => t σ H fun vs H1 => sp (vs ++ dvs) H1 Q E
def Qba (C : Addr) (m : Str) (sp : Sp) (dvs : List V) (E : XK) (ta : TE) (t : TA) : TE := fun σ H Q => ta σ H fun x H1 => ∃ a dx fs, x = .ref a /\ H1 a = some (.ins C dx fs) /\ fs.lookup m = none /\
  t σ H1 fun vs H2 => sp (x :: (vs ++ dvs)) H2 Q E
def Binds (K : PySem.W.Frag) (fd : FuncData) (ps : List Str) (ds : List Value) : Prop :=
  ∀ (s : Shared) (us : List Value), K.In s.heap -> (us ++ ds).length = ps.length -> BindsTo s fd ⟨us, []⟩ (ps.zip (us ++ ds))
theorem Binds.all {K : PySem.W.Frag} {fd : FuncData} {ps : List Str} (h : ∀ us : List Value, us.length = ps.length -> bindArgs fd ⟨us, []⟩ = pure (ps.zip us)) : Binds K fd ps [] := fun s us _ hl => by
  rw [List.append_nil] at hl ⊢
  exact .of_eq (h us hl)
def qj (CX : CXT) (X : Cx) (E : XK) : Prop := ∀ (pins : List (Addr × Obj)) (σ : St) (H : Hp) (s : Shared) (e : Value) (s' : Shared), Inv X pins σ H s -> CX X.stack H s E e s' -> X.xe e s'
section
variable {X : Cx} {CX : CXT} {k : Nat} {f C : Addr} {fd : FuncData} {ps : List Str} {sp : Sp} {dvs : List V} {ds : List Value} {E : XK} {x m : Str} {p pos apos : Pos} {e o : Expr} {es : List Expr} {ta : TE} {t : TA}
theorem ve {pins : List (Addr × Obj)} {σ : St} {H : Hp} {s : Shared} {Q : VK} {us : List Value} {vs : List V} (F : zF X.prog X.w X.K X.mg X.base CX k f fd ps sp) (hr : Room k X.A) (hb : Binds X.K fd ps ds) (hd : Vals dvs ds) (hx : qj CX X E)
    (I : Inv X pins σ H s) (r : Vals vs us) (h : sp (vs ++ dvs) H Q E) : wpAny (model X.prog X.w) X.A (call (.ref f) us) (EP X pins σ Q) X.xe s := by
  have r2 : Vals (vs ++ dvs) (us ++ ds) := r.append hd
  have hl : (us ++ ds).length = ps.length := by rw [<- r2.length]; exact F.len _ _ _ _ h
  refine wpAny_call (codeAny_mono (F.run X.A X.stack s H ⟨us, []⟩ (us ++ ds) (vs ++ dvs) Q E hr I.env0 (hb s us I.kIn hl) r2 h) fun r s' hq => ?_)
  cases r with
  | error e => exact hx pins σ H s e s' I hq
  | ok fl =>
    cases fl with
    | ret u => exact I.after hq
    | next => exact False.elim hq
    | brk => exact False.elim hq
    | cont => exact False.elim hq
theorem Qbj (F : zF X.prog X.w X.K X.mg X.base CX k f fd ps sp) (hr : Room k X.A) (hg : Gl X x) (hm : X.mg x = some (.ref f)) (hk : PySem.W.keepIn X.K (.ref f) = true) (hb : Binds X.K fd ps ds) (hd : Vals dvs ds) (hx : qj CX X E)
    (ha : PA X (e :: es) t) (hdb : (x == ("__debug__" : Str)) = false := by decide) (he : starEach (e :: es) X.env = (false, eval e X.env) :: starEach es X.env := by rfl) (hpl : (backTo pos (starEach es X.env)).any (·.1) = false := by rfl) :
    PE X (.Call (.Name x p) (e :: es) [] pos) (Qed sp dvs E t) := by
  intro pins s σ H Q I h
  refine wpAny_Call_Name_kw (Ku I hg hm ?_ hdb)
  refine PySem.W.callWith_K (h₀ := X.base) I.ok.mod.kin hk (thn (ha pos pins s σ H _ I h) fun us s1 ⟨vs, H1, I1, r, q⟩ => ⟨I1.kIn, ?_⟩) he hpl
  exact ve F hr hb hd hx I1 r q
theorem QbB {pl : Sem Bool} (he : PE X o ta) (c : Cls X.K C) (hm : Ym X.K C m f) (F : zF X.prog X.w X.K X.mg X.base CX k f fd ps sp) (hr : Room k X.A) (hb : Binds X.K fd ps ds) (hd : Vals dvs ds) (hx : qj CX X E) (ha : PA X (e :: es) t)
    (hst : starEach (e :: es) X.env = (false, eval e X.env) :: starEach es X.env := by rfl) (hpl : (backTo pos (starEach es X.env)).any (·.1) = false := by rfl)
    (ht : eval (.Call (.Attribute o m apos) (e :: es) [] pos) X.env = (do
      let ov <- eval o X.env
      standAt apos.atName
      let (f, first) <- holding [ov] (getMethod ov m pl)
      callWith pos f first (backTo pos (starEach (e :: es) X.env)) (backToKw pos (keywordEach [] X.env))) := by rfl) :
    PE X (.Call (.Attribute o m apos) (e :: es) [] pos) (Qba C m sp dvs E ta t) := by
  intro pins s σ H Q I h
  refine PySem.W.methodCall_KW (pl := pl) (thn (he pins s σ H _ I h) fun u s1 ⟨x, H1, I1, rx, a, dx, fs, ex, ea, l, q⟩ => ?_) ht
  subst ex
  obtain rfl : u = Value.ref a := rx
  refine jv I1 ea c hm l ?_
  refine PySem.W.callWith_K (first := [.ref a]) (h₀ := X.base) I.ok.mod.kin hm.kp (thn (ha pos pins s1 σ H1 _ I1 q) fun us s2 ⟨vs, H2, I2, r, q2⟩ => ⟨I2.kIn, ?_⟩) hst hpl
  exact ve (us := .ref a :: us) (vs := .ref a :: vs) F hr hb hd hx I2 (.cons rfl r) q2
theorem kF {pl : Sem Bool} (he : PE X o ta) (c : Cls X.K C) (hm : Ym X.K C m f) (F : zF X.prog X.w X.K X.mg X.base CX k f fd ps sp) (hr : Room k X.A) (hb : Binds X.K fd ps ds) (hd : Vals dvs ds) (hx : qj CX X E)
    (ht : eval (.Call (.Attribute o m apos) [] [] pos) X.env = (do
      let ov <- eval o X.env
      standAt apos.atName
      let (f, first) <- holding [ov] (getMethod ov m pl)
      callWith pos f first (backTo pos (starEach [] X.env)) (backToKw pos (keywordEach [] X.env))) := by rfl) :
    PE X (.Call (.Attribute o m apos) [] [] pos) (Qba C m sp dvs E ta QeK) := by
  intro pins s σ H Q I h
  refine PySem.W.methodCall_KW (pl := pl) (thn (he pins s σ H _ I h) fun u s1 ⟨x, H1, I1, rx, a, dx, fs, ex, ea, l, q⟩ => ?_) ht
  subst ex
  obtain rfl : u = Value.ref a := rx
  refine jv I1 ea c hm l ?_
  exact PySem.W.callWith_K0 (first := [.ref a]) I1.kIn hm.kp (ve (us := [.ref a]) (vs := [.ref a]) F hr hb hd hx I1 (.cons rfl .nil) q)
structure Mk (K : PySem.W.Frag) (C f : Addr) : Prop where
  makes : PySem.W.makesIn K C = true
  init : PySem.W.findIn K (.ref C) "__init__" = some (some (.ref f))
  fn : PySem.W.isFn K (.ref f) = true
  kp : PySem.W.keepIn K (.ref C) = true
end
section
variable {X : Cx} {CX : CXT} {k : Nat} {f C : Addr} {fd : FuncData} {ps ks : List Str} {sp : Sp} {E : XK} {x m : Str} {p pos apos kpos : Pos} {e o : Expr} {es : List Expr} {kws : List Keyword} {te ta : TE} {t tk : TA} {nm : Option Str}
variable {g : List Value -> List Value -> List Value} {gV : List V -> List V -> List V}
end
structure Qx (N P : List Str) (sc : Scope) : Prop where
  kind : sc.kind = .function
  co : sc.isCoroutine = false
  gen : sc.isGenerator = false
  nd : N.Nodup
  pre : N.take P.length = P
  par : ∀ x ∈ P, sc.names.lookup x = some .local ∨ sc.names.lookup x = some .cell
  nofree : ∀ y ∈ sc.names, y.2 ≠ .free
theorem Uc {kindOf : Str -> Option NameKind} {x : Str} : ∀ {binds : List (Str × Value)} {m : Str -> Option Value}, (∀ v, (x, v) ∉ binds) -> bindL kindOf binds m x = m x
  | [], _, _ => rfl
  | (n, v) :: r, m, h => by
    unfold bindL
    rw [Uc fun w hw => h w (List.mem_cons_of_mem _ hw)]
    split
    . have : x ≠ n := by rintro rfl; exact h v List.mem_cons_self
      simp [this]
    . rfl
theorem Ug {kindOf : Str -> Option NameKind} {x : Str} : ∀ {binds : List (Str × Value)} {m : Str -> Option Value}, (∀ v, (x, v) ∉ binds) -> bindC kindOf binds m x = m x
  | [], _, _ => rfl
  | (n, v) :: r, m, h => by
    unfold bindC
    rw [Ug fun w hw => h w (List.mem_cons_of_mem _ hw)]
    split
    . rfl
    . have : x ≠ n := by rintro rfl; exact h v List.mem_cons_self
      simp [this]
theorem Ux {kindOf : Str -> Option NameKind} {x : Str} {v : Value} : ∀ {P : List Str} {vs : List Value} {i : Nat} {m : Str -> Option Value}, P.Nodup -> P[i]? = some x -> vs[i]? = some v -> kindOf x = some .local ->
    bindL kindOf (P.zip vs) m x = some v
  | [], _, _, _, _, h, _, _ => by simp at h
  | _ :: _, [], _, _, _, _, h, _ => by simp at h
  | p :: P, w :: vs, 0, m, nd, h1, h2, hk => by
    simp at h1 h2; subst h1; subst h2
    show bindL kindOf ((p, w) :: P.zip vs) m p = _
    unfold bindL
    rw [Uc fun v hv => (List.nodup_cons.mp nd).1 (List.of_mem_zip hv).1, if_pos hk]
    simp
  | p :: P, w :: vs, i + 1, m, nd, h1, h2, hk => by
    show bindL kindOf ((p, w) :: P.zip vs) m x = _
    unfold bindL
    exact Ux (i := i) (List.nodup_cons.mp nd).2 (by simpa using h1) (by simpa using h2) hk
theorem Uh {kindOf : Str -> Option NameKind} {x : Str} {v : Value} : ∀ {P : List Str} {vs : List Value} {i : Nat} {m : Str -> Option Value}, P.Nodup -> P[i]? = some x -> vs[i]? = some v -> kindOf x ≠ some .local ->
    bindC kindOf (P.zip vs) m x = some v
  | [], _, _, _, _, h, _, _ => by simp at h
  | _ :: _, [], _, _, _, _, h, _ => by simp at h
  | p :: P, w :: vs, 0, m, nd, h1, h2, hk => by
    simp at h1 h2; subst h1; subst h2
    show bindC kindOf ((p, w) :: P.zip vs) m p = _
    unfold bindC
    rw [Ug fun v hv => (List.nodup_cons.mp nd).1 (List.of_mem_zip hv).1, if_neg hk]
    simp
  | p :: P, w :: vs, i + 1, m, nd, h1, h2, hk => by
    show bindC kindOf ((p, w) :: P.zip vs) m x = _
    unfold bindC
    exact Uh (i := i) (List.nodup_cons.mp nd).2 (by simpa using h1) (by simpa using h2) hk
def start (N : List Str) (vs : List V) : St := vs.map some ++ List.replicate (N.length - vs.length) none
def Vd (CX : CXT) (P : Program) (w : World) (K : PySem.W.Frag) (mg : Str -> Option Value) (base : Heap) (N : List Str) (qual : Str) (scope : Scope) (f : Addr) (cd : Value) (A : Around) (outer : List Env) (s : Shared) (H : Hp) (E : XK) : Cx where
  prog := P
  w := w
  K := K
  mg := mg
  base := base
  A := A.deeper (envOfC qual scope s.heap.objs.size f cd)
  N := N
  s₀ := s
  H₀ := H
  env := envOfC qual scope s.heap.objs.size f cd
  outer := outer
  stack := envOfC qual scope s.heap.objs.size f cd :: outer
  ex := []
  calm := true
  fn := fun _ => true
  pn := []
  xe := fun e s' => wpAny (model P w) (A.deeper (envOfC qual scope s.heap.objs.size f cd)) (leaving (envOfC qual scope s.heap.objs.size f cd) e) (fun _ s'' => CX outer H s E e s'') (fun e' s'' => CX outer H s E e' s'') s'
theorem KJ {sc : Scope} {n : Nat} {x : Str} (h : sc.names.lookup x = some .cell) : ∃ c, (cellsFrom n sc.names []).lookup x = some c := by
  have q := PySem.W.cellsFrom_some sc.names n [] (.inl h)
  exact Option.isSome_iff_exists.mp q
theorem ge {CX : CXT} {P : Program} {w : World} {K : PySem.W.Frag} {mg : Str -> Option Value} {base : Heap} {N ps : List Str} {qual : Str} {scope : Scope} {f : Addr} {cd : Value} {A : Around} {outer : List Env} {s s1 : Shared} {H : Hp} {E : XK} {us : List Value} {vs : List V}
    (S : Qx N ps scope) (hd : A.handled = none) (e0 : Env0 P w K mg base A outer s H) (hl : vs.length = ps.length) (r : Vals vs us)
    (x : InCallC s s.heap.objs.size (bindL (envOfC qual scope s.heap.objs.size f cd).kindOf (ps.zip us) fun _ => none) (cellsFrom (s.heap.objs.size + 1) scope.names []) (bindC (envOfC qual scope s.heap.objs.size f cd).kindOf (ps.zip us) fun _ => none) s1) :
    Inv (Vd CX P w K mg base N qual scope f cd A outer s H E) [] (start N vs) H s1 := by
  have hpl : ps.length <= N.length := by have := congrArg List.length S.pre; rw [List.length_take] at this; omega
  obtain ⟨h1, tk, rfl, hk⟩ := x.done
  have noA : ∀ b : Addr, b ∉ (Vd CX P w K mg base N qual scope f cd A outer s H E).ex := fun b z => absurd (show b ∈ ([] : List Addr) from z) (by simp)
  refine ⟨⟨e0.mod, S.kind, rfl, rfl, Nat.le_refl _, fun y z c h1 h2 => ?_, fun y hy => ?_, fun y c _ h => ?_, fun _ => hd, Around.frames_deeper e0.frames, .inr ⟨rfl, rfl⟩, fun b z => absurd z (noA b), e0.bs, e0.bsz, fun b _ _ => noA b, fun b z => absurd z (noA b), e0.funs, e0.frf⟩,
    rfl, e0.bare, Un.kept hk, ⟨_, x.toInCall.ns, fun i y v h1 h2 h3 => ?_⟩, fun y c h => ⟨_, x.cell y c h⟩, e0.hok.fresh (Nat.le_refl _), fun y c h => ?_, fun p hp => absurd (show p ∈ ([] : List (Addr × Obj)) from hp) (by simp), e0.hok.kept hk, ?_⟩
  . exact name_of_addr x.apart (PySem.mem_of_lookup h1) (PySem.mem_of_lookup h2)
  . have hy : scope.names.lookup y = some .cell ∨ scope.names.lookup y = some .free := hy
    rcases hy with hy | hy
    . exact KJ hy
    . exact absurd rfl (S.nofree _ (PySem.mem_of_lookup hy))
  . exact Nat.le_of_lt (x.above y c (PySem.mem_of_lookup h))
  . have hi : i < vs.length := by
      unfold start at h2
      by_cases hi : i < vs.length
      . exact hi
      . rw [List.getElem?_append_right (by simpa using hi)] at h2
        rw [List.getElem?_replicate] at h2
        split at h2 <;> cases h2
    have ha : vs[i]? = some v := by
      unfold start at h2
      rw [List.getElem?_append_left (by simpa using hi), List.getElem?_map] at h2
      cases e : vs[i]? with
      | none => rw [e] at h2; cases h2
      | some a => rw [e] at h2; cases h2; rfl
    obtain ⟨u, hu, rv⟩ := r.get ha
    have hp : ps[i]? = some y := by
      rw [<- S.pre, List.getElem?_take_of_lt (by omega)]; exact h1
    have ndP : ps.Nodup := by rw [<- S.pre]; exact S.nd.sublist (List.take_sublist _ _)
    refine ⟨u, rv, ?_⟩
    rcases S.par y (List.mem_of_getElem? hp) with k | k
    . exact .inl ⟨k, Ux ndP hp hu k⟩
    . obtain ⟨c, e⟩ := KJ (n := s.heap.objs.size + 1) k
      refine .inr ⟨.inl k, c, e, ?_⟩
      have q := x.cell y c e
      rw [Uh ndP hp hu (by show scope.names.lookup y ≠ _; rw [k]; decide)] at q
      exact q
  . exact e0.hok.fresh (Nat.le_of_lt (x.above y c (PySem.mem_of_lookup h)))
  . unfold start
    show _ = N.length
    rw [List.length_append, List.length_map, List.length_replicate]
    omega
theorem Qd6 {CX : CXT} {P : Program} {w : World} {K : PySem.W.Frag} {mg : Str -> Option Value} {base : Heap} {k : Nat} {f : Addr} {name qual : Str} {params : Arguments} {body : List Stmt} {scope : Scope} {dV kV doc pm cdv ct oc : Value} {an od : Option Addr}
    {osl : Array (Option Value)} {N ps : List Str} {sp : Sp} (lk : K.lookup f = some ⟨oc, od, .func (PySem.W.fnOf name qual params body scope dV kV doc pm an cdv ct), osl⟩) (hcd : PySem.W.codeIn K cdv qual = true) (S : Qx N ps scope)
    (len : ∀ vs H Q E, sp vs H Q E -> vs.length = ps.length)
    (hbody : ∀ (A : Around) (outer : List Env) (s : Shared) (H : Hp) (vs : List V) (Q : VK) (E : XK), Room k (A.deeper (envOfC qual scope s.heap.objs.size f cdv)) -> sp vs H Q E ->
      ∃ t, PSs (Vd CX P w K mg base N qual scope f cdv A outer s H E) body t /\ t { nx := fun _ H' => Q .non H', rt := Q } (start N vs) H) :
    zF P w K mg base CX (k + 1) f (PySem.W.fnOf name qual params body scope dV kV doc pm an cdv ct) ps sp := by
  refine ⟨len, fun A outer s H args us vs Q E hr e0 hb r hsp => ?_⟩
  have hl := len _ _ _ _ hsp
  have KX : K.In s.heap := e0.mod.kin.keeps fun b o e => (e0.bs b o e).1
  have lim : s.heap.NoLimit := e0.mod.nolimit.keeps fun b o e => (e0.bs b o e).1
  have hkind : ∀ y ∈ ps.zip us, scope.names.lookup y.1 = some .local ∨ (scope.names.lookup y.1 = some .cell /\ ((cellsFrom (s.heap.objs.size + 1) scope.names []).lookup y.1).isSome = true) := fun ⟨n, v⟩ hy => by
    rcases S.par n (List.of_mem_zip hy).1 with q | q
    . exact .inl q
    . exact .inr ⟨q, PySem.W.cellsFrom_some _ _ _ (.inl q)⟩
  refine codeAny_call_function hr.depth (KX _ _ lk) rfl S.co S.gen rfl (PySem.W.codeRec_of KX hcd) (hb _ _ _ _ ?_)
  refine wpAny_newFunctionEnv_cells S.kind hkind fun env he s1 x => ?_
  subst he
  refine ⟨lim.keeps x.toInCall.keep, codeAny_func ?_⟩
  obtain ⟨t, ht, hq⟩ := hbody A outer s H vs Q E (hr.deeper _) hsp
  have I : Inv (Vd CX P w K mg base N qual scope f cdv A outer s H E) [] (start N vs) H s1 := ge S hr.hd e0 hl r x
  refine wpAny_mono (ht [] s1 (start N vs) H _ I hq) (fun fl s' hs => ?_) fun e s' hs => hs
  have fin : ∀ {σ' : St} {H' : Hp} {v : V} {u : Value}, Inv (Vd CX P w K mg base N qual scope f cdv A outer s H E) [] σ' H' s' -> RelV v u -> Q v H' -> CE outer P w H s Q u s' :=
    fun {σ' H' v u} J rv q => ⟨v, H', J.os, J.bare, J.base, J.hok, rv, q⟩
  cases fl with
  | ret u =>
    obtain ⟨v, σ', H', J, rv, q⟩ := hs
    exact fin J rv q
  | next =>
    obtain ⟨σ', H', J, q⟩ := hs
    exact fin (v := V.non) (u := Value.none) J rfl q
  | brk =>
    obtain ⟨_, _, _, q⟩ := hs
    exact False.elim q
  | cont =>
    obtain ⟨_, _, _, q⟩ := hs
    exact False.elim q
end L2
namespace L2
open PySem PySem.Spec PyProof.Rows
section
variable {X : Cx} {x : Str} {p pos : Pos} {e : Expr} {es : List Expr} {t : TA} {id T : String} {r : List V -> Hp -> VK -> Prop}
def tCB (r : List V -> Hp -> VK -> Prop) (t : TA) : TE := fun σ H Q => t σ H fun vs H1 => r vs H1 Q
theorem QaY (hc : Yk X (.builtin id) r) (hg : Gl X x) (hm : X.mg x = none) (hv : bootBuiltins x = some (.builtin id)) (ha : PA X (e :: es) t) (hn : x ≠ "__name__" := by decide) (hdb : (x == ("__debug__" : Str)) = false := by decide)
    (he : starEach (e :: es) X.env = (false, eval e X.env) :: starEach es X.env := by rfl) (hpl : (backTo pos (starEach es X.env)).any (·.1) = false := by rfl) : PE X (.Call (.Name x p) (e :: es) [] pos) (tCB r t) := by
  intro pins s σ H Q I h
  refine wpAny_Call_Name_kw (yV I hg hm hv ?_ hn hdb)
  exact PyProof.Rows.callWith_builtin1 (thn (ha pos pins s σ H _ I h) fun us s1 ⟨vs, H1, I1, r1, q1⟩ => hc pins s1 σ H1 vs us Q I1 r1 q1) he hpl
theorem gH (hc : Yk X (.type T) r) (hg : Gl X x) (hm : X.mg x = none) (hv : bootBuiltins x = some (.type T)) (ha : PA X (e :: es) t) (hn : x ≠ "__name__" := by decide) (hdb : (x == ("__debug__" : Str)) = false := by decide)
    (he : starEach (e :: es) X.env = (false, eval e X.env) :: starEach es X.env := by rfl) (hpl : (backTo pos (starEach es X.env)).any (·.1) = false := by rfl) : PE X (.Call (.Name x p) (e :: es) [] pos) (tCB r t) := by
  intro pins s σ H Q I h
  refine wpAny_Call_Name_kw (yV I hg hm hv ?_ hn hdb)
  exact PyProof.Rows.callWith_type1 (thn (ha pos pins s σ H _ I h) fun us s1 ⟨vs, H1, I1, r1, q1⟩ => hc pins s1 σ H1 vs us Q I1 r1 q1) he hpl
end
end L2
namespace HT
open PySem PyProof.Rows
section
open PySem.SeqAt
open PySem.AutoSeq1 (wpAny_loadPart')
open PySem.MeetsSeq PySem.MeetsSeq2 PySem.MeetsSeq3
end
section
variable {prog : Program} {w : World} {A : Around} {E : Value -> Shared -> Prop} {s : Shared}
theorem cat_tup {t b : Addr} {vs ws : List Value} {Q : Value -> Shared -> Prop} (ht : IsTup s.heap t vs.toArray) (hb : IsTup s.heap b ws.toArray) (hv : vs ≠ [])
    (h1 : ws = [] -> Q (.ref t) s) (h2 : ws ≠ [] -> Q (.ref s.heap.objs.size) { s with heap := s.heap.push { cls := .type "tuple", data := .seq (vs ++ ws).toArray } })
    (hsz : vs.length + ws.length <= sizeLine) : wpAny (model prog w) A (binaryOp .Add (.ref t) (.ref b)) Q E s := by
  obtain ⟨⟨cls, dd, data, sl⟩, ho, hc, n, hd⟩ := id ht
  obtain ⟨⟨cls2, dd2, data2, sl2⟩, ho2, hc2, n2, hd2⟩ := id hb
  simp only at hc hd hc2 hd2
  subst hc hd hc2 hd2
  have e : vs.toArray ++ ws.toArray = (vs ++ ws).toArray := by simp
  by_cases hw : ws = []
  . exact concat_meets ⟨_, ho, rfl⟩ ⟨_, ho2, rfl⟩ noFill_tuple_add seq_tuple_add PySem.F.slot_tuple_add PySem.F.entry_tuple_add (PySem.F.args_tuple_add_2 _ _)
      (tuple_addW1 t b vs.toArray ws.toArray n n2 dd dd2 sl sl2 (by simpa using hv) (by simp [hw])) ⟨ho, ho2, h1 hw⟩
  . refine concat_meets ⟨_, ho, rfl⟩ ⟨_, ho2, rfl⟩ noFill_tuple_add seq_tuple_add PySem.F.slot_tuple_add PySem.F.entry_tuple_add (PySem.F.args_tuple_add_2 _ _)
      (tuple_addW2 t b vs.toArray ws.toArray n n2 dd dd2 sl sl2 (by simpa using hv) (by simpa using hw) (by rw [List.size_toArray, List.size_toArray]; exact hsz)) ⟨ho, ho2, ?_⟩
    rw [e]
    exact h2 hw
def sIx (n d : Nat) : Option Int -> Nat
  | none => d
  | some v => if v < 0 then (v + (n : Int)).toNat else min v.toNat n
theorem sIx_nat (n d k : Nat) : sIx n d (some (k : Int)) = min k n := by
  show (if (k : Int) < 0 then ((k : Int) + (n : Int)).toNat else min (k : Int).toNat n) = min k n
  rw [if_neg (by omega), Int.toNat_natCast]
theorem QcV (n d : Nat) (hd : d <= n) (o : Option Int) : sIx n d o <= n := by
  cases o with
  | none => exact hd
  | some v =>
    show (if v < 0 then (v + (n : Int)).toNat else min v.toNat n) <= n
    by_cases hv : v < 0
    . rw [if_pos hv]; omega
    . rw [if_neg hv]; exact Nat.min_le_right _ _
theorem vN (v : Int) (n d : Nat) : (if v < 0 then max (v + (n : Int)) 0 else min v (n : Int)) = ((sIx n d (some v) : Nat) : Int) := by
  show (if v < 0 then max (v + (n : Int)) 0 else min v (n : Int)) = (((if v < 0 then (v + (n : Int)).toNat else min v.toNat n) : Nat) : Int)
  by_cases hv : v < 0
  . simp only [if_pos hv]; omega
  . simp only [if_neg hv]; omega
theorem G8 (lo hi : Option Int) (n : Nat) : Builtin.Slice.sliceAdjust lo hi 1 (n : Int) = (((sIx n 0 lo : Nat) : Int), ((sIx n n hi : Nat) : Int)) := by
  have h1 : ¬ ((1 : Int) < 0) := by omega
  unfold Builtin.Slice.sliceAdjust
  simp only [h1, if_false]
  refine Prod.ext ?_ ?_
  . cases lo with
    | none => rfl
    | some v => exact vN v n 0
  . cases hi with
    | none => rfl
    | some v => exact vN v n n
theorem vn (i j : Nat) : Builtin.Slice.slicePlaces (i : Int) (j : Int) 1 = j - i := by
  unfold Builtin.Slice.slicePlaces
  have h1 : (1 : Int) > 0 := by omega
  simp only [h1, if_true, Int.ediv_one]
  split <;> omega
theorem Vy {v : Value} {o : Option Int} {Q : Option Int -> Shared -> Prop} (p : IsPart v o) (h : Q o s) : wpAny (model prog w) A (Builtin.Slice.slicePartIndex v) Q E s := by
  cases p with
  | none => exact slicePart_none h
  | int i t => exact slicePart_int h
theorem sliceApplied_gen {sl : Addr} {vl vu : Value} {lo hi : Option Int} {n : Nat} {Q : Int × Int × Nat -> Shared -> Prop} (hs : s.heap.IsSliceOf sl vl vu .none) (pl : IsPart vl lo) (pu : IsPart vu hi)
    (h : Q (((sIx n 0 lo : Nat) : Int), 1, sIx n n hi - sIx n 0 lo) s) : wpAny (model prog w) A (Builtin.Slice.sliceApplied (.ref sl) (pure (n : Int))) Q E s := by
  obtain ⟨os, hos, hcs, hds⟩ := id hs
  unfold Builtin.Slice.sliceApplied Builtin.Slice.sliceFields
  refine wpAny_bind (wpAny_bind (wpAny_field hos hds (x := vl) rfl (wpAny_bind (wpAny_field hos hds (x := vu) rfl (wpAny_bind (wpAny_field hos hds (x := .none) rfl (wpAny_pure ?_)))))))
  refine wpAny_bind (slicePart_none ?_)
  show wpAny _ _ (if ((1 : Int) == 0) = true then _ else _) _ _ s
  rw [if_neg (by decide)]
  refine wpAny_bind (Vy pl (wpAny_bind (Vy pu (wpAny_bind (wpAny_pure ?_)))))
  show wpAny _ _ (match Builtin.Slice.sliceAdjust lo hi 1 (n : Int) with | (lo, hi) => pure (lo, (1 : Int), Builtin.Slice.slicePlaces lo hi 1)) _ _ s
  rw [G8 lo hi n]
  show wpAny _ _ (pure (((sIx n 0 lo : Nat) : Int), (1 : Int), Builtin.Slice.slicePlaces ((sIx n 0 lo : Nat) : Int) ((sIx n n hi : Nat) : Int) 1)) _ _ s
  rw [vn]
  exact wpAny_pure h
theorem QaG (xs : Array Value) (i k : Nat) : ((List.range k).filterMap fun (m : Nat) => xs[((i : Int) + (m : Int) * 1).toNat]?).toArray = ((xs.toList.drop i).take k).toArray := by
  have e : (fun (m : Nat) => xs[((i : Int) + (m : Int) * 1).toNat]?) = fun m => xs[i + m]? := by
    funext m
    have : ((i : Int) + (m : Int) * 1).toNat = i + m := by omega
    rw [this]
  rw [e]
  have := pick_run xs i k
  rw [List.filterMap_map] at this
  have e2 : ((fun x => xs[x]?) ∘ fun x => i + x) = fun m => xs[i + m]? := rfl
  rw [e2] at this
  rw [this]
theorem getItem_tuple_cut {t sl : Addr} {items : Array Value} {vl vu : Value} {lo hi : Option Int} {Q : Value -> Shared -> Prop} (ht : IsTup s.heap t items) (hs : s.heap.IsSliceOf sl vl vu .none) (pl : IsPart vl lo) (pu : IsPart vu hi)
    (hw : ¬ (sIx items.size 0 lo = 0 /\ sIx items.size items.size hi = items.size))
    (h : Q (.ref s.heap.objs.size) { s with heap := s.heap.push { cls := .type "tuple", data := .seq ((items.toList.drop (sIx items.size 0 lo)).take (sIx items.size items.size hi - sIx items.size 0 lo)).toArray } })
    (hsz : items.size <= sizeLine) : wpAny (model prog w) A (getItem (.ref t) (.ref sl)) Q E s := by
  have htake : sizeOk (.seq ((items.toList.drop (sIx items.size 0 lo)).take (sIx items.size items.size hi - sIx items.size 0 lo)).toArray) := by
    show ((items.toList.drop (sIx items.size 0 lo)).take (sIx items.size items.size hi - sIx items.size 0 lo)).toArray.size <= sizeLine
    rw [List.size_toArray, List.length_take, List.length_drop, Array.length_toList]
    omega
  have hj : sIx items.size items.size hi <= items.size := QcV _ _ (Nat.le_refl _) hi
  obtain ⟨os, hos, hcs, hds⟩ := id hs
  have hTs : s.TypeIs (.ref sl) "slice" := ⟨os, hos, hcs⟩
  unfold getItem
  try with_reducible refine wpAny_holding ?_
  first | refine wpAny_bind (wpAny_pure ?_) | skip
  refine wpAny_bind (wpAny_sequenceKey ht.typeIs (by decide) ?_)
  refine wpAny_bind (wpAny_callSpecial?_slot (name := Str.ofString "__getitem__") ht.typeIs PyProof.Rows.slot_tuple_getitem
    (wpAny_call_entry PyProof.Rows.slot_tuple_getitem ht.typeIs entry_tuple_getitem ?_ (args_tuple_getitem _ _)))
  show wpAny _ _ (Builtin.Tuple.tupleItemsOf (.ref t) >>= _) _ _ s
  refine wpAny_bind (tupleItemsOf_ ht ?_)
  refine wpAny_bind (wpAny_typeOf hTs ?_)
  rw [if_pos (by decide)]
  refine wpAny_bind (sliceApplied_gen hs pl pu ?_)
  have hno : ¬ ((((sIx items.size 0 lo : Nat) : Int) == 0 && (1 : Int) == 1 && (sIx items.size items.size hi - sIx items.size 0 lo) == items.size) = true) := by
    intro q
    rw [Bool.and_eq_true, Bool.and_eq_true] at q
    have q1 : ((sIx items.size 0 lo : Nat) : Int) = 0 := eq_of_beq q.1.1
    have q2 : sIx items.size items.size hi - sIx items.size 0 lo = items.size := eq_of_beq q.2
    exact hw ⟨by omega, by omega⟩
  show wpAny _ _ (if (((sIx items.size 0 lo : Nat) : Int) == 0 && (1 : Int) == 1 && (sIx items.size items.size hi - sIx items.size 0 lo) == items.size) = true then _ else _) _ _ s
  rw [if_neg hno, QaG]
  first
    | exact wpAny_bind (m := Builtin.Tuple.tupleExact _) (wpAny_newObj_type (wpAny_pure ⟨_, rfl, wpAny_pure h⟩) htake)
    | exact wpAny_bind (m := Builtin.Tuple.tupleExact _) (wpAny_newObj_type (wpAny_bind (wpAny_pure (wpAny_pure ⟨_, rfl, wpAny_pure h⟩))) htake)
    | exact wpAny_bind (wpAny_bind (m := Builtin.Tuple.tupleExact _) (wpAny_newObj_type (wpAny_pure (wpAny_pure ⟨_, rfl, wpAny_pure h⟩)) htake))
    | exact wpAny_bind (wpAny_bind (m := Builtin.Tuple.tupleExact _) (wpAny_newObj_type (wpAny_pure ⟨_, rfl, wpAny_pure h⟩) htake))
end
end HT
namespace L2
open PySem PySem.Spec PyProof.Rows
abbrev TO := St -> Hp -> (Option Int -> Hp -> Prop) -> Prop
def PO (X : Cx) (e : Option Expr) (t : TO) : Prop :=
  ∀ (pins : List (Addr × Obj)) (s : Shared) (σ : St) (H : Hp) (Q : Option Int -> Hp -> Prop), Inv X pins σ H s -> t σ H Q ->
    wpAny (model X.prog X.w) X.A (evalPart e X.env) (fun u s' => ∃ o H', Inv X pins σ H' s' /\ IsPart u o /\ Q o H') X.xe s
def Qce : TO := fun _ H Q => Q none H
def Qem (t : TE) : TO := fun σ H Q => t σ H fun x H1 => ∃ i, x = .int i /\ Q (some i) H1
section
variable {X : Cx} {e : Expr} {te : TE} {lo hi : Option Expr} {tl th : TO} {pos p2 : Pos}
theorem Qb5 : PO X none Qce := by
  intro pins s σ H Q I h
  rw [evalPart_none]
  exact wpAny_pure ⟨none, H, I, .none, h⟩
theorem QbU (h : PE X e te) : PO X (some e) (Qem te) := by
  intro pins s σ H Q I hw
  rw [evalPart_some]
  refine thn (h pins s σ H _ I hw) fun u s1 ⟨x, H1, I1, r1, q1⟩ => ?_
  obtain ⟨i, rfl, q⟩ := q1
  obtain ⟨t, rfl⟩ := r1
  exact ⟨some i, H1, I1, .int i t, q⟩
def SlR (X : Cx) (r : V -> Option Int -> Option Int -> Hp -> VK -> Prop) : Prop :=
  ∀ (pins : List (Addr × Obj)) (s : Shared) (σ : St) (H : Hp) (x : V) (v vl vu : Value) (lo hi : Option Int) (sl : Addr) (Q : VK), Inv X pins σ H s -> RelV x v -> s.heap.IsSliceOf sl vl vu .none -> IsPart vl lo -> IsPart vu hi -> r x lo hi H Q ->
    ∃ T id, typeLookup (.type T) "__getitem__" = pure (some (.builtin id)) /\ s.TypeIs v T /\ wpAny (model X.prog X.w) X.A (getItem v (.ref sl)) (EP X pins σ Q) X.xe s
def tSl (r : V -> Option Int -> Option Int -> Hp -> VK -> Prop) (te : TE) (tl th : TO) : TE := fun σ H Q => te σ H fun x H1 => tl σ H1 fun l H2 => th σ H2 fun u H3 => r x l u H3 Q
theorem QaA {r : V -> Option Int -> Option Int -> Hp -> VK -> Prop} (hr : SlR X r) (he : PE X e te) (hl : PO X lo tl) (hu : PO X hi th) : PE X (.Subscript e (.Slice lo hi none p2) pos) (tSl r te tl th) := by
  intro pins s σ H Q I h
  refine Subscript_ (thn (he pins s σ H _ I h) fun v s1 ⟨x, H1, I1, r1, q1⟩ => ?_)
  refine wpAny_Slice (thn (hl pins s1 σ H1 _ I1 q1) fun vl s2 ⟨l, H2, I2, pl, q2⟩ => thn (hu pins s2 σ H2 _ I2 q2) fun vu s3 ⟨u, H3, I3, pu, q3⟩ => ?_)
  rw [evalPart_none]
  refine wpAny_pure ?_
  have I4 : Inv X pins σ H3 { s3 with heap := s3.heap.push { cls := .type "slice", data := .fields #[vl, vu, .none] } } := I3.kept (t' := s3.toks) fun b ob q => Heap.get?_push_of_some _ q
  obtain ⟨T, id, hT, ht, hg⟩ := hr pins { s3 with heap := s3.heap.push { cls := .type "slice", data := .fields #[vl, vu, .none] } } σ H3 x v vl vu l u s3.heap.objs.size Q I4 r1 (Heap.IsSliceOf.new ..) pl pu q3
  show wpAny (model X.prog X.w) X.A (subscriptTail e (.Slice lo hi none p2) v (.ref s3.heap.objs.size)) (EP X pins σ Q) X.xe { s3 with heap := s3.heap.push { cls := .type "slice", data := .fields #[vl, vu, .none] } }
  exact tail_any (ops := [.ref s3.heap.objs.size, v]) ht hT hg (by with_unfolding_all rfl)
def Gy (xs : List V) (lo hi : Option Int) : List V := (xs.drop (HT.sIx xs.length 0 lo)).take (HT.sIx xs.length xs.length hi - HT.sIx xs.length 0 lo)
theorem yn (xs : List V) (lo hi : Option Int) : (Gy xs lo hi).length <= xs.length := by
  unfold Gy
  rw [List.length_take, List.length_drop]
  omega
def Qfj (K : PySem.W.Frag) : V -> Option Int -> Option Int -> Hp -> VK -> Prop := fun x lo hi H Q => ∃ a xs, x = .ref a /\ SqT K H a xs /\
  ¬ (HT.sIx xs.length 0 lo = 0 /\ HT.sIx xs.length xs.length hi = xs.length) /\ ∀ p, H p = none -> Q (.ref p) (upd H p (.tup (Gy xs lo hi)))
theorem Qc2 : SlR X (Qfj X.K) := by
  intro pins s σ H x v vl vu lo hi sl Q I rx hs pl pu h
  obtain ⟨a, xs, rfl, hx, hw, q⟩ := h
  cases rx
  obtain ⟨its, r, ht, hz⟩ := I.tuple hx
  have hlen : its.toArray.size = xs.length := by rw [List.size_toArray]; exact r.length.symm
  refine ⟨"tuple", _, PyProof.Rows.slot_tuple_getitem.lookup, ht.typeIs, ?_⟩
  refine HT.getItem_tuple_cut ht hs pl pu (by rw [hlen]; exact hw) ?_ (by rw [hlen]; exact hz)
  rw [hlen]
  refine ⟨.ref s.heap.objs.size, _, I.laid (t' := s.toks) (o := .tup (Gy xs lo hi)) (fun b ob q => Heap.get?_push_of_some _ q) (Nat.le_refl _) ?_, rfl, q _ (I.hok.fresh (Nat.le_refl _))⟩
  exact ⟨Nat.le_trans (yn xs lo hi) hz, _, (r.drop (HT.sIx xs.length 0 lo)).take (HT.sIx xs.length xs.length hi - HT.sIx xs.length 0 lo), IsTup.new _ _⟩
def QeE (K : PySem.W.Frag) : R2 := fun x y H Q => ∃ a b xs ys, x = .ref a /\ y = .ref b /\ SqT K H a xs /\ SqT K H b ys /\ xs ≠ [] /\ xs.length + ys.length <= sizeLine /\
  (ys = [] -> Q (.ref a) H) /\ (ys ≠ [] -> ∀ p, H p = none -> Q (.ref p) (upd H p (.tup (xs ++ ys))))
theorem Vals.nil_iff {xs : List V} {us : List Value} (r : Vals xs us) : us = [] ↔ xs = [] := by
  cases r with
  | nil => simp
  | cons _ _ => simp
theorem Qcw : OpR X (binaryOp .Add) (QeE X.K) := by
  intro pins s σ H x y v u Q I rx ry h
  obtain ⟨a, b, xs, ys, rfl, rfl, ha, hb, hx, hz, q1, q2⟩ := h
  cases rx
  cases ry
  obtain ⟨its, r1, p1, _⟩ := I.tuple ha
  obtain ⟨its2, r2, p2, _⟩ := I.tuple hb
  refine HT.cat_tup p1 p2 (fun z => hx (r1.nil_iff.mp z)) (fun z => ⟨.ref a, H, I, rfl, q1 (r2.nil_iff.mp z)⟩) (fun z => ?_) (by rw [<- r1.length, <- r2.length]; exact hz)
  refine ⟨.ref s.heap.objs.size, _, I.laid (t' := s.toks) (o := .tup (xs ++ ys)) (fun b ob q => Heap.get?_push_of_some _ q) (Nat.le_refl _) ?_, rfl, q2 (fun w => z (r2.nil_iff.mpr w)) _ (I.hok.fresh (Nat.le_refl _))⟩
  exact ⟨by rw [List.length_append]; exact hz, _, r1.append r2, IsTup.new _ _⟩
end
end L2
namespace L2
open PySem PySem.Spec PyProof.Rows
def ixN (n : Nat) (i : Int) : Option Nat := if 0 <= i then (if i < n then some i.toNat else none) else if -(n : Int) <= i then some (i + n).toNat else none
def atI {α : Type} (xs : List α) (i : Int) : Option α := (ixN xs.length i).bind fun j => xs[j]?
theorem uL {n : Nat} {i : Int} {j : Nat} (h : ixN n i = some j) : seqIndex? i n = some j /\ j < n /\ -(n : Int) <= i /\ i < n := by
  unfold ixN at h
  by_cases h0 : 0 <= i
  . rw [if_pos h0] at h
    by_cases h1 : i < n
    . rw [if_pos h1] at h
      have e : i.toNat = j := Option.some.inj h
      exact ⟨by rw [seqIndex_of h0 h1, e], by omega, by omega, h1⟩
    . rw [if_neg h1] at h; cases h
  . rw [if_neg h0] at h
    by_cases h1 : -(n : Int) <= i
    . rw [if_pos h1] at h
      have e : (i + n).toNat = j := Option.some.inj h
      exact ⟨by rw [seqIndex_neg (by omega) h1, e], by omega, h1, by omega⟩
    . rw [if_neg h1] at h; cases h
theorem vU {α : Type} {xs : List α} {i : Int} {v : α} (h : atI xs i = some v) : ∃ j, seqIndex? i xs.length = some j /\ xs[j]? = some v /\ j < xs.length /\ -(xs.length : Int) <= i /\ i < xs.length := by
  unfold atI at h
  cases e : ixN xs.length i with
  | none => rw [e] at h; cases h
  | some j =>
    rw [e] at h
    obtain ⟨h1, h2, h3, h4⟩ := uL e
    exact ⟨j, h1, h, h2, h3, h4⟩
theorem YX {α : Type} {xs : List α} {j : Nat} {v : α} (h : xs[j]? = some v) : atI xs (j : Int) = some v := by
  have hj : j < xs.length := (List.getElem?_eq_some_iff.mp h).1
  have e : ixN xs.length (j : Int) = some j := by
    unfold ixN
    rw [if_pos (by omega), if_pos (by omega)]; simp
  unfold atI; rw [e]; exact h
theorem Ga {α : Type} (xs : List α) (v : α) : atI (xs ++ [v]) (-1) = some v := by
  have hl : (xs ++ [v]).length = xs.length + 1 := by simp
  have e : ixN (xs ++ [v]).length (-1) = some xs.length := by
    unfold ixN
    rw [hl, if_neg (by decide), if_pos (by omega)]
    congr 1
    omega
  unfold atI
  rw [e]
  show (xs ++ [v])[xs.length]? = some v
  simp
def UW (b : Expr) : Prop := ∀ o i, subscripted b false o i = operate [o, i] (getItem o i)
def IxR (X : Cx) (r : R2) : Prop :=
  ∀ (value slice : Expr) (pins : List (Addr × Obj)) (s : Shared) (σ : St) (H : Hp) (x y : V) (v u : Value) (Q : VK), Inv X pins σ H s -> RelV x v -> RelV y u -> r x y H Q ->
    subscripted slice false v u = operate [v, u] (getItem v u) -> wpAny (model X.prog X.w) X.A (subscriptTail value slice v u) (EP X pins σ Q) X.xe s
def MtR (X : Cx) (id : String) (r : V -> List V -> Hp -> VK -> Prop) : Prop :=
  ∀ (pins : List (Addr × Obj)) (s : Shared) (σ : St) (H : Hp) (x : V) (xs : List V) (v : Value) (us : List Value) (Q : VK), Inv X pins σ H s -> RelV x v -> Vals xs us -> r x xs H Q ->
    wpAny (model X.prog X.w) X.A (call (.builtin id) (v :: us)) (EP X pins σ Q) X.xe s
section
variable {X : Cx} {a b : Expr} {ta tb : TE} {pos : Pos}
theorem Qcz {r : R2} (hr : IxR X r) (ha : PE X a ta) (hb : PE X b tb) (hs : UW b) : PE X (.Subscript a b pos) (tOp r ta tb) := by
  intro pins s σ H Q I h
  exact Subscript_ (QdO ha hb I h fun v u s2 x y H2 I2 rx ry q => hr a b pins s2 σ H2 x y v u Q I2 rx ry q (hs _ _))
def Qe0 (K : PySem.W.Frag) : R2 := fun x y H Q => ∃ p xs i v, x = .ref p /\ y = .int i /\ SqL K H p xs /\ atI xs i = some v /\ Q v H
def Qe5 (K : PySem.W.Frag) : R2 := fun x y H Q => ∃ p xs i v, x = .ref p /\ y = .int i /\ SqT K H p xs /\ atI xs i = some v /\ Q v H
theorem vW : IxR X (Qe0 X.K) := by
  intro value slice pins s σ H x y v u Q I rx ry h hs
  obtain ⟨p, xs, i, z, rfl, rfl, hq, he, q⟩ := h
  cases rx
  obtain ⟨t, rfl⟩ := ry
  obtain ⟨its, r, pl, hz⟩ := I.list hq
  obtain ⟨j, h1, h2, h3, h4, h5⟩ := vU he
  obtain ⟨w, ew, rw'⟩ := r.get h2
  have hl := r.length
  have hn := US
  have fin : EP X pins σ Q w s := ⟨z, H, I, rw', q⟩
  by_cases h0 : 0 <= i
  . have hj : i.toNat = j := by
      rw [seqIndex_of h0 h5] at h1
      exact Option.some.inj h1
    exact item_listR pl.isList h0 (by omega) (by rw [hj]; simpa using ew) fin hs
  . have hj : (i + (its.toArray.size : Int)).toNat = j := by
      rw [seqIndex_neg (by omega) h4] at h1
      rw [List.size_toArray, <- hl]
      exact Option.some.inj h1
    exact subscriptTail_builtinR (x := w) pl.isList.typeIs slot_list_getitem.lookup
      (wpAny_getItem_list_neg (Q := fun r s' => r = w /\ EP X pins σ Q r s') pl.isList (by omega) (by rw [List.size_toArray] <;> omega) (by omega) (by rw [hj]; simpa using ew) ⟨rfl, fin⟩) hs
theorem Qdh : IxR X (Qe5 X.K) := by
  intro value slice pins s σ H x y v u Q I rx ry h hs
  obtain ⟨p, xs, i, z, rfl, rfl, hq, he, q⟩ := h
  cases rx
  obtain ⟨t, rfl⟩ := ry
  obtain ⟨its, r, pl, hz⟩ := I.tuple hq
  obtain ⟨j, h1, h2, h3, h4, h5⟩ := vU he
  obtain ⟨w, ew, rw'⟩ := r.get h2
  have hl := r.length
  have hn := US
  have fin : EP X pins σ Q w s := ⟨z, H, I, rw', q⟩
  exact subscriptTail_builtinR (x := w) pl.typeIs slot_tuple_getitem.lookup
    (getItem_tuple (j := j) (Q := fun r s' => r = w /\ EP X pins σ Q r s') pl (by omega) (by omega) (by rw [List.size_toArray, <- hl]; exact h1) (by simpa using ew) ⟨rfl, fin⟩) hs
theorem vI (its : List Value) (n j : Nat) (u : Value) : Obj.mapSeq (·.setIfInBounds j u) { cls := .type "list", data := .seq its.toArray n } = { cls := .type "list", data := .seq (its.set j u).toArray n } := by
  simp [Obj.mapSeq]
theorem Inv.lst {pins : List (Addr × Obj)} {σ : St} {H : Hp} {s : Shared} {p : Addr} {xs : List V} (I : Inv X pins σ H s) (h : H p = some (.lst xs)) :
    ∃ (its : List Value) (n : Nat), Vals xs its /\ s.heap.get? p = some { cls := .type "list", data := .seq its.toArray n } /\ xs.length <= sizeLine := by
  obtain ⟨z, its, n, r, e⟩ := I.hok p _ h
  exact ⟨its, n, r, e, z⟩
theorem Inv.lstUpd {pins : List (Addr × Obj)} {σ : St} {H : Hp} {s : Shared} {p : Addr} {xs ys : List V} {its its' : List Value} {n n' : Nat} {f : Obj -> Obj} (I : Inv X pins σ H s) (h : H p = some (.lst xs))
    (ho : s.heap.get? p = some { cls := .type "list", data := .seq its.toArray n }) (hf : f { cls := .type "list", data := .seq its.toArray n } = { cls := .type "list", data := .seq its'.toArray n' }) (r : Vals ys its') (hz : ys.length <= sizeLine) (t : Nat) :
    Inv X pins σ (upd H p (.lst ys)) { s with heap := s.heap.update p f, toks := t } := by
  have e : (s.heap.update p f).get? p = some { cls := .type "list", data := .seq its'.toArray n' } := by
    rw [Heap.get?_update_self f ho (by rw [hf] <;> rfl), hf]
  refine I.write (x := p) (e := p) (by rw [h]; trivial) (.inl rfl) (fun b u hb q => (Heap.get?_update_other _ _ (Ne.symm hb)).trans q) ⟨_, e⟩ ?_
  exact ⟨hz, its', n', r, e⟩
def QeM : V -> V -> V -> Hp -> (Hp -> Prop) -> Prop := fun o i v H Q => ∃ p xs k j, o = .ref p /\ i = .int k /\ H p = some (.lst xs) /\ ixN xs.length k = some j /\ Q (upd H p (.lst (xs.set j v)))
theorem QaB : QbO X QeM := by
  intro pins s σ H o i v ov iv u Q I ro ri rv h
  obtain ⟨p, xs, k, j, rfl, rfl, hp, hj, q⟩ := h
  cases ro
  obtain ⟨t, rfl⟩ := ri
  obtain ⟨its, n, r, ho, hz⟩ := I.lst hp
  obtain ⟨h1, h2, h3, h4⟩ := uL hj
  have hl := r.length
  have hn := US
  have I' : Inv X pins σ (upd H p (.lst (xs.set j v))) { s with heap := s.heap.update p (Obj.mapSeq (·.setIfInBounds j u)) } :=
    I.lstUpd hp ho (vI its n j u) (r.set rv j) (by rw [List.length_set]; exact hz) s.toks
  by_cases h0 : 0 <= k
  . have hk : k.toNat = j := by
      rw [seqIndex_of h0 h4] at h1
      exact Option.some.inj h1
    exact PySem.W.ki_setAt ho h0 (by omega) (by rw [List.size_toArray, <- hl]; exact h4) (by rw [hk]; exact ⟨_, I', q⟩)
  . have hk : (k + (its.toArray.size : Int)).toNat = j := by
      rw [seqIndex_neg (by omega) h3] at h1
      rw [List.size_toArray, <- hl]
      exact Option.some.inj h1
    exact PySem.W.ki_setBack ho (by omega) (by rw [List.size_toArray, <- hl]; exact h3) (by omega) (by rw [hk]; exact ⟨_, I', q⟩)
theorem UG (lo hi : Option Int) (n : Nat) : (sliceBounds lo hi none n).1 = ((HT.sIx n 0 lo : Nat) : Int) /\ (sliceBounds lo hi none n).2.1 = ((HT.sIx n n hi : Nat) : Int) /\ (sliceBounds lo hi none n).2.2 = 1 := by
  refine ⟨?_, ?_, rfl⟩
  . cases lo with
    | none => simp [sliceBounds, HT.sIx]
    | some i =>
      simp only [sliceBounds, HT.sIx, Option.getD_none, show (1 : Int) > 0 by decide, if_true]
      by_cases h : i < 0
      . simp only [h, if_true] <;> omega
      . simp only [h, if_false] <;> omega
  . cases hi with
    | none => simp [sliceBounds, HT.sIx]
    | some i =>
      simp only [sliceBounds, HT.sIx, Option.getD_none, show (1 : Int) > 0 by decide, if_true]
      by_cases h : i < 0
      . simp only [h, if_true] <;> omega
      . simp only [h, if_false] <;> omega
theorem V0 (its : List Value) (lo hi : Option Int) : slicePick its.toArray lo hi none = ((its.drop (HT.sIx its.length 0 lo)).take (HT.sIx its.length its.length hi - HT.sIx its.length 0 lo)).toArray := by
  obtain ⟨h1, h2, h3⟩ := UG lo hi its.toArray.size
  unfold slicePick
  rw [h1, h2, h3]
  simp only [sliceRange_one, pick_run, List.size_toArray] <;> rfl
def Qfg (K : PySem.W.Frag) : V -> Option Int -> Option Int -> Hp -> VK -> Prop := fun x lo hi H Q => ∃ a xs, x = .ref a /\ SqL K H a xs /\ ∀ p, H p = none -> Q (.ref p) (upd H p (.lst (Gy xs lo hi)))
theorem Qcv : SlR X (Qfg X.K) := by
  intro pins s σ H x v vl vu lo hi sl Q I rx hs pl pu h
  obtain ⟨a, xs, rfl, hx, q⟩ := h
  cases rx
  obtain ⟨its, r, ht, hz⟩ := I.list hx
  have hlen := r.length
  refine ⟨"list", _, slot_list_getitem.lookup, ht.isList.typeIs, ?_⟩
  refine wpAny_getItem_list_slice ht.isList hs pl pu .none (by simp) ?_ (by rw [List.size_toArray] <;> omega)
  rw [V0, <- hlen]
  refine ⟨.ref s.heap.objs.size, _, I.laid (t' := s.toks) (o := .lst (Gy xs lo hi)) (fun b ob q => Heap.get?_push_of_some _ q) (Nat.le_refl _) ?_, rfl, q _ (I.hok.fresh (Nat.le_refl _))⟩
  exact ⟨Nat.le_trans (yn xs lo hi) hz, _, 0, (r.drop (HT.sIx xs.length 0 lo)).take (HT.sIx xs.length xs.length hi - HT.sIx xs.length 0 lo), Heap.get?_push_size _ rfl⟩
def YZ : V -> Bool
  | .non => true
  | .bl _ => true
  | .int _ => true
  | .str _ => true
  | _ => false
def eqV : V -> V -> Bool
  | .non, .non => true
  | .bl a, .bl b => a == b
  | .bl a, .int b => (if a then 1 else 0) == b
  | .int a, .bl b => a == (if b then 1 else 0)
  | .int a, .int b => a == b
  | .str a, .str b => a == b
  | _, _ => false
theorem Qc1 {A : Around} {s : Shared} {y x : V} {u v : Value} (ry : RelV y u) (rx : RelV x v) (fy : YZ y = true) (fx : YZ x = true) : SeqAt.EqAt A s u v (eqV y x) := by
  cases y with
  | non =>
    cases ry
    cases x with
    | non => cases rx; exact SeqAt.EqAt.same _
    | bl b => cases rx; exact SeqAt.EqAt.none_bool b
    | int b => obtain ⟨t, rfl⟩ := rx; exact SeqAt.EqAt.none_int b t
    | str b => obtain ⟨t, rfl⟩ := rx; exact SeqAt.EqAt.none_str b t
    | _ => exact absurd (show false = true from fx) Bool.false_ne_true
  | bl a =>
    cases ry
    cases x with
    | non => cases rx; exact SeqAt.EqAt.bool_none a
    | bl b => cases rx; exact SeqAt.EqAt.bool_bool a b
    | int b => obtain ⟨t, rfl⟩ := rx; exact SeqAt.EqAt.bool_int a b t
    | str b => obtain ⟨t, rfl⟩ := rx; exact SeqAt.EqAt.bool_str a b t
    | _ => exact absurd (show false = true from fx) Bool.false_ne_true
  | int a =>
    obtain ⟨t', rfl⟩ := ry
    cases x with
    | non => cases rx; exact SeqAt.EqAt.int_none a t'
    | bl b => cases rx; exact SeqAt.EqAt.int_bool a t' b
    | int b => obtain ⟨t, rfl⟩ := rx; exact SeqAt.EqAt.int_int a t' b t
    | str b => obtain ⟨t, rfl⟩ := rx; exact SeqAt.EqAt.int_str a t' b t
    | _ => exact absurd (show false = true from fx) Bool.false_ne_true
  | str a =>
    obtain ⟨t', rfl⟩ := ry
    cases x with
    | non => cases rx; exact SeqAt.EqAt.str_none a t'
    | bl b => cases rx; exact SeqAt.EqAt.str_bool a t' b
    | int b => obtain ⟨t, rfl⟩ := rx; exact SeqAt.EqAt.str_int a t' b t
    | str b => obtain ⟨t, rfl⟩ := rx; exact SeqAt.EqAt.str_str a t' b t
    | _ => exact absurd (show false = true from fx) Bool.false_ne_true
  | _ => exact absurd (show false = true from fy) Bool.false_ne_true
def eqU (x : V) (u : Value) : Bool := match u with
  | .none => eqV .non x
  | .bool b => eqV (.bl b) x
  | .int i _ => eqV (.int i) x
  | .str z _ => eqV (.str z) x
  | _ => false
theorem QaX {x y : V} {u : Value} (r : RelV y u) (f : YZ y = true) : eqU x u = eqV y x := by
  cases y with
  | non => cases r; rfl
  | bl b => cases r; rfl
  | int i => obtain ⟨t, rfl⟩ := r; rfl
  | str z => obtain ⟨t, rfl⟩ := r; rfl
  | _ => exact absurd (show false = true from f) Bool.false_ne_true
theorem xm {x : V} : ∀ {xs : List V} {us : List Value}, Vals xs us -> xs.all YZ = true -> us.any (eqU x) = xs.any fun y => eqV y x
  | _, _, .nil, _ => rfl
  | y :: xs, u :: us, .cons r t, f => by
    rw [List.all_cons, Bool.and_eq_true] at f
    rw [List.any_cons, List.any_cons, QaX r f.1, xm t f.2]
theorem zA {A : Around} {s : Shared} {x : V} {v : Value} (rx : RelV x v) (fx : YZ x = true) : ∀ {xs : List V} {us : List Value}, Vals xs us -> xs.all YZ = true -> ∀ u ∈ us, SeqAt.EqAt A s u v (eqU x u)
  | _, _, .nil, _ => fun u hu => by cases hu
  | y :: xs, u :: us, .cons r t, f => fun u' hu => by
    rw [List.all_cons, Bool.and_eq_true] at f
    rcases List.mem_cons.mp hu with rfl | hu
    . rw [QaX r f.1]; exact Qc1 r rx f.1 fx
    . exact zA rx fx t f.2 u' hu
def inV (x : V) (xs : List V) : Bool := xs.any fun y => eqV y x
def rIn (K : PySem.W.Frag) (neg : Bool) : R2 := fun x y H Q => ∃ p xs, y = .ref p /\ (SqL K H p xs ∨ SqT K H p xs) /\ YZ x = true /\ xs.all YZ = true /\ Q (.bl (if neg then !inV x xs else inV x xs)) H
theorem gT : OpR X (compareOp .In) (rIn X.K false) := by
  intro pins s σ H x y v u Q I rx ry h
  obtain ⟨p, xs, rfl, hq, fx, fs, q⟩ := h
  cases ry
  rcases hq with hq | hq
  . obtain ⟨its, r, pl, hz⟩ := I.list hq
    refine SeqAt.in_listAt (eqU x) pl.isList (fun w hw => zA rx fx r fs w (by simpa using hw)) ⟨.bl _, H, I, rfl, ?_⟩
    rw [show its.toArray.any (eqU x) = its.any (eqU x) by simp, xm r fs]
    exact q
  . obtain ⟨its, r, pl, hz⟩ := I.tuple hq
    refine SeqAt.in_tupleAt (eqU x) pl (fun w hw => zA rx fx r fs w (by simpa using hw)) ⟨.bl _, H, I, rfl, ?_⟩
    rw [show its.toArray.any (eqU x) = its.any (eqU x) by simp, xm r fs]
    exact q
theorem Kk : OpR X (compareOp .NotIn) (rIn X.K true) := by
  intro pins s σ H x y v u Q I rx ry h
  obtain ⟨p, xs, rfl, hq, fx, fs, q⟩ := h
  cases ry
  rcases hq with hq | hq
  . obtain ⟨its, r, pl, hz⟩ := I.list hq
    refine SeqAt.notIn_listAt (eqU x) pl.isList (fun w hw => zA rx fx r fs w (by simpa using hw)) ⟨.bl _, H, I, rfl, ?_⟩
    rw [show its.toArray.any (eqU x) = its.any (eqU x) by simp, xm r fs]
    exact q
  . obtain ⟨its, r, pl, hz⟩ := I.tuple hq
    refine SeqAt.notIn_tupleAt (eqU x) pl (fun w hw => zA rx fx r fs w (by simpa using hw)) ⟨.bl _, H, I, rfl, ?_⟩
    rw [show its.toArray.any (eqU x) = its.any (eqU x) by simp, xm r fs]
    exact q
theorem ze : Yk X (.builtin "len") (fun xs H Q => ∃ p ys, xs = [.ref p] /\ (SqL X.K H p ys ∨ SqT X.K H p ys) /\ Q (.int ys.length) H) := by
  intro pins s σ H xs us Q I r h
  obtain ⟨p, ys, rfl, hq, q⟩ := h
  obtain ⟨u, rfl, rx⟩ := yX r
  cases rx
  have hn := US
  rcases hq with hq | hq
  . obtain ⟨its, r', pl, hz⟩ := I.list hq
    have hlen := r'.length
    exact Calls.call_len_list pl.isList (by simp only [List.size_toArray] <;> omega) ⟨.int ys.length, H, I.tok _, ⟨s.toks + 1, by rw [List.size_toArray, hlen]⟩, q⟩
  . obtain ⟨its, r', pl, hz⟩ := I.tuple hq
    have hlen := r'.length
    exact len_tuple pl (by simp only [List.size_toArray] <;> omega) ⟨.int ys.length, H, I.tok _, ⟨s.toks + 1, by rw [List.size_toArray, hlen]⟩, q⟩
theorem Ka : Yk X (.type "list") (fun xs H Q => ∃ p ys, xs = [.ref p] /\ (SqL X.K H p ys ∨ SqT X.K H p ys) /\ ∀ l, H l = none -> Q (.ref l) (upd H l (.lst ys))) := by
  intro pins s σ H xs us Q I r h
  obtain ⟨p, ys, rfl, hq, q⟩ := h
  obtain ⟨u, rfl, rx⟩ := yX r
  cases rx
  have fin : ∀ (its : List Value), Vals ys its -> ys.length <= sizeLine -> ∀ (h' : Heap) (c' : Nat), (∀ b o', s.heap.get? b = some o' -> h'.get? b = some o') ->
      h'.get? s.heap.objs.size = some { cls := .type "list", dict := none, data := .seq its.toArray c', slots := #[] } -> EP X pins σ Q (.ref s.heap.objs.size) { s with heap := h' } := fun its r' hz h' c' kp e =>
    ⟨.ref s.heap.objs.size, _, I.laid (t' := s.toks) kp (Nat.le_refl _) (show ObjOk X.prog X.w _ h' _ (.lst ys) from ⟨hz, its, c', r', e⟩), rfl, q _ (I.hok.fresh (Nat.le_refl _))⟩
  rcases hq with hq | hq
  . obtain ⟨its, r', pl, hz⟩ := I.list hq
    have hlen := r'.length
    obtain ⟨o, ho, hc, n, hd⟩ := pl.isList
    exact call_list_seq p (.inl rfl) ho hc hd (fun h' c' kp e => fin its r' hz h' c' kp e) (by simp only [List.size_toArray] <;> omega)
  . obtain ⟨its, r', pl, hz⟩ := I.tuple hq
    have hlen := r'.length
    obtain ⟨o, ho, hc, n, hd⟩ := pl
    exact call_list_seq p (.inr rfl) ho hc hd (fun h' c' kp e => fin its r' hz h' c' kp e) (by simp only [List.size_toArray] <;> omega)
theorem qf : Yk X (.type "tuple") (fun xs H Q => ∃ p ys, xs = [.ref p] /\ ((SqL X.K H p ys /\ ∀ l, H l = none -> Q (.ref l) (upd H l (.tup ys))) ∨ (SqT X.K H p ys /\ Q (.ref p) H))) := by
  intro pins s σ H xs us Q I r h
  obtain ⟨p, ys, rfl, h⟩ := h
  obtain ⟨u, rfl, rx⟩ := yX r
  cases rx
  rcases h with ⟨hq, q⟩ | ⟨hq, q⟩
  . obtain ⟨its, r', pl, hz⟩ := I.list hq
    have hlen := r'.length
    refine call_tuple_list pl.isList (fun h' kp => ?_) (by simp only [List.size_toArray] <;> omega)
    have I1 : Inv X pins σ H { s with heap := h' } := I.kept (t' := s.toks) kp
    have I2 : Inv X pins σ (upd H h'.objs.size (.tup ys)) { s with heap := h'.push { cls := .type "tuple", data := .seq its.toArray } } :=
      I1.laid (t' := s.toks) (fun b o e => Heap.get?_push_of_some _ e) (Nat.le_refl _) (show ObjOk X.prog X.w _ _ _ (.tup ys) from ⟨hz, its, r', IsTup.new _ _⟩)
    exact ⟨.ref h'.objs.size, _, I2, rfl, q _ (I1.hok.fresh (Nat.le_refl _))⟩
  . obtain ⟨its, r', pl, hz⟩ := I.tuple hq
    exact call_tuple_same pl ⟨.ref p, H, I, rfl, q⟩
def tyV (K : PySem.W.Frag) (T : String) (x : V) (H : Hp) : Prop := match x with
  | .str _ => T = "str"
  | .int _ => T = "int"
  | .ref p => (T = "list" /\ ∃ xs, SqL K H p xs) ∨ (T = "tuple" /\ ∃ o, K.lookup p = some o /\ o.cls = .type "tuple" /\ o.dict = none) ∨
      (T = "dict" /\ ((∃ kvs, H p = some (.dK kvs)) ∨ ∃ kvs, H p = some (.dT kvs))) ∨ (T = "set" /\ ∃ S n, H p = some (.set S n))
  | _ => False
theorem Qdu {pins : List (Addr × Obj)} {σ : St} {H : Hp} {s : Shared} {T : String} {x : V} {v : Value} (I : Inv X pins σ H s) (r : RelV x v) (ty : tyV X.K T x H) :
    s.TypeIs v T /\ ∀ a, v = .ref a -> ∃ ob, s.heap.get? a = some ob /\ ob.dict = none := by
  cases x with
  | str z =>
    obtain ⟨t, rfl⟩ := r
    cases (show T = "str" from ty)
    exact ⟨typeIs_str s z t, fun _ e => nomatch e⟩
  | int i =>
    obtain ⟨t, rfl⟩ := r
    cases (show T = "int" from ty)
    exact ⟨typeIs_int s i t, fun _ e => nomatch e⟩
  | ref p =>
    cases r
    rcases ty with ⟨rfl, xs, hq⟩ | ⟨rfl, o, hk, hc, hd⟩ | ⟨rfl, hk⟩ | ⟨rfl, S, n, hk⟩
    . obtain ⟨its, _, pl, _⟩ := I.list hq
      refine ⟨pl.isList.typeIs, fun a e => ?_⟩
      cases e
      obtain ⟨o, n, e, c, hd, _⟩ := pl
      exact ⟨o, e, hd⟩
    . refine ⟨⟨o, I.kIn p o hk, hc⟩, fun a e => ?_⟩
      cases e
      exact ⟨o, I.kIn _ o hk, hd⟩
    . have z : ∃ o, s.heap.get? p = some o /\ o.ExactDict := by
        rcases hk with ⟨kvs, hk⟩ | ⟨kvs, hk⟩
        . obtain ⟨_, _, _, _, o, _, _, e, ex, _⟩ := I.hok p _ hk
          exact ⟨o, e, ex⟩
        . obtain ⟨_, _, _, _, o, _, _, e, ex, _⟩ := I.hok p _ hk
          exact ⟨o, e, ex⟩
      obtain ⟨o, e, ex⟩ := z
      refine ⟨⟨o, e, ex.1⟩, fun a e2 => ?_⟩
      cases e2
      exact ⟨o, e, ex.2.1⟩
    . obtain ⟨o, _, _, _, e, ex, _⟩ := I.hok p _ hk
      refine ⟨⟨o, e, ex.1⟩, fun a e2 => ?_⟩
      cases e2
      exact ⟨o, e, ex.2.1⟩
  | _ => exact False.elim ty
def tBM (K : PySem.W.Frag) (T : String) (r : V -> List V -> Hp -> VK -> Prop) (to : TE) (t : TA) : TE := fun σ H Q => to σ H fun x H1 => tyV K T x H1 /\ t σ H1 fun xs H2 => r x xs H2 Q
variable {o e : Expr} {es : List Expr} {to : TE} {t : TA} {name : Str} {apos cpos : Pos} {T id : String} {r : V -> List V -> Hp -> VK -> Prop}
theorem Qez (pa : PlainAttrs T) (slot : Slot T name id) (hty : typeOf (.builtin id) = pure (.type "method_descriptor")) (hm : MtR X id r) (ho : PE X o to) (ha : PA X (e :: es) t)
    (hbase : attributeBase o name X.env (eval o X.env) = eval o X.env := by rfl)
    (hfew : ((backTo cpos (starEach (e :: es) X.env)).all (fun x => !x.1) && (backToKw cpos (keywordEach [] X.env)).all (fun x => x.1.isSome)
      && decide ((e :: es).length + ([] : List Keyword).length + (if ([] : List Keyword).isEmpty then 0 else 1) < 30)) = true := by rfl)
    (hline : (apos.endLine == cpos.line) = true := by rfl) (hs : starEach (e :: es) X.env = (false, eval e X.env) :: starEach es X.env := by rfl) (hplain : (backTo cpos (starEach es X.env)).any (·.1) = false := by rfl) :
    PE X (.Call (.Attribute o name apos) (e :: es) [] cpos) (tBM X.K T r to t) := by
  intro pins s σ H Q I h
  refine wpAny_Call_method_late hbase hfew hline rfl (thn (ho pins s σ H _ I h) fun v s1 ⟨x, H1, I1, r1, ty, q1⟩ => ?_)
  obtain ⟨h1, h2⟩ := Qdu I1 r1 ty
  refine ⟨T, id, pa, slot, hty, h1, h2, ?_⟩
  have hA := ha cpos pins s1 σ H1 _ I1 q1
  rw [hs] at hA ⊢
  refine Calls.callWith_builtin (by show (false || (backTo cpos (starEach es X.env)).any (·.1)) = false; rw [hplain] <;> rfl) (Calls.evalArgs_plain ?_)
  exact thn hA fun us s2 ⟨vs, H2, I2, r2, q2⟩ => hm pins s2 σ H2 x vs v us Q I2 r1 r2 q2
/- xs.append(e), list.index on a module's tuple .. are MtR facts of 06m -/
end
end L2
namespace L2
open PySem PySem.Spec PyProof.Rows
def MtM (X : Cx) (id : String) (r : V -> List V -> Hp -> VK -> Prop) : Prop :=
  ∀ (pins : List (Addr × Obj)) (s : Shared) (σ : St) (H : Hp) (x : V) (xs : List V) (v : Value) (us : List Value) (Q : VK), Inv X pins σ H s -> RelV x v -> Vals xs us -> r x xs H Q ->
    wpAny (model X.prog X.w) X.A (call (.builtin id) (v :: us)) (EP X pins σ Q) X.xe s
theorem Vals.one : ∀ {x : V} {us : List Value}, Vals [x] us -> ∃ u, us = [u] /\ RelV x u
  | _, _, .cons r .nil => ⟨_, rfl, r⟩
section
variable {X : Cx} {pins : List (Addr × Obj)} {σ : St} {H : Hp} {s : Shared} {l b : Addr} {xs ys zs : List V}
theorem Inv.lset {its its' : List Value} {n : Nat} {f : Array Value -> Array Value} {t' : Nat} (I : Inv X pins σ H s) (hH : H l = some (.lst xs))
    (e : s.heap.get? l = some { cls := .type "list", data := .seq its.toArray n }) (hf : f its.toArray = its'.toArray) (hv : Vals ys its') (hz : ys.length <= sizeLine) :
    Inv X pins σ (upd H l (.lst ys)) { s with heap := s.heap.update l (Obj.mapSeq f), toks := t' } := by
  have q := PySem.IsL.update e f
  rw [hf] at q
  refine I.write (x := l) (e := l) (by rw [hH]; exact trivial) (.inl rfl) (fun b' u hb hu => (Heap.get?_update_other s.heap (Obj.mapSeq f) (Ne.symm hb)).trans hu) ⟨_, q⟩ ?_
  exact ⟨hz, its', _, hv, q⟩
theorem Inv.lnew {its : List Value} {t' : Nat} (I : Inv X pins σ H s) (hv : Vals ys its) (hz : ys.length <= sizeLine) :
    Inv X pins σ (upd H s.heap.objs.size (.lst ys)) { s with heap := s.heap.push { cls := .type "list", data := .seq its.toArray }, toks := t' } :=
  I.laid (fun _ _ q => Heap.get?_push_of_some _ q) (Nat.le_refl _) ⟨hz, its, 0, hv, Heap.get?_push_size _ rfl⟩
theorem Inv.fresh (I : Inv X pins σ H s) : H s.heap.objs.size = none := I.hok.fresh (Nat.le_refl _)
theorem Inv.lstM (I : Inv X pins σ H s) (hH : H l = some (.lst xs)) : xs.length <= sizeLine /\ ∃ (its : List Value) (n : Nat), Vals xs its /\ xs.length = its.length /\ s.heap.get? l = some { cls := .type "list", data := .seq its.toArray n } := by
  obtain ⟨z, its, n, r, e⟩ := I.hok l _ hH
  exact ⟨z, its, n, r, r.length, e⟩
theorem Qa4 {n : Nat} (h : n <= sizeLine) : Builtin.List.listTooLong n = false := by
  unfold Builtin.List.listTooLong
  exact decide_eq_false (by omega)
end
section
variable {X : Cx}
def Qca : V -> List V -> Hp -> VK -> Prop := fun x vs H Q => ∃ l xs y, x = .ref l /\ vs = [y] /\ H l = some (.lst xs) /\ xs.length < sizeLine /\ Q .non (upd H l (.lst (xs ++ [y])))
theorem UA : MtM X "list.append" Qca := by
  intro pins s σ H x vs v us Q I rx rv h
  obtain ⟨l, xs, y, rfl, rfl, hH, hz, q⟩ := h
  cases rx
  obtain ⟨u, rfl, ru⟩ := rv.one
  obtain ⟨z, its, n, r, hl, e⟩ := I.lstM hH
  refine call_meets F.slot_list_append ⟨_, e, rfl⟩ F.entry_list_append (F.args_list_append_2 _ _) (PySem.list_append l its.toArray n u (by rw [List.size_toArray]; omega)) ⟨e, ?_⟩
  refine ⟨.non, _, I.lset (its' := its ++ [u]) hH e (by simp) (r.append (.cons ru .nil)) ?_, rfl, q⟩
  rw [List.length_append, List.length_singleton]
  omega
def QbE : V -> List V -> Hp -> VK -> Prop := fun x vs H Q => ∃ l b xs zs, x = .ref l /\ vs = [.ref b] /\ H l = some (.lst xs) /\ H b = some (.lst zs) /\ xs.length + zs.length <= sizeLine /\ Q .non (upd H l (.lst (xs ++ zs)))
theorem u7 : MtM X "list.extend" QbE := by
  intro pins s σ H x vs v us Q I rx rv h
  obtain ⟨l, b, xs, zs, rfl, rfl, hH, hB, hz, q⟩ := h
  cases rx
  obtain ⟨u, rfl, ru⟩ := rv.one
  cases ru
  obtain ⟨z, its, n, r, hl, e⟩ := I.lstM hH
  obtain ⟨z2, its2, n2, r2, hl2, e2⟩ := I.lstM hB
  have hsz : its.toArray.size + its2.toArray.size <= sizeLine := by rw [List.size_toArray, List.size_toArray]; omega
  have hlong : ¬ (!its.toArray.isEmpty && Builtin.List.listTooLong (its.toArray.size + its2.toArray.size)) = true := by
    rw [Qa4 hsz, Bool.and_false]
    exact Bool.false_ne_true
  refine call_meets F.slot_list_extend ⟨_, e, rfl⟩ F.entry_list_extend (F.args_list_extend_2 _ _)
    (AutoSeq1.list_extend_list_list_0 l its.toArray n b its2.toArray n2 hlong (by rw [List.size_toArray]; omega) (by omega)) ⟨e, e2, ?_⟩
  refine ⟨.non, _, I.lset (its' := its ++ its2) hH e (by simp) (r.append r2) ?_, rfl, q⟩
  rw [List.length_append]
  omega
end
section
variable {prog : Program} {w : World} {A : Around} {E : Value -> Shared -> Prop} {s : Shared}
end
section
variable {X : Cx}
end
end L2
namespace Att
open PySem PySem.W PySem.Calls PyProof.Rows
theorem yy {P : Params} {h : Heap} : ∀ (ns : List Int) (vs : List Value), WellAll P h vs (ns.map WData.int) -> IntsAre vs ns := by
  intro ns
  induction ns with
  | nil =>
    intro vs w
    rw [List.map_nil] at w
    cases w
    exact .nil
  | cons n ns ih =>
    intro vs w
    rw [List.map_cons] at w
    cases w with
    | cons a b =>
      cases a
      exact .cons _ _ (ih _ b)
theorem uQ {l : OpenLaw} {n : Nat} (hn : l.most = some n) {P : Params} {h : Heap} {args : List WData} {vals : List Value}
    (hpre : l.row.toRowW.claim.pre args = true) (hwl : WellAll P h vals args) :
    ∃ a vs ns, vals = [Value.ref a] /\ args = [WData.list (ns.map WData.int)] /\ h.get? a = some { cls := .type "list", data := .seq vs.toArray } /\ IntsAre vs ns /\ ns.length <= n := by
  have hsh : WShape.hasAll [] args [.list .int] = true := (pre_splitW hpre).1
  have hc : l.pre.holds [] { args := args } = true := (pre_splitW hpre).2
  obtain ⟨d, r, rfl, h1, h2⟩ := hasAllW_cons hsh
  obtain rfl := hasAllW_nil h2
  obtain ⟨xs, rfl, h3⟩ := hasW_list h1
  obtain ⟨ns, rfl⟩ := items_int h3
  have hlen : ns.length <= n := by
    unfold OpenLaw.pre at hc
    have h4 : (WTm.not (.lt (.lit (.int (n : Int))) (.len (.arg 0)))).holds [] { args := [.list (ns.map .int)] } = true := by
      have h4 := (holds_andW hc).1
      rw [hn] at h4
      exact h4
    have h5 := condW_of h4 (w_not (w_lt w_lit (w_len_list (w_arg rfl))))
    rw [List.length_map] at h5
    refine Nat.le_of_not_lt fun q => ?_
    have q' : (n : Int) < ((ns.length : Nat) : Int) := by omega
    first
      | (rw [decide_eq_true q'] at h5; exact absurd h5 (by decide))
      | (simp at h5; omega)
  cases hwl with
  | cons w1 w2 =>
    cases w2
    cases w1 with
    | list ho hall => exact ⟨_, _, ns, rfl, rfl, ho, yy ns _ hall, hlen⟩
theorem uV (l : OpenLaw) (args : List WData) : l.row.toRowW.claim.post args (.bool true) args = true :=
  postW_of (r := l.row.toRowW) (X := (true == true))
    (show WShape.has [] (.bool true) .bool = true by first | rfl | decide | simp [WShape.has, WShape.arms, WShape.armsAll])
    (show (WTm.eq .res (.lit (.bool true))).value [] { args := args, res := some (.bool true), after := args } = some (.bool (true == true)) from w_eq_bool (w_res rfl) w_lit) rfl
theorem attach_call {l : OpenLaw} {n : Nat} {q : Program} {loose : List Str} {XP : (Str -> Option Value) -> Heap -> Prop} {YP : World -> Heap -> Prop} {d : DefRec}
    (hn : l.most = some n) (hdf : d.params.defaults = [])
    (call : ∀ (w : World) (s₀ s₁ : Shared) (mg mb : Str -> Option Value) (fa : Addr) (o : Obj) (pm cd doc : Value) (a : Addr) (vs : List Value) (ns : List Int),
      Ground q loose [] XP w s₀ mg mb s₁.heap -> YP w s₁.heap ->
      s₁.heap.get? fa = some o -> o.data = .func (docDef d.name d.params d.body d.scope pm cd doc) -> s₁.heap.CodeRec cd d.name -> mg d.name = some (.ref fa) ->
      s₁.heap.get? a = some { cls := .type "list", data := .seq vs.toArray } -> IntsAre vs ns -> ns.length <= n -> s₁.gens = #[] ->
      codeAny (model l.prog w) callerA (.call (.ref fa) ⟨[.ref a], []⟩) (fun r s' => r = .ok (.ret (.bool true)) /\ OldK s₁.heap s'.heap /\ s'.os = s₁.os /\ AllBare s'.gens) s₁) :
    WalkO q loose XP YP l.row.toRowW d [] (fun f vs => PySem.call f vs) := by
  intro w s₀ s₁ mg mb G Y fa o pm cd doc dV kV ho hd hcd hD hmg hg args vals as hpre hlay hrd hwl hlo
  obtain rfl : dV = .none := Dflts.none hD hdf
  obtain rfl : kV = .none := Dflts.noKw hD
  obtain ⟨a, vs, ns, rfl, rfl, hobj, hints, hlen⟩ := uQ hn hpre hwl
  refine enter_call (codeAny_mono (call w s₀ s₁ mg mb fa o pm cd doc a vs ns G Y ho (fd_plain hd) hcd hmg hobj hints hlen hg) fun r s' hq => ?_)
  obtain ⟨rfl, h2, h3, h4⟩ := hq
  exact ⟨.inl ⟨.bool true, .bool true, [], rfl, fun _ => rfl, .bool true, uV l _, fun _ => ⟨List.Pairwise.nil, fun _ hm => (nomatch hm)⟩⟩, h2, h3, h4⟩
section
variable {prog : Program} {w : World} {A : Around} {E : Value -> Shared -> Prop} {s : Shared} {K : Frag}
def Qfi (h : Heap) (L d : Addr) : List (Addr × Obj) := (List.range h.objs.size).filterMap fun a => if a = L ∨ a = d then none else (h.get? a).map fun o => (a, o)
end
end Att
namespace L2
open PySem PySem.Spec PyProof.Rows
theorem Uf : ∀ {vs : List Value} {ns : List Int}, IntsAre vs ns -> Vals (ns.map V.int) vs
  | _, _, .nil => .nil
  | _, _, .cons n t h => .cons ⟨t, rfl⟩ (Uf h)
def QdP (H : Hp) : Prop := ∀ b, H b = none ∨ ∃ o xs, H b = some (.frz o (.lst xs))
theorem kU {P : Program} {w : World} {K : PySem.W.Frag} {mg mb : Str -> Option Value} {CX : CXT} {k : Nat} {fa a : Addr} {fd : FuncData} {x : Str} {sp : Sp} {s₁ : Shared} {vs : List Value} {ns : List Int}
    (KX : K.In s₁.heap) (hns : s₁.heap.Ns mainGlobals mg) (hb : s₁.heap.Ns builtinsNs mb) (hbb : ∀ x : Str, x ≠ "__name__" -> mb x = bootBuiltins x) (hlim : s₁.heap.NoLimit) (hg : s₁.gens = #[])
    (ha : s₁.heap.get? a = some { cls := .type "list", data := .seq vs.toArray }) (hi : IntsAre vs ns) (hl : ns.length <= sizeLine) (hr : Room k callerA)
    (F : ∀ base : Heap, K.In base -> base.Ns mainGlobals mg -> zF P w K mg base CX k fa fd [x] sp) (hbind : ∀ (s : Shared) (u : Value), BindsTo s fd ⟨[u], []⟩ [(x, u)])
    (hsp : ∀ H : Hp, QdP H -> SqL K H a (ns.map V.int) -> sp [.ref a] H (fun v _ => v = .bl true) fun _ _ _ => False)
    (hCX : ∀ H e s', CX [] H s₁ (fun _ _ _ => False) e s' -> False) :
    codeAny (model P w) callerA (.call (.ref fa) ⟨[.ref a], []⟩) (fun r s' => r = .ok (.ret (.bool true)) /\ OldK s₁.heap s'.heap /\ s'.os = s₁.os /\ AllBare s'.gens) s₁ := by
  have rv := Uf hi
  have lenV := hi.length
  have core : ∀ H : Hp, QdP H -> SqL K H a (ns.map V.int) -> HOk P w H s₁.heap -> (∀ b, H b ≠ none -> b = a) -> (H a ≠ none -> K.lookup a = none) ->
      codeAny (model P w) callerA (.call (.ref fa) ⟨[.ref a], []⟩) (fun r s' => r = .ok (.ret (.bool true)) /\ OldK s₁.heap s'.heap /\ s'.os = s₁.os /\ AllBare s'.gens) s₁ := by
    intro H hO hS hok hA hK
    have base_of : ∀ {b : Addr} {o : Obj}, s₁.heap.get? b = some o -> H b = none -> (UI s₁.heap H).get? b = some o := fun e n => QaN e n
    have noA : ∀ {b : Addr} {o : Obj} {es : Array DictEntry} {ep : Nat}, s₁.heap.get? b = some o -> o.data = .dict es ep -> H b = none := fun {b o es ep} e d => by
      cases q : H b with
      | none => rfl
      | some u =>
        have e' : b = a := hA b (by rw [q]; simp)
        subst e'
        rw [ha] at e; cases e
        have d' : Data.seq vs.toArray _ = Data.dict es ep := d
        cases d'
    have nsK : ∀ {b : Addr} {m : Str -> Option Value}, s₁.heap.Ns b m -> (UI s₁.heap H).Ns b m := fun {b m} ⟨o, es, ep, e, d, r⟩ => ⟨o, es, ep, base_of e (noA e d), d, r⟩
    have hKb : K.In (UI s₁.heap H) := fun b o e => base_of (KX b o e) (by
      cases q : H b with
      | none => rfl
      | some u =>
        have e' : b = a := hA b (by rw [q]; simp)
        subst e'
        rw [hK (by rw [q]; simp)] at e; cases e)
    have hM : Mod K mg (UI s₁.heap H) := ⟨hKb, nsK hns, ⟨mb, nsK hb, hbb⟩, let ⟨mc, h1, h2⟩ := hlim; ⟨mc, nsK h1, h2⟩⟩
    have e0 : Env0 P w K mg (UI s₁.heap H) callerA [] s₁ H := ⟨rfl, hM, fun b o e => Qch e, Nat.le_of_eq (gx _ _), trivial, fun b hb => absurd (show b ∈ ([] : List Addr) from hb) (by simp), hok, .of_eq hg⟩
    refine codeAny_mono ((F _ hKb (nsK hns)).run callerA [] s₁ H ⟨[.ref a], []⟩ [.ref a] [.ref a] _ _ hr e0 (hbind s₁ (.ref a)) (.cons rfl .nil) (hsp H hO hS)) fun r s' h => ?_
    cases r with
    | error e => exact (hCX H e s' h).elim
    | ok fl =>
      cases fl with
      | next => exact False.elim h
      | brk => exact False.elim h
      | cont => exact False.elim h
      | ret u =>
        obtain ⟨v, H', os, bare, un, hok', r', q⟩ := h
        have q' : v = .bl true := q
        subst q'
        obtain rfl : u = Value.bool true := r'
        refine ⟨rfl, OldK.of_keep fun b o e => ?_, os, bare⟩
        cases q : H b with
        | none => exact un.keep b o e q (by intro z; exact absurd (show b ∈ ([] : List Addr) from z) (by simp)) (by simp)
        | some u =>
          rcases hO b with z | ⟨ob, xs, z⟩
          . rw [q] at z; cases z
          . have z2 := un.frzs b ob _ z
            obtain ⟨e1, _⟩ := hok b _ z
            obtain ⟨e2, _⟩ := hok' b _ z2
            rw [e] at e1; cases e1
            exact e2
  cases hk : K.lookup a with
  | some o =>
    have e := KX a o hk
    rw [ha] at e
    cases e
    refine core (fun _ => none) (fun _ => .inl rfl) (.inr ⟨_, vs.toArray, _, hk, rfl, rfl, rfl, by rw [List.size_toArray, lenV]; exact hl, by simpa using rv⟩) (fun b u z => by have z' : (none : Option HO) = some u := z; cases z') (fun b z => absurd rfl z) fun z => absurd rfl z
  | none =>
    refine core (fun b => if b = a then some (.frz { cls := .type "list", data := .seq vs.toArray } (.lst (ns.map V.int))) else none) (fun b => ?_) (.inl (.inr ⟨{ cls := .type "list", data := .seq vs.toArray }, if_pos rfl⟩)) (fun b u z => ?_) (fun b z => ?_) fun _ => hk
    . by_cases hb : b = a
      . exact .inr ⟨_, _, if_pos hb⟩
      . exact .inl (if_neg hb)
    . by_cases hb : b = a
      . have z' := (if_pos hb).symm.trans z
        cases z'
        subst hb
        exact ⟨ha, by rw [List.length_map]; exact hl, vs, _, rv, ha⟩
      . have z' := (if_neg hb).symm.trans z
        cases z'
    . by_cases hb : b = a
      . exact hb
      . exact absurd (if_neg hb) z
end L2
namespace L2
open PySem PySem.Spec PyProof.Rows
theorem uj {l : PySem.W.OpenLaw} {n k : Nat} {q : Program} {loose : List Str} {XP : (Str -> Option Value) -> Heap -> Prop} {YP : World -> Heap -> Prop} {d : DefRec} {K : Params -> PySem.W.Frag} {CX : World -> CXT} {sp : World -> Sp} {x : Str}
    (hn : l.most = some n) (hn2 : n <= sizeLine) (hdf : d.params.defaults = []) (hr : Room k callerA)
    (hY : ∀ (w : World) (h : Heap), YP w h -> (K w.params).In h)
    (F : ∀ (w : World) (mg : Str -> Option Value) (fa : Addr) (h : Heap), (K w.params).In h -> h.Ns mainGlobals mg -> mg d.name = some (.ref fa) ->
      ∃ fd : FuncData, (∀ (s : Shared) (u : Value), BindsTo s fd ⟨[u], []⟩ [(x, u)]) /\
        ∀ base : Heap, (K w.params).In base -> base.Ns mainGlobals mg -> zF l.prog w (K w.params) mg base (CX w) k fa fd [x] (sp w))
    (hsp : ∀ (w : World) (H : Hp) (a : Addr) (ns : List Int), ns.length <= n -> QdP H -> SqL (K w.params) H a (ns.map V.int) -> sp w [.ref a] H (fun v _ => v = .bl true) fun _ _ _ => False)
    (hCX : ∀ (w : World) (H : Hp) (s : Shared) (e : Value) (s' : Shared), CX w [] H s (fun _ _ _ => False) e s' -> False) :
    PySem.W.WalkO q loose XP YP l.row.toRowW d [] (fun f vs => PySem.call f vs) := by
  refine Att.attach_call hn hdf fun w s₀ s₁ mg mb fa o pm cd doc a vs ns G Y ho hd hcd hmg hobj hints hlen hg => ?_
  have KX := hY w _ Y
  obtain ⟨fd, hb, hF⟩ := F w mg fa _ KX G.T.g hmg
  exact kU KX G.T.g G.T.b G.T.builtins G.T.nolimit hg hobj hints (Nat.le_trans hlen hn2) hr hF hb (fun H hO hS => hsp w H a ns hlen hO hS) fun H e s' => hCX w H s₁ e s'
end L2
/- THE LAST THEOREM (shape; LID, My.* are yours):
   My.Adr: a structure of the addresses that your layer names (classes, functions); My.Txt K t: a structure (Prop) of the equations over K;
   My.txt_mk : {K} {implicit addresses ..} (e1 : nsIn K mainGlobals "law" = some (some (.ref f))) (e2 : K.lookup f = some ⟨oc, od, .func (fnOf "law" "law" params body scope dV kV doc pm an cdv ct), sl⟩) (e3 : codeIn K cdv "law" = true) .. : ∃ t, My.Txt K t
set_option maxRecDepth 100000 in
set_option maxHeartbeats 0 in
theorem PySem.Challenge.cw_LID_holds : PySem.Challenge.rw_LID.Holds := by
  w_on; o_law; k_head; (case hw => w_witness2)
  k_fill
  refine L2.uj (l := PySem.Challenge.rw_LID) (n := 63) (k := 40) (x := "script") (CX := fun w => ..) (sp := fun _ => My.sp_law) rfl (by decide) rfl ⟨rfl, by decide, by decide⟩ (fun w h Y => PySem.W.kIn_of Y) ?F ?S ?C
  case F =>
    intro w mg fa h KX G hmg
    have T : ∃ t, My.Txt (L2.KOf KX) t := by
      dsimp only [L2.KOf]                          -- K must stand as «<heap const> w.params» for k_is
      refine' My.txt_mk ?e1 ?e2 ?e3 ..
      (case e1 => PySem.W.k_is)                    -- in the order: a name -> its address -> its object -> its parts
      (case e2 => PySem.W.k_is)
      ..
    obtain ⟨t, T⟩ := T
    have e0 := hmg.symm.trans (PySem.W.mg_of KX G T.law)
    cases e0                                       -- fa is the law's own address
    exact ⟨_, fun s u => .of_eq rfl, fun base kb nb => My.law_fn T kb nb⟩     -- if «.of_eq rfl» comes too early: refine' ⟨_, ?b, fun base kb nb => My.law_fn T kb nb⟩; exact fun s u => .of_eq rfl
  case S => exact fun w H a ns hl hO hS => ..
  case C => exact ..
(the tactic k_is has no namespace: write k_is) -/
namespace L2
open PySem PySem.Spec PyProof.Rows
def ZH (s : Stmt) (j : Nat) : Stmt := match s with
  | .ClassDef _ _ _ body _ _ _ _ _ _ _ => body.getD j (.Pass ⟨0, 0, 0, 0⟩)
  | _ => .Pass ⟨0, 0, 0, 0⟩
def Qz (s : Stmt) : Arguments := match s with
  | .FunctionDef _ a _ _ _ _ _ _ _ _ => a
  | _ => { posonlyargs := [], args := [], vararg := none, kwonlyargs := [], kw_defaults := [], kwarg := none, defaults := [] }
def Qt (s : Stmt) : List Stmt := match s with
  | .FunctionDef _ _ b _ _ _ _ _ _ _ => b
  | _ => []
def Qk (s : Stmt) : Scope := match s with
  | .FunctionDef _ _ _ _ _ _ sc _ _ _ => sc
  | _ => { kind := .function, names := [], isGenerator := false, isCoroutine := false }
abbrev CX0 : CXT := fun _ _ _ _ _ _ => False
abbrev E0 : XK := fun _ _ _ => False
theorem QA {X : Cx} : qj CX0 X E0 := fun _ _ _ _ _ _ _ h => h.elim
structure Fun (K : PySem.W.Frag) (x qual : Str) (st : Stmt) (f : Addr) (fd : FuncData) : Prop where
  ex : ∃ (oc : Value) (od : Option Addr) (kV doc pm : Value) (an : Option Addr) (cdv ct : Value) (osl : Array (Option Value)),
    fd = PySem.W.fnOf x qual (Qz st) (Qt st) (Qk st) .none kV doc pm an cdv ct /\ K.lookup f = some ⟨oc, od, .func fd, osl⟩ /\ PySem.W.codeIn K cdv qual = true
  kp : PySem.W.keepIn K (.ref f) = true
section
variable {P : Program} {w : World} {K : PySem.W.Frag} {mg : Str -> Option Value} {base : Heap}
theorem Fun.ok {x qual : Str} {st : Stmt} {f : Addr} {fd : FuncData} {N ps : List Str} {k : Nat} {sp : Sp} (F : Fun K x qual st f fd) (S : Qx N ps (Qk st)) (len : ∀ vs H Q E, sp vs H Q E -> vs.length = ps.length)
    (hbody : ∀ (cdv : Value) (A : Around) (outer : List Env) (s : Shared) (H : Hp) (vs : List V) (Q : VK) (E : XK), Room k (A.deeper (envOfC qual (Qk st) s.heap.objs.size f cdv)) -> sp vs H Q E ->
      ∃ t, PSs (Vd CX0 P w K mg base N qual (Qk st) f cdv A outer s H E).nox (Qt st) t /\ t { nx := fun _ H' => Q .non H', rt := Q } (start N vs) H) : zF P w K mg base CX0 (k + 1) f fd ps sp := by
  obtain ⟨oc, od, kV, doc, pm, an, cdv, ct, osl, rfl, lk, hcd⟩ := F.ex
  refine Qd6 lk hcd S len fun A outer s H vs Q E hr hsp => ?_
  obtain ⟨t, h, q⟩ := hbody cdv A outer s H vs Q E hr hsp
  exact ⟨t, h.nox, q⟩
theorem Fun.binds {x qual : Str} {st : Stmt} {f : Addr} {fd : FuncData} {ps : List Str} (F : Fun K x qual st f fd)
    (h : ∀ (kV doc pm : Value) (an : Option Addr) (cdv ct : Value) (us : List Value), us.length = ps.length -> bindArgs (PySem.W.fnOf x qual (Qz st) (Qt st) (Qk st) .none kV doc pm an cdv ct) ⟨us, []⟩ = pure (ps.zip us)) : Binds K fd ps [] := by
  obtain ⟨oc, od, kV, doc, pm, an, cdv, ct, osl, rfl, lk, hcd⟩ := F.ex
  exact .all (h kV doc pm an cdv ct)
theorem QO {x qual : Str} {st : Stmt} {f : Addr} {oc : Value} {od an : Option Addr} {osl : Array (Option Value)} {kV doc pm cdv ct : Value} (l : K.lookup f = some ⟨oc, od, .func (PySem.W.fnOf x qual (Qz st) (Qt st) (Qk st) .none kV doc pm an cdv ct), osl⟩)
    (c : PySem.W.codeIn K cdv qual = true) (k : PySem.W.keepIn K (.ref f) = true) : Fun K x qual st f (PySem.W.fnOf x qual (Qz st) (Qt st) (Qk st) .none kV doc pm an cdv ct) := ⟨⟨oc, od, kV, doc, pm, an, cdv, ct, osl, rfl, l, c⟩, k⟩
end
theorem QL {A : Around} {k : Nat} (hr : Room k A) : A.units + 1 < cLine := Nat.lt_of_le_of_lt (Nat.add_le_add_left (by decide : 1 <= 64) _) hr.units
section
variable {X : Cx}
theorem pv (i : Nat) {x : Str} {pos : Pos} (hN : X.N[i]? = some x := by rfl) (hv : Vis X.env.scope x := by first | exact Or.inl rfl | exact Or.inr (Or.inl rfl) | exact Or.inr (Or.inr rfl)) (hd : (x == ("__debug__" : Str)) = false := by decide)
    (hcd : (x == ("__classdict__" : Str)) = false := by decide) : PE X (.Name x pos) (Qd9 i) := gX hN hv hd hcd
end
theorem Kq {A B : Prop} (h : B) : if false = true then A else B := by
  rw [if_neg Bool.false_ne_true]
  exact h
theorem UT {A B : Prop} (h : A) : if true = true then A else B := by
  rw [if_pos rfl]
  exact h
end L2
set_option maxHeartbeats 4000000
namespace L2
open PySem PySem.Spec PyProof.Rows
section
variable {κ : Type} [DecidableEq κ]
def qm (kvs : List (κ × V)) (k : κ) : Option V := (kvs.find? fun kv => decide (kv.1 = k)).map (·.2)
def jY (kvs : List (κ × V)) (k : κ) (v : V) : List (κ × V) :=
  if (kvs.any fun kv => decide (kv.1 = k)) = true then kvs.map (fun kv => if kv.1 = k then (kv.1, v) else kv) else kvs ++ [(k, v)]
theorem Vq {p : κ × V} {r : List (κ × V)} {k : κ} (e : p.1 = k) : qm (p :: r) k = some p.2 := by simp [qm, List.find?_cons, e]
theorem VA {p : κ × V} {r : List (κ × V)} {k : κ} (e : ¬ p.1 = k) : qm (p :: r) k = qm r k := by simp [qm, List.find?_cons, e]
theorem GO (k : κ) : ∀ kvs : List (κ × V), (kvs.any fun kv => decide (kv.1 = k)) = (qm kvs k).isSome
  | [] => rfl
  | p :: r => by
    rw [List.any_cons]
    by_cases e : p.1 = k
    . simp only [Vq e, decide_eq_true e, Bool.true_or, Option.isSome_some]
    . rw [VA e, decide_eq_false e, Bool.false_or]; exact GO k r
theorem yg (kvs : List (κ × V)) (k : κ) (v : V) : (jY kvs k v).length <= kvs.length + 1 := by
  unfold jY
  split
  . rw [List.length_map]; omega
  . rw [List.length_append, List.length_cons, List.length_nil]; omega
theorem RelO.isSome_eq {o : Option V} {u : Option Value} (r : RelO o u) : o.isSome = u.isSome := by
  cases o with
  | none => cases u with
    | none => rfl
    | some _ => exact (show False from r).elim
  | some _ => cases u with
    | none => exact (show False from r).elim
    | some _ => rfl
theorem RelO.getD {o : Option V} {u : Option Value} {d : V} {d' : Value} (r : RelO o u) (rd : RelV d d') : RelV (o.getD d) (u.getD d') := by
  cases o with
  | none => cases u with
    | none => exact rd
    | some _ => exact (show False from r).elim
  | some _ => cases u with
    | none => exact (show False from r).elim
    | some _ => exact r
theorem KV.val {kvs : List (κ × V)} {vs : List (κ × Value)} (r : KV kvs vs) (k : κ) : RelO (qm kvs k) (valueAt vs k) := by
  unfold KV at r
  induction r with
  | nil => exact True.intro
  | @cons p q ps qs h t ih =>
    obtain ⟨h1, h2⟩ := h
    by_cases e : p.1 = k
    . have e' : q.1 = k := h1.symm.trans e
      have b : valueAt (q :: qs) k = some q.2 := by simp [valueAt, List.find?_cons, e']
      rw [Vq e, b]; exact h2
    . have e' : ¬ q.1 = k := fun z => e (h1.trans z)
      have b : valueAt (q :: qs) k = valueAt qs k := by simp [valueAt, List.find?_cons, e']
      rw [VA e, b]; exact ih
theorem KV.any {kvs : List (κ × V)} {vs : List (κ × Value)} (r : KV kvs vs) (k : κ) : (kvs.any fun kv => decide (kv.1 = k)) = vs.any fun kv => decide (kv.1 = k) := by
  unfold KV at r
  induction r with
  | nil => rfl
  | cons h t ih => rw [List.any_cons, List.any_cons, ih, h.1]
theorem KV.repl {kvs : List (κ × V)} {vs : List (κ × Value)} (r : KV kvs vs) (k : κ) {y : V} {u : Value} (ry : RelV y u) :
    KV (kvs.map fun kv => if kv.1 = k then (kv.1, y) else kv) (vs.map fun kv => if kv.1 = k then (kv.1, u) else kv) := by
  unfold KV at r ⊢
  induction r with
  | nil => exact .nil
  | @cons p q ps qs h t ih =>
    rw [List.map_cons, List.map_cons]
    refine .cons ?_ ih
    obtain ⟨h1, h2⟩ := h
    by_cases e : p.1 = k
    . rw [if_pos e, if_pos (h1.symm.trans e)]; exact ⟨h1, ry⟩
    . rw [if_neg e, if_neg (fun z => e (h1.trans z))]; exact ⟨h1, h2⟩
theorem KV.put {kvs : List (κ × V)} {vs : List (κ × Value)} (r : KV kvs vs) (k : κ) {y : V} {u : Value} (ry : RelV y u) : KV (jY kvs k y) (stored vs k u) := by
  unfold jY stored
  rw [r.any k]
  by_cases e : (vs.any fun kv => decide (kv.1 = k)) = true
  . rw [if_pos e, if_pos e]; exact r.repl k ry
  . rw [if_neg e, if_neg e]; exact Paired.snoc r ⟨rfl, ry⟩
theorem KV.length {kvs : List (κ × V)} {vs : List (κ × Value)} (r : KV kvs vs) : kvs.length = vs.length := Paired.length r
end
theorem VC {P : Program} {w : World} {k : Key} {u : Value} (r : RelV (kV k) u) : (Jn P w).is k u = true := by
  cases k with
  | inl i => obtain ⟨t, e⟩ := (show ∃ t, u = Value.int i t from r); subst e; exact KE P w i t
  | inr x => obtain ⟨t, e⟩ := (show ∃ t, u = Value.str x t from r); subst e; exact KL P w x t
theorem Uj {P : Program} {w : World} : ∀ {ks : List Key} {us : List Value}, Vals (ks.map kV) us -> ItemsAre (Jn P w) ks us
  | [], _, r => by rw [List.map_nil] at r; cases r; exact .nil
  | k :: ks, _, r => by
    rw [List.map_cons] at r
    cases r with
    | cons h t => exact .cons (VC h) (Uj t)
abbrev KT (H : Hp) : List (List Key × V) -> List (List Key × Addr × Value) -> Prop := Paired fun p q => p.1 = q.1 /\ H q.2.1 = some (.tup (p.1.map kV)) /\ RelV p.2 q.2.2
theorem KT.val {H : Hp} {kvs : List (List Key × V)} {xs : List (List Key × Addr × Value)} (r : KT H kvs xs) (k : List Key) : RelO (qm kvs k) ((atKey xs k).map (·.2)) := by
  induction r with
  | nil => exact True.intro
  | @cons p q ps qs h t ih =>
    obtain ⟨h1, _, h2⟩ := h
    by_cases e : p.1 = k
    . have e' : q.1 = k := h1.symm.trans e
      have b : atKey (q :: qs) k = some q.2 := by simp [atKey, List.find?_cons, e']
      rw [Vq e, b]; exact h2
    . have e' : ¬ q.1 = k := fun z => e (h1.trans z)
      have b : atKey (q :: qs) k = atKey qs k := by simp [atKey, List.find?_cons, e']
      rw [VA e, b]; exact ih
theorem KT.repl {H : Hp} {kvs : List (List Key × V)} {xs : List (List Key × Addr × Value)} (r : KT H kvs xs) (k : List Key) {y : V} {u : Value} (ry : RelV y u) :
    KT H (kvs.map fun kv => if kv.1 = k then (kv.1, y) else kv) (xs.map (putAt k u)) := by
  induction r with
  | nil => exact .nil
  | @cons p q ps qs h t ih =>
    rw [List.map_cons, List.map_cons]
    refine .cons ?_ ih
    obtain ⟨h1, h2, h3⟩ := h
    unfold putAt
    by_cases e : p.1 = k
    . rw [if_pos e, if_pos (h1.symm.trans e)]; exact ⟨h1, h2, ry⟩
    . rw [if_neg e, if_neg (fun z => e (h1.trans z))]; exact ⟨h1, h2, h3⟩
theorem KT.put {H : Hp} {kvs : List (List Key × V)} {xs : List (List Key × Addr × Value)} (r : KT H kvs xs) (k : List Key) {b : Addr} {y : V} {u : Value} (hb : H b = some (.tup (k.map kV))) (ry : RelV y u) :
    KT H (jY kvs k y) (storedH xs k b u) := by
  have e : (kvs.any fun kv => decide (kv.1 = k)) = (atKey xs k).isSome := by
    rw [GO, (r.val k).isSome_eq, Option.isSome_map]
  unfold jY storedH
  rw [e]
  by_cases q : (atKey xs k).isSome = true
  . rw [if_pos q, if_pos q]; exact r.repl k ry
  . rw [if_neg q, if_neg q]; exact Paired.snoc r ⟨rfl, hb, ry⟩
theorem KT.keeps {H H' : Hp} {kvs : List (List Key × V)} {xs : List (List Key × Addr × Value)} (r : KT H kvs xs) (ht : ∀ b ys, H b = some (.tup ys) -> H' b = some (.tup ys)) : KT H' kvs xs :=
  Paired.mapP r fun _ _ z => ⟨z.1, ht _ _ z.2.1, z.2.2⟩
section
variable {P : Program} {w : World} {H : Hp} {h : Heap} {a : Addr}
theorem QcF {u : HO} (ok : HOk P w H h) (e : Rd H a u) : ObjOk P w H h a u := e.ok ok
theorem yh {kvs : List (Key × V)} (ok : HOk P w H h) (e : Rd H a (.dK kvs)) : kvs.length <= sizeLine /\ (a == sysModules) = false /\ ∃ vs, KV kvs vs /\ h.DictOf (Jn P w) a vs :=
  show ObjOk P w H h a (.dK kvs) from QcF ok e
theorem QeO {kvs : List (Key × V)} (ok : HOk P w H h) (e : H a = some (.dK kvs)) : kvs.length <= sizeLine /\ (a == sysModules) = false /\ ∃ vs, KV kvs vs /\ h.DictOf (Jn P w) a vs := yh ok (.inl e)
theorem jB {ks : List Key} (ok : HOk P w H h) (e : H a = some (.tup (ks.map kV))) : (tupleKind (Jn P w)).is h ks a := by
  obtain ⟨_, its, r, o, h1, h2, n, h3⟩ := (show ObjOk P w H h a (.tup (ks.map kV)) from ok a _ e)
  exact ⟨o, its.toArray, n, h1, h2, h3, by simpa using Uj r⟩
theorem y0 {kvs : List (List Key × V)} (ok : HOk P w H h) (e : Rd H a (.dT kvs)) : kvs.length <= sizeLine /\ (a == sysModules) = false /\
    ∃ xs, KT H kvs xs /\ h.DictOfH (tupleKind (Jn P w)) a xs := by
  obtain ⟨z, y, xs, r, o, es, ep, h1, h2, h3, h4, h5⟩ := (show ObjOk P w H h a (.dT kvs) from QcF ok e)
  refine ⟨z, y, xs, r, o, es, ep, h1, h2, h3, h4, fun x hx => ?_, h5⟩
  have all : ∀ {l : List (List Key × V)} {m : List (List Key × Addr × Value)}, KT H l m -> ∀ x ∈ m, (tupleKind (Jn P w)).is h x.1 x.2.1 := by
    intro l m q
    induction q with
    | nil => intro x hx; exact nomatch hx
    | @cons p q ps qs hq t ih =>
      intro x hx
      rcases List.mem_cons.mp hx with e | hx
      . subst e
        exact jB ok (by rw [<- hq.1]; exact hq.2.1)
      . exact ih x hx
  exact all r x hx
theorem zG {kvs : List (List Key × V)} (ok : HOk P w H h) (e : H a = some (.dT kvs)) : kvs.length <= sizeLine /\ (a == sysModules) = false /\
    ∃ xs, KT H kvs xs /\ h.DictOfH (tupleKind (Jn P w)) a xs := y0 ok (.inl e)
end
def DGet (H : Hp) (a : Addr) (y : V) (r : Option V) : Prop :=
  (∃ kvs k, Rd H a (.dK kvs) /\ y = kV k /\ r = qm kvs k) ∨ ∃ kvs k b, Rd H a (.dT kvs) /\ y = .ref b /\ H b = some (.tup (k.map kV)) /\ r = qm kvs k
def DPut (H : Hp) (a : Addr) (y v : V) (H' : Hp) : Prop :=
  (∃ kvs k, H a = some (.dK kvs) /\ y = kV k /\ kvs.length < sizeLine /\ H' = upd H a (.dK (jY kvs k v))) ∨
  ∃ kvs k b, H a = some (.dT kvs) /\ y = .ref b /\ H b = some (.tup (k.map kV)) /\ kvs.length < sizeLine /\ H' = upd H a (.dT (jY kvs k v))
theorem DGet.k {H : Hp} {a : Addr} {kvs : List (Key × V)} {k : Key} (e : H a = some (.dK kvs)) : DGet H a (kV k) (qm kvs k) := .inl ⟨kvs, k, .inl e, rfl, rfl⟩
theorem DPut.k {H : Hp} {a : Addr} {kvs : List (Key × V)} {k : Key} {v : V} (e : H a = some (.dK kvs)) (hl : kvs.length < sizeLine) : DPut H a (kV k) v (upd H a (.dK (jY kvs k v))) := .inl ⟨kvs, k, e, rfl, hl, rfl⟩
section
variable {X : Cx} {pins : List (Addr × Obj)} {σ : St} {H : Hp} {s : Shared} {a : Addr} {y v : V} {u r : Value} {o : Option V} {A : Around} {E : Value -> Shared -> Prop}
theorem Inv.big (I : Inv X pins σ H s) : sysModules < s.heap.objs.size := by
  have h : mainGlobals < s.heap.objs.size := (I.mod.glob.keeps I.bk).lt
  exact Nat.lt_trans (by decide) h
theorem uS {Q : Value -> Shared -> Prop} (hu : A.units + 1 < cLine) (I : Inv X pins σ H s) (g : DGet H a y (some v)) (ry : RelV y u) (h : ∀ w' s', Inv X pins σ H s' -> RelV v w' -> Q w' s') :
    wpAny (model X.prog X.w) A (getItem (.ref a) u) Q E s := by
  rcases g with ⟨kvs, k, e, ey, l⟩ | ⟨kvs, k, b, e, ey, eb, l⟩
  . subst ey
    obtain ⟨z, hd, vs, rel, dd⟩ := yh I.hok e
    obtain ⟨w', hw, rw'⟩ := RelO.some_of (v := v) (o := valueAt vs k) (by rw [l]; exact rel.val k)
    exact wpAny_getItem_of (VC ry) dd.mapOf hw (h w' _ (I.tok _) rw')
  . subst ey
    cases (show u = Value.ref b from ry)
    obtain ⟨z, hd, xs, rel, dd⟩ := y0 I.hok e
    obtain ⟨w', hw, rw'⟩ := RelO.some_of (v := v) (o := (atKey xs k).map (·.2)) (by rw [l]; exact rel.val k)
    obtain ⟨p, hp, hp2⟩ := Option.map_eq_some_iff.mp hw
    refine wpAny_getItem_heap (tupleKind_room_in1 hu) (jB I.hok eb) dd hp ?_
    rw [hp2]
    exact h w' _ (I.tok _) rw'
theorem Qfn {Q : Value -> Shared -> Prop} (hu : A.units + 1 < cLine) (I : Inv X pins σ H s) (g : DGet H a y o) (ry : RelV y u) (h : ∀ s', Inv X pins σ H s' -> Q (.bool o.isSome) s') :
    wpAny (model X.prog X.w) A (compareOp .In u (.ref a)) Q E s := by
  rcases g with ⟨kvs, k, e, ey, l⟩ | ⟨kvs, k, b, e, ey, eb, l⟩
  . subst ey
    obtain ⟨z, hd, vs, rel, dd⟩ := yh I.hok e
    refine wpAny_in_of (VC ry) hd dd.mapOf ?_
    rw [<- (rel.val k).isSome_eq, <- l]
    exact h _ (I.tok _)
  . subst ey
    cases (show u = Value.ref b from ry)
    obtain ⟨z, hd, xs, rel, dd⟩ := y0 I.hok e
    refine wpAny_in_heap (tupleKind_room_in1 hu) (jB I.hok eb) hd dd ?_
    have q := (rel.val k).isSome_eq
    rw [Option.isSome_map] at q
    rw [<- q, <- l]
    exact h _ (I.tok _)
theorem Qbv {Q : Value -> Shared -> Prop} (hu : A.units + 1 < cLine) (I : Inv X pins σ H s) (g : DGet H a y o) (ry : RelV y u) (h : ∀ s', Inv X pins σ H s' -> Q (.bool (!o.isSome)) s') :
    wpAny (model X.prog X.w) A (compareOp .NotIn u (.ref a)) Q E s := by
  rcases g with ⟨kvs, k, e, ey, l⟩ | ⟨kvs, k, b, e, ey, eb, l⟩
  . subst ey
    obtain ⟨z, hd, vs, rel, dd⟩ := yh I.hok e
    refine wpAny_notIn_of (VC ry) hd dd.mapOf ?_
    rw [<- (rel.val k).isSome_eq, <- l]
    exact h _ (I.tok _)
  . subst ey
    cases (show u = Value.ref b from ry)
    obtain ⟨z, hd, xs, rel, dd⟩ := y0 I.hok e
    refine wpAny_notIn_heap (tupleKind_room_in1 hu) (jB I.hok eb) hd dd ?_
    have q := (rel.val k).isSome_eq
    rw [Option.isSome_map] at q
    rw [<- q, <- l]
    exact h _ (I.tok _)
theorem uK {h' : Heap} {t' : Nat} {ob : HO} (I : Inv X pins σ H s) (mu : Mut (H a)) (hs : Heap.SameBut a s.heap h') (he : ∃ q, h'.get? a = some q) (new : ObjOk X.prog X.w (upd H a ob) h' a ob) :
    Inv X pins σ (upd H a ob) { s with heap := h', toks := t' } :=
  I.write (x := a) (e := a) mu (.inl rfl) (fun b q hb z => (hs.2 b hb).trans z) he new
theorem QdH {P : Program} {w : World} {H' : Hp} {h' : Heap} {kvs : List (Key × V)} {vs : List (Key × Value)} (z : kvs.length <= sizeLine) (hd : (a == sysModules) = false) (rel : KV kvs vs) (dd : h'.DictOf (Jn P w) a vs) :
    ObjOk P w H' h' a (.dK kvs) := ⟨z, hd, vs, rel, dd⟩
theorem u9 {H' : Hp} {Q : Unit -> Shared -> Prop} (hu : A.units + 1 < cLine) (I : Inv X pins σ H s) (g : DPut H a y v H') (ry : RelV y u) (rv : RelV v r) (h : ∀ s', Inv X pins σ H' s' -> Q () s') :
    wpAny (model X.prog X.w) A (setItem (.ref a) u r) Q E s := by
  rcases g with ⟨kvs, k, e, ey, l, eH⟩ | ⟨kvs, k, b, e, ey, eb, l, eH⟩
  . subst ey eH
    obtain ⟨z, hd, vs, rel, dd⟩ := QeO I.hok e
    have hz : vs.length <= sizeLine := by rw [<- rel.length]; exact z
    have hl : (jY kvs k v).length <= sizeLine := by have := yg kvs k v; omega
    refine wpAny_setItem_pairs (hsz := hz) (VC ry) dd fun h' dd' hs => h _ ?_
    have he : ∃ q, h'.get? a = some q := let ⟨q, _, _, hq, _⟩ := dd'; ⟨q, hq⟩
    exact uK I (by rw [e]; exact True.intro) hs he (QdH hl hd (rel.put k rv) dd')
  . subst ey eH
    cases (show u = Value.ref b from ry)
    obtain ⟨z, hd, xs, rel, dd⟩ := zG I.hok e
    have hz : xs.length <= sizeLine := by rw [<- Paired.length rel]; exact z
    have hl : (jY kvs k v).length <= sizeLine := by have := yg kvs k v; omega
    refine wpAny_setItem_heap (hsz := hz) (tupleKind_room_in1 hu) (jB I.hok eb) dd fun h' dd' hs => h _ ?_
    obtain ⟨q, es, ep, hq, h2, h3, h4, _, h5⟩ := dd'
    refine uK I (by rw [e]; exact True.intro) hs ⟨q, hq⟩ ⟨hl, hd, _, (rel.put k eb rv).keeps fun c ys ec => ?_, q, es, ep, hq, h2, h3, h4, h5⟩
    rw [QS (Qea ec e (fun z => nomatch z))]
    exact ec
end
section
variable {X : Cx} {pins : List (Addr × Obj)} {σ : St} {H : Hp} {s : Shared} {a : Addr} {kvs : List (Key × V)} {k : Key} {u : Value} {A : Around} {E : Value -> Shared -> Prop}
theorem Qd7 {Q : Value -> Shared -> Prop} (I : Inv X pins σ H s) (e : Rd H a (.dK kvs)) (h : ∀ t s', Inv X pins σ H s' -> Q (.int kvs.length t) s') : wpAny (model X.prog X.w) A (call (.builtin "len") [.ref a]) Q E s := by
  obtain ⟨z, hd, vs, rel, dd⟩ := yh I.hok e
  refine call_len_dict hd dd (by rw [<- rel.length]; rw [sizeLine_eq] at z; omega) ?_
  rw [<- rel.length]
  exact h _ _ (I.tok _)
end
theorem Gk {X : Cx} {pins : List (Addr × Obj)} {σ : St} {H : Hp} {s : Shared} {a : Addr} {y : V} {o : Option V} (I : Inv X pins σ H s) (g : DGet H a y o) : s.TypeIs (.ref a) "dict" := by
  rcases g with ⟨kvs, k, e, _, _⟩ | ⟨kvs, k, b, e, _, _, _⟩
  . obtain ⟨_, _, vs, _, dd⟩ := yh I.hok e
    exact dd.typeIs
  . obtain ⟨_, _, xs, _, dd⟩ := y0 I.hok e
    exact dd.typeIs
section
variable {X : Cx} {o i e value : Expr} {pos pos' tpos : Pos} {td ty tv : TE}
end
theorem kQ {P : Program} {w : World} {H : Hp} (h : Heap) (hb : sysModules < h.objs.size) : ObjOk P w H (h.push { cls := .type "dict", data := .dict #[] }) h.objs.size (.dK []) :=
  ⟨Nat.zero_le _, beq_eq_false_iff_ne.mpr (Ne.symm (Nat.ne_of_lt hb)), [], .nil, Heap.DictOf.new h⟩
section
variable {X : Cx} {pos : Pos}
end
section
variable {X : Cx} {pins : List (Addr × Obj)} {σ : St} {H : Hp} {s : Shared} {a : Addr} {y d : V} {u r : Value} {o : Option V} {A : Around} {E : Value -> Shared -> Prop}
theorem Qdp {Q : Value -> Shared -> Prop} (hu : A.units + 1 < cLine) (I : Inv X pins σ H s) (g : DGet H a y o) (ry : RelV y u) (h : ∀ w' s', Inv X pins σ H s' -> RelV (o.getD .non) w' -> Q w' s') :
    wpAny (model X.prog X.w) A (call (.builtin "dict.get") [.ref a, u]) Q E s := by
  rcases g with ⟨kvs, k, e, ey, l⟩ | ⟨kvs, k, b, e, ey, eb, l⟩
  . subst ey
    obtain ⟨z, hd, vs, rel, dd⟩ := yh I.hok e
    refine call_meetsIn PySem.F.slot_dict_get dd.typeIs PySem.F.entry_dict_get (PySem.F.args_dict_get_2 _ _) (meets_dict_get (Jn X.prog X.w) a (VC ry) hd) ⟨_, dd.mapOf, h _ _ (I.tok _) ?_⟩
    rw [l]
    exact (rel.val k).getD rfl
  . subst ey
    cases (show u = Value.ref b from ry)
    obtain ⟨z, hd, xs, rel, dd⟩ := y0 I.hok e
    refine call_meetsIn PySem.F.slot_dict_get dd.typeIs PySem.F.entry_dict_get (PySem.F.args_dict_get_2 _ _) (meetsH_dict_get (tupleKind (Jn X.prog X.w)) a b hd) ⟨tupleKind_room_in1 hu, k, xs, jB I.hok eb, dd, h _ _ (I.tok _) ?_⟩
    rw [l]
    exact (rel.val k).getD rfl
theorem Qdj {Q : Value -> Shared -> Prop} (hu : A.units + 1 < cLine) (I : Inv X pins σ H s) (g : DGet H a y o) (ry : RelV y u) (rd : RelV d r) (h : ∀ w' s', Inv X pins σ H s' -> RelV (o.getD d) w' -> Q w' s') :
    wpAny (model X.prog X.w) A (call (.builtin "dict.get") [.ref a, u, r]) Q E s := by
  rcases g with ⟨kvs, k, e, ey, l⟩ | ⟨kvs, k, b, e, ey, eb, l⟩
  . subst ey
    obtain ⟨z, hd, vs, rel, dd⟩ := yh I.hok e
    refine call_meetsIn PySem.F.slot_dict_get dd.typeIs PySem.F.entry_dict_get (PySem.F.args_dict_get_3 _ _ _) (meets_dict_get_default (Jn X.prog X.w) a (VC ry) hd r) ⟨_, dd.mapOf, h _ _ (I.tok _) ?_⟩
    rw [l]
    exact (rel.val k).getD rd
  . subst ey
    cases (show u = Value.ref b from ry)
    obtain ⟨z, hd, xs, rel, dd⟩ := y0 I.hok e
    refine call_meetsIn PySem.F.slot_dict_get dd.typeIs PySem.F.entry_dict_get (PySem.F.args_dict_get_3 _ _ _) (meetsH_dict_get_default (tupleKind (Jn X.prog X.w)) a b hd r) ⟨tupleKind_room_in1 hu, k, xs, jB I.hok eb, dd, h _ _ (I.tok _) ?_⟩
    rw [l]
    exact (rel.val k).getD rd
end
section
variable {X : Cx} {o e f : Expr} {apos cpos : Pos} {td ty tx : TE}
end
section
variable {X : Cx} {pins : List (Addr × Obj)} {σ : St} {H : Hp} {s : Shared} {a : Addr} {kvs : List (Key × V)} {A : Around} {E : Value -> Shared -> Prop}
end
section
variable {X : Cx} {pins : List (Addr × Obj)} {σ : St} {H : Hp} {s : Shared} {a : Addr} {y : V} {u : Value} {A : Around} {E : Value -> Shared -> Prop}
end
section
variable {X : Cx}
theorem uY : Yk X (.builtin "len") (fun xs H Q => ∃ a kvs, xs = [V.ref a] /\ H a = some (.dK kvs) /\ Q (.int kvs.length) H) := by
  intro pins s σ H xs us Q I r h
  obtain ⟨a, kvs, rfl, ha, q⟩ := h
  obtain ⟨u, rfl, ru⟩ := yX r
  cases ru
  exact Qd7 I (.inl ha) fun t s' I' => ⟨.int kvs.length, H, I', ⟨t, rfl⟩, q⟩
end
section
variable {κ : Type} [DecidableEq κ]
end
end L2
namespace D
open PySem PySem.Spec PyProof.Rows L2
abbrev St := L2.St
inductive DV where
  | non | bl (b : Bool) | int (i : Int) | str (x : Str) | tup (xs : List DV) | lst (xs : List DV) | ref (i : Nat)
inductive OV where
  | lst (xs : List DV)
  | dic (kvs : List (Key × DV))
  | ins (c : Str) (fs : List (Str × DV))
abbrev Hs := List OV
abbrev M := StateT Hs Option
mutual
def RepV (K : PySem.W.Frag) (ρ : List Addr) (B : Addr -> Prop) (H : Hp) : DV -> V -> Prop
  | .non, v => v = .non
  | .bl b, v => v = .bl b
  | .int i, v => v = .int i
  | .str x, v => v = .str x
  | .tup ds, v => ∃ a xs, v = .ref a /\ ¬ B a /\ SqT K H a xs /\ RepL K ρ B H ds xs
  | .lst ds, v => ∃ a xs, v = .ref a /\ ¬ B a /\ SqL K H a xs /\ RepL K ρ B H ds xs
  | .ref i, v => ∃ a, v = .ref a /\ ρ[i]? = some a
def RepL (K : PySem.W.Frag) (ρ : List Addr) (B : Addr -> Prop) (H : Hp) : List DV -> List V -> Prop
  | [], xs => xs = []
  | d :: ds, xs => ∃ x r, xs = x :: r /\ RepV K ρ B H d x /\ RepL K ρ B H ds r
end
def ORep (K : PySem.W.Frag) (ρ : List Addr) (B : Addr -> Prop) (H : Hp) (a : Addr) : OV -> Prop
  | .lst ds => ∃ xs, H a = some (.lst xs) /\ RepL K ρ B H ds xs
  | .dic kvs => ∃ xs : List (Key × V), H a = some (.dK xs) /\ xs.map (·.1) = kvs.map (·.1) /\ RepL K ρ B H (kvs.map (·.2)) (xs.map (·.2))
  | .ins c fs => ∃ (C dx : Addr) (xs : List (Str × V)), PySem.W.nsIn K mainGlobals c = some (some (.ref C)) /\ H a = some (.ins C dx xs) /\ xs.map (·.1) = fs.map (·.1) /\ RepL K ρ B H (fs.map (·.2)) (xs.map (·.2))
structure Gr (K : PySem.W.Frag) (ρ : List Addr) (B : Addr -> Prop) (H : Hp) (ρ' : List Addr) (B' : Addr -> Prop) (H' : Hp) : Prop where
  pre : ρ <+: ρ'
  ban : ∀ a, B a -> B' a
  new : ∀ a, B' a -> B a ∨ (H a = none /\ K.lookup a = none)
  rnew : ∀ a ∈ ρ', a ∈ ρ ∨ H a = none
  keep : ∀ a o, a ∉ ρ -> H a = some o -> H' a = some o
  trk : ∀ a, H' a = none -> H a = none
structure WOk (K : PySem.W.Frag) (ρ : List Addr) (B : Addr -> Prop) (hp : Hs) (H : Hp) : Prop where
  len : ρ.length = hp.length
  nd : ρ.Nodup
  obj : ∀ (i : Nat) (a : Addr) (o : OV), ρ[i]? = some a -> hp[i]? = some o -> ORep K ρ B H a o
  rb : ∀ a ∈ ρ, B a
  bt : ∀ a, B a -> H a ≠ none
  bk : ∀ a, B a -> K.lookup a = none
section
variable {K : PySem.W.Frag} {ρ ρ' ρ'' : List Addr} {B B' B'' : Addr -> Prop} {H H' H'' : Hp}
theorem Gr.refl : Gr K ρ B H ρ B H := ⟨List.prefix_rfl, fun _ h => h, fun _ h => .inl h, fun _ h => .inl h, fun _ _ _ h => h, fun _ h => h⟩
theorem Gr.trans (a : Gr K ρ B H ρ' B' H') (b : Gr K ρ' B' H' ρ'' B'' H'') : Gr K ρ B H ρ'' B'' H'' where
  pre := a.pre.trans b.pre
  ban := fun x h => b.ban x (a.ban x h)
  new := fun x h => (b.new x h).elim (a.new x) fun z => .inr ⟨a.trk x z.1, z.2⟩
  rnew := fun x h => (b.rnew x h).elim (a.rnew x) fun z => .inr (a.trk x z)
  keep := fun x o hn h => b.keep x o (fun z => (a.rnew x z).elim hn (fun z => by rw [h] at z; cases z)) (a.keep x o hn h)
  trk := fun x h => a.trk x (b.trk x h)
structure Gs (K : PySem.W.Frag) (ρ : List Addr) (B : Addr -> Prop) (H : Hp) (ρ' : List Addr) (B' : Addr -> Prop) (H' : Hp) : Prop where
  pre : ρ <+: ρ'
  new : ∀ a, B' a -> B a ∨ (H a = none /\ K.lookup a = none)
  keep : ∀ a o, ¬ B a -> H a = some o -> H' a = some o
  trk : ∀ a, H' a = none -> H a = none
theorem Gr.gs (rb : ∀ a ∈ ρ, B a) (g : Gr K ρ B H ρ' B' H') : Gs K ρ B H ρ' B' H' := ⟨g.pre, g.new, fun a o nb h => g.keep a o (fun z => nb (rb a z)) h, g.trk⟩
theorem Gs.refl : Gs K ρ B H ρ B H := ⟨List.prefix_rfl, fun _ h => .inl h, fun _ _ _ h => h, fun _ h => h⟩
theorem Gs.trans (a : Gs K ρ B H ρ' B' H') (b : Gs K ρ' B' H' ρ'' B'' H'') : Gs K ρ B H ρ'' B'' H'' where
  pre := a.pre.trans b.pre
  new := fun x h => (b.new x h).elim (a.new x) fun z => .inr ⟨a.trk x z.1, z.2⟩
  keep := fun x o nb h => b.keep x o (fun z => (a.new x z).elim nb fun q => by rw [h] at q; cases q.1) (a.keep x o nb h)
  trk := fun x h => a.trk x (b.trk x h)
theorem SqT.trk {a : Addr} {xs : List V} (h : SqT K H a xs) : H a ≠ none ∨ ∃ o, K.lookup a = some o := by
  rcases h with (h | ⟨o, h⟩) | ⟨o, _, _, h, _⟩
  . exact .inl (by rw [h]; simp)
  . exact .inl (by rw [h]; simp)
  . exact .inr ⟨o, h⟩
theorem SqL.trk {a : Addr} {xs : List V} (h : SqL K H a xs) : H a ≠ none ∨ ∃ o, K.lookup a = some o := by
  rcases h with (h | ⟨o, h⟩) | ⟨o, _, _, h, _⟩
  . exact .inl (by rw [h]; simp)
  . exact .inl (by rw [h]; simp)
  . exact .inr ⟨o, h⟩
theorem Gs.ok {a : Addr} (g : Gs K ρ B H ρ' B' H') (hb : ¬ B a) (t : H a ≠ none ∨ ∃ o, K.lookup a = some o) : ¬ B' a := fun z =>
  (g.new a z).elim hb fun ⟨n, k⟩ => t.elim (fun q => q n) fun ⟨o, q⟩ => by rw [k] at q; cases q
theorem Gs.sqT {a : Addr} {xs : List V} (g : Gs K ρ B H ρ' B' H') (hr : ¬ B a) (h : SqT K H a xs) : SqT K H' a xs := by
  rcases h with (h | ⟨o, h⟩) | h
  . exact .inl (.inl (g.keep _ _ hr h))
  . exact .inl (.inr ⟨o, g.keep _ _ hr h⟩)
  . exact .inr h
theorem Gs.sqL {a : Addr} {xs : List V} (g : Gs K ρ B H ρ' B' H') (hr : ¬ B a) (h : SqL K H a xs) : SqL K H' a xs := by
  rcases h with (h | ⟨o, h⟩) | h
  . exact .inl (.inl (g.keep _ _ hr h))
  . exact .inl (.inr ⟨o, g.keep _ _ hr h⟩)
  . exact .inr h
theorem uy {i : Nat} {a : Addr} (p : ρ <+: ρ') (h : ρ[i]? = some a) : ρ'[i]? = some a := by
  obtain ⟨t, rfl⟩ := p
  rw [List.getElem?_append_left (List.getElem?_eq_some_iff.mp h).1]; exact h
mutual
theorem RepV.gs (g : Gs K ρ B H ρ' B' H') : ∀ (d : DV) (v : V), RepV K ρ B H d v -> RepV K ρ' B' H' d v
  | .non, _, h => by unfold RepV at h ⊢; exact h
  | .bl _, _, h => by unfold RepV at h ⊢; exact h
  | .int _, _, h => by unfold RepV at h ⊢; exact h
  | .str _, _, h => by unfold RepV at h ⊢; exact h
  | .ref _, _, h => by
    unfold RepV at h ⊢
    obtain ⟨a, e, h⟩ := h
    exact ⟨a, e, uy g.pre h⟩
  | .tup ds, _, h => by
    unfold RepV at h ⊢
    obtain ⟨a, xs, e, nb, sq, rl⟩ := h
    exact ⟨a, xs, e, g.ok nb (SqT.trk sq), g.sqT nb sq, RepL.gs g ds xs rl⟩
  | .lst ds, _, h => by
    unfold RepV at h ⊢
    obtain ⟨a, xs, e, nb, sq, rl⟩ := h
    exact ⟨a, xs, e, g.ok nb (SqL.trk sq), g.sqL nb sq, RepL.gs g ds xs rl⟩
theorem RepL.gs (g : Gs K ρ B H ρ' B' H') : ∀ (ds : List DV) (xs : List V), RepL K ρ B H ds xs -> RepL K ρ' B' H' ds xs
  | [], _, h => by unfold RepL at h ⊢; exact h
  | d :: ds, _, h => by
    unfold RepL at h ⊢
    obtain ⟨x, r, e, h1, h2⟩ := h
    exact ⟨x, r, e, RepV.gs g d x h1, RepL.gs g ds r h2⟩
end
theorem RepV.grow (rb : ∀ a ∈ ρ, B a) (g : Gr K ρ B H ρ' B' H') (d : DV) (v : V) (h : RepV K ρ B H d v) : RepV K ρ' B' H' d v := RepV.gs (g.gs rb) d v h
theorem RepL.grow (rb : ∀ a ∈ ρ, B a) (g : Gr K ρ B H ρ' B' H') (ds : List DV) (xs : List V) (h : RepL K ρ B H ds xs) : RepL K ρ' B' H' ds xs := RepL.gs (g.gs rb) ds xs h
theorem RepL.length : ∀ {ds : List DV} {xs : List V}, RepL K ρ B H ds xs -> ds.length = xs.length
  | [], _, h => by unfold RepL at h; subst h; rfl
  | d :: ds, _, h => by
    unfold RepL at h
    obtain ⟨x, r, rfl, _, h2⟩ := h
    simp [RepL.length h2]
theorem RepL.get : ∀ {ds : List DV} {xs : List V} {i : Nat} {d : DV}, RepL K ρ B H ds xs -> ds[i]? = some d -> ∃ x, xs[i]? = some x /\ RepV K ρ B H d x
  | [], _, _, _, _, e => by simp at e
  | d :: ds, _, 0, _, h, e => by
    unfold RepL at h
    obtain ⟨x, r, rfl, h1, _⟩ := h
    simp at e; subst e
    exact ⟨x, rfl, h1⟩
  | d :: ds, _, i + 1, _, h, e => by
    unfold RepL at h
    obtain ⟨x, r, rfl, _, h2⟩ := h
    obtain ⟨y, h3, h4⟩ := RepL.get h2 (by simpa using e)
    exact ⟨y, by simpa using h3, h4⟩
theorem RepL.nil : RepL K ρ B H [] [] := by unfold RepL; rfl
theorem RepL.cons {d : DV} {x : V} {ds : List DV} {xs : List V} (h : RepV K ρ B H d x) (t : RepL K ρ B H ds xs) : RepL K ρ B H (d :: ds) (x :: xs) := by
  unfold RepL; exact ⟨x, xs, rfl, h, t⟩
theorem RepL.append : ∀ {ds es : List DV} {xs ys : List V}, RepL K ρ B H ds xs -> RepL K ρ B H es ys -> RepL K ρ B H (ds ++ es) (xs ++ ys)
  | [], _, _, _, h, t => by unfold RepL at h; subst h; exact t
  | d :: ds, _, _, _, h, t => by
    unfold RepL at h
    obtain ⟨x, r, rfl, h1, h2⟩ := h
    exact RepL.cons h1 (RepL.append h2 t)
theorem RepL.one {d : DV} {x : V} (h : RepV K ρ B H d x) : RepL K ρ B H [d] [x] := RepL.cons h RepL.nil
theorem RepL.take : ∀ (n : Nat) {ds : List DV} {xs : List V}, RepL K ρ B H ds xs -> RepL K ρ B H (ds.take n) (xs.take n)
  | 0, _, _, _ => by simp; exact RepL.nil
  | _ + 1, [], _, h => by unfold RepL at h; subst h; simp; exact RepL.nil
  | n + 1, d :: ds, _, h => by
    unfold RepL at h
    obtain ⟨x, r, rfl, h1, h2⟩ := h
    exact RepL.cons h1 (RepL.take n h2)
theorem RepL.drop : ∀ (n : Nat) {ds : List DV} {xs : List V}, RepL K ρ B H ds xs -> RepL K ρ B H (ds.drop n) (xs.drop n)
  | 0, _, _, h => h
  | _ + 1, [], _, h => by unfold RepL at h; subst h; simp; exact RepL.nil
  | n + 1, d :: ds, _, h => by
    unfold RepL at h
    obtain ⟨x, r, rfl, h1, h2⟩ := h
    exact RepL.drop n h2
theorem Gr.laid {p : Addr} {o : HO} (h : H p = none) : Gr K ρ B H ρ B (upd H p o) where
  pre := List.prefix_rfl
  ban := fun _ h => h
  new := fun _ h => .inl h
  rnew := fun _ h => .inl h
  keep := fun a u _ q => by rw [QS (ZJ q h)]; exact q
  trk := fun a q => by
    by_cases e : a = p
    . subst e; rw [Q8] at q; cases q
    . rw [QS e] at q; exact q
theorem ORep.gs {a : Addr} {o : OV} (g : Gs K ρ B H ρ' B' H') (hk : H' a = H a) (h : ORep K ρ B H a o) : ORep K ρ' B' H' a o := by
  cases o with
  | lst ds =>
    obtain ⟨xs, e, rl⟩ := h
    exact ⟨xs, hk.trans e, RepL.gs g _ _ rl⟩
  | dic kvs =>
    obtain ⟨xs, e, ek, rl⟩ := h
    exact ⟨xs, hk.trans e, ek, RepL.gs g _ _ rl⟩
  | ins c fs =>
    obtain ⟨C, dx, xs, nc, e, ek, rl⟩ := h
    exact ⟨C, dx, xs, nc, hk.trans e, ek, RepL.gs g _ _ rl⟩
theorem WOk.laid {hp : Hs} {p : Addr} {o : HO} (W : WOk K ρ B hp H) (h : H p = none) : WOk K ρ B hp (upd H p o) where
  len := W.len
  nd := W.nd
  obj := fun i a u e q => ORep.gs ((Gr.laid h).gs W.rb) (by
    have hb := W.bt a (W.rb a (List.mem_of_getElem? e))
    exact QS (fun z => hb (z ▸ h))) (W.obj i a u e q)
  rb := W.rb
  bt := fun a z q => W.bt a z ((Gr.laid (K := K) (ρ := ρ) (B := B) h).trk a q)
  bk := W.bk
end
inductive Sl where
  | un | val (d : DV) | acc (ds : List DV)
abbrev En := List Sl
structure Ent where
  ρ : List Addr
  B : Addr -> Prop
  H : Hp
structure SOk (K : PySem.W.Frag) (Z : Ent) (env : En) (σ : St) (ρ : List Addr) (B : Addr -> Prop) (hp : Hs) (H : Hp) : Prop where
  gr : Gr K Z.ρ Z.B Z.H ρ B H
  zb : ∀ a, Z.B a -> Z.H a ≠ none
  wo : WOk K ρ B hp H
  slot : ∀ (i : Nat) (d : DV), env[i]? = some (.val d) -> ∃ v, σ[i]? = some (some v) /\ RepV K ρ B H d v
  accs : ∀ (i : Nat) (ds : List DV), env[i]? = some (.acc ds) -> ∃ a xs, σ[i]? = some (some (.ref a)) /\ H a = some (.lst xs) /\ Z.H a = none /\ B a /\ a ∉ ρ /\ RepL K ρ B H ds xs
  adis : ∀ (i j : Nat) (ds es : List DV) (a : Addr), env[i]? = some (.acc ds) -> env[j]? = some (.acc es) -> σ[i]? = some (some (.ref a)) -> σ[j]? = some (some (.ref a)) -> i = j
  len : σ.length = env.length
theorem SOk.grow {K : PySem.W.Frag} {Z : Ent} {env : En} {σ : St} {ρ ρ' : List Addr} {B B' : Addr -> Prop} {hp hp' : Hs} {H H' : Hp} (S : SOk K Z env σ ρ B hp H) (g : Gr K ρ B H ρ' B' H') (W : WOk K ρ' B' hp' H') : SOk K Z env σ ρ' B' hp' H' where
  gr := S.gr.trans g
  zb := S.zb
  wo := W
  slot := fun i d e => let ⟨v, h1, h2⟩ := S.slot i d e; ⟨v, h1, RepV.grow S.wo.rb g d v h2⟩
  accs := fun i ds e => by
    obtain ⟨a, xs, h1, h2, h3, h4, h5, h6⟩ := S.accs i ds e
    refine ⟨a, xs, h1, g.keep a _ h5 h2, h3, g.ban a h4, fun z => ?_, RepL.grow S.wo.rb g ds xs h6⟩
    rcases g.rnew a z with q | q
    . exact h5 q
    . rw [h2] at q; cases q
  adis := S.adis
  len := S.len
abbrev DEx := En -> M DV
abbrev DTx := En -> M Bool
abbrev DAx := En -> M (List DV)
inductive Fl where
  | nx | rt (d : DV) | bk | ct
abbrev DSx := En -> M (Fl × En)
def Fol (K : PySem.W.Frag) (ρ : List Addr) (B : Addr -> Prop) (H : Hp) (d : DV) (hp' : Hs) (Q : VK) : Prop :=
  ∀ v ρ' B' H', Gr K ρ B H ρ' B' H' -> WOk K ρ' B' hp' H' -> RepV K ρ' B' H' d v -> Q v H'
def Qeo (K : PySem.W.Frag) (ρ : List Addr) (B : Addr -> Prop) (H : Hp) (hp' : Hs) (Q : Hp -> Prop) : Prop :=
  ∀ ρ' B' H', Gr K ρ B H ρ' B' H' -> WOk K ρ' B' hp' H' -> Q H'
def Qe3 (K : PySem.W.Frag) (ρ : List Addr) (B : Addr -> Prop) (H : Hp) (ds : List DV) (hp' : Hs) (Q : List V -> Hp -> Prop) : Prop :=
  ∀ vs ρ' B' H', Gr K ρ B H ρ' B' H' -> WOk K ρ' B' hp' H' -> RepL K ρ' B' H' ds vs -> Q vs H'
def tD (K : PySem.W.Frag) (f : DEx) : TE := fun σ H Q => ∃ Z env ρ B hp d hp', SOk K Z env σ ρ B hp H /\ f env hp = some (d, hp') /\ Fol K ρ B H d hp' Q
def tDT (K : PySem.W.Frag) (f : DTx) : TT := fun σ H Q => ∃ Z env ρ B hp d hp', SOk K Z env σ ρ B hp H /\ f env hp = some (d, hp') /\ Qeo K ρ B H hp' (Q d)
def tDA (K : PySem.W.Frag) (f : DAx) : TA := fun σ H Q => ∃ Z env ρ B hp ds hp', SOk K Z env σ ρ B hp H /\ f env hp = some (ds, hp') /\ Qe3 K ρ B H ds hp' Q
def DE (X : Cx) (e : Expr) (f : DEx) : Prop := PE X e (tD X.K f)
def DT (X : Cx) (e : Expr) (f : DTx) : Prop := PT X e (tDT X.K f)
def DW (X : Cx) (e : Expr) (f : DTx) : Prop := PW X e (tDT X.K f)
def DA (X : Cx) (es : List Expr) (f : DAx) : Prop := PA X es (tDA X.K f)
def FolS (K : PySem.W.Frag) (Z : Ent) (ρ : List Addr) (B : Addr -> Prop) (H : Hp) (fl : Fl) (env' : En) (hp' : Hs) (D : UN) : Prop :=
  ∀ σ' ρ' B' H', Gs K ρ B H ρ' B' H' -> SOk K Z env' σ' ρ' B' hp' H' -> match fl with
    | .nx => D.nx σ' H'
    | .bk => D.bk σ' H'
    | .ct => D.ct σ' H'
    | .rt d => ∀ v, RepV K ρ' B' H' d v -> D.rt v H'
def tDS (K : PySem.W.Frag) (f : DSx) : TS := fun D σ H => ∃ Z env ρ B hp fl env' hp', SOk K Z env σ ρ B hp H /\ f env hp = some ((fl, env'), hp') /\ FolS K Z ρ B H fl env' hp' D
def DS (X : Cx) (st : Stmt) (f : DSx) : Prop := PS X st (tDS X.K f)
def DSs (X : Cx) (st : List Stmt) (f : DSx) : Prop := PSs X st (tDS X.K f)
section
variable {X : Cx}
theorem _root_.L2.PE.imp {e : Expr} {t t' : TE} (h : PE X e t) (i : ∀ σ H Q, t' σ H Q -> t σ H Q) : PE X e t' := fun pins s σ H Q I q => h pins s σ H Q I (i σ H Q q)
theorem _root_.L2.PT.imp {e : Expr} {t t' : TT} (h : PT X e t) (i : ∀ σ H Q, t' σ H Q -> t σ H Q) : PT X e t' := fun pins s σ H Q I q => h pins s σ H Q I (i σ H Q q)
theorem _root_.L2.PW.imp {e : Expr} {t t' : TT} (h : PW X e t) (i : ∀ σ H Q, t' σ H Q -> t σ H Q) : PW X e t' := fun wh pins s σ H Q I q => h wh pins s σ H Q I (i σ H Q q)
theorem _root_.L2.PA.imp {es : List Expr} {t t' : TA} (h : PA X es t) (i : ∀ σ H Q, t' σ H Q -> t σ H Q) : PA X es t' := fun pos pins s σ H Q I q => h pos pins s σ H Q I (i σ H Q q)
theorem _root_.L2.PS.imp {st : Stmt} {t t' : TS} (h : PS X st t) (i : ∀ Dn σ H, t' Dn σ H -> t Dn σ H) : PS X st t' := fun pins s σ H Dn I q => h pins s σ H Dn I (i Dn σ H q)
theorem _root_.L2.PSs.imp {st : List Stmt} {t t' : TS} (h : PSs X st t) (i : ∀ Dn σ H, t' Dn σ H -> t Dn σ H) : PSs X st t' := fun pins s σ H Dn I q => h pins s σ H Dn I (i Dn σ H q)
def ku (K : PySem.W.Frag) (H : Hp) : Prop := ∀ a o, H a = some o -> K.lookup a = none
theorem Inv.kfree {pins : List (Addr × Obj)} {σ : St} {H : Hp} {s : Shared} (I : Inv X pins σ H s) : ku X.K H := fun a o e => by
  cases q : X.K.lookup a with
  | none => rfl
  | some ob =>
    have := (I.bs a ob (I.ok.mod.kin a ob q)).2
    rw [e] at this; cases this
theorem _root_.L2.PE.kf {e : Expr} {t : TE} (h : PE X e t) : PE X e (fun σ H Q => t σ H fun v H' => ku X.K H' -> Q v H') := fun pins s σ H Q I q =>
  thn (h pins s σ H _ I q) fun u s' ⟨v, H', I', r, z⟩ => ⟨v, H', I', r, z (Inv.kfree I')⟩
theorem Qf {α β : Type} {f : M α} {g : α -> M β} {hp hp' : Hs} {y : β} (h : (f >>= g) hp = some (y, hp')) : ∃ x hp1, f hp = some (x, hp1) /\ g x hp1 = some (y, hp') := by
  change (f hp).bind (fun p => g p.1 p.2) = some (y, hp') at h
  cases q : f hp with
  | none => rw [q] at h; cases h
  | some p => rw [q] at h; exact ⟨p.1, p.2, rfl, h⟩
theorem Qj {α : Type} {x y : α} {hp hp' : Hs} (h : (pure x : M α) hp = some (y, hp')) : x = y /\ hp = hp' := by
  change some (x, hp) = some (y, hp') at h
  cases h; exact ⟨rfl, rfl⟩
theorem tD.run {K : PySem.W.Frag} {f : DEx} {Z : Ent} {env : En} {σ : St} {ρ : List Addr} {B : Addr -> Prop} {hp hp1 : Hs} {H : Hp} {d : DV} {Q : VK} (S : SOk K Z env σ ρ B hp H) (e : f env hp = some (d, hp1))
    (k : ∀ v ρ' B' H', Gr K ρ B H ρ' B' H' -> SOk K Z env σ ρ' B' hp1 H' -> RepV K ρ' B' H' d v -> Q v H') : tD K f σ H Q :=
  ⟨Z, env, ρ, B, hp, d, hp1, S, e, fun v ρ' B' H' g W r => k v ρ' B' H' g (S.grow g W) r⟩
def Qb (i : Nat) : DEx := fun env => match env[i]? with
  | some (.val d) => pure d
  | _ => failure
def eC (d : DV) : DEx := fun _ => pure d
theorem gg {i : Nat} {env : En} {hp hp' : Hs} {d : DV} (h : Qb i env hp = some (d, hp')) : env[i]? = some (.val d) /\ hp = hp' := by
  unfold Qb at h
  cases q : env[i]? with
  | none => rw [q] at h; cases h
  | some z =>
    rw [q] at h
    cases z with
    | val x => obtain ⟨rfl, rfl⟩ := Qj h; exact ⟨rfl, rfl⟩
    | un => cases h
    | acc _ => cases h
theorem Qa (i : Nat) {x : Str} {pos : Pos} (hN : X.N[i]? = some x := by rfl) (hv : Vis X.env.scope x := by first | exact Or.inl rfl | exact Or.inr (Or.inl rfl) | exact Or.inr (Or.inr rfl)) (hd : (x == ("__debug__" : Str)) = false := by decide)
    (hcd : (x == ("__classdict__" : Str)) = false := by decide) : DE X (.Name x pos) (Qb i) :=
  (gX hN hv hd hcd).imp fun σ H Q ⟨Z, env, ρ, B, hp, d, hp', S, e, k⟩ => by
    obtain ⟨e1, rfl⟩ := gg e
    obtain ⟨v, h1, h2⟩ := S.slot i d e1
    exact ⟨v, h1, k v ρ B H Gr.refl S.wo h2⟩
theorem zO {e : Expr} {d : DV} {v : V} (h : PE X e (tC v)) (r : ∀ K ρ B H, RepV K ρ B H d v) : DE X e (eC d) :=
  h.imp fun σ H Q ⟨Z, env, ρ, B, hp, d', hp', S, e, k⟩ => by
    obtain ⟨rfl, rfl⟩ := Qj e
    exact k v ρ B H Gr.refl S.wo (r _ _ _ _)
theorem Qp {i : Int} {j pos} : DE X (.Constant (.int i) j pos) (eC (.int i)) := zO Qdq fun _ _ _ _ => by unfold RepV; rfl
theorem Yl {b : Bool} {j pos} : DE X (.Constant (.bool b) j pos) (eC (.bl b)) := zO QeL fun _ _ _ _ => by unfold RepV; rfl
theorem Zy {j pos} : DE X (.Constant .none j pos) (eC .non) := zO Qdi fun _ _ _ _ => by unfold RepV; rfl
theorem J1 {x : Str} {j pos} : DE X (.Constant (.str x) j pos) (eC (.str x)) := zO QdU fun _ _ _ _ => by unfold RepV; rfl
theorem Q5 {x : Str} {i : Int} {t : Tok} {pos : Pos} (hg : Gl X x) (hm : X.mg x = some (.int i t)) (hd : (x == ("__debug__" : Str)) = false := by decide) : DE X (.Name x pos) (eC (.int i)) :=
  zO (uO (v := .int i) hg hm ⟨t, rfl⟩ hd) fun _ _ _ _ => by unfold RepV; rfl
def tP2 (K : PySem.W.Frag) (g : DV -> DV -> M DV) : R2 := fun x y H Q => ∃ ρ B hp dx dy d hp', WOk K ρ B hp H /\ RepV K ρ B H dx x /\ RepV K ρ B H dy y /\ g dx dy hp = some (d, hp') /\ Fol K ρ B H d hp' Q
def P2 (X : Cx) (f : Value -> Value -> Sem Value) (g : DV -> DV -> M DV) : Prop := OpR X f (tP2 X.K g)
def Qh (g : DV -> DV -> M DV) (a b : DEx) : DEx := fun env => do let x <- a env; let y <- b env; g x y
variable {a b c : Expr} {fa fb fc : DEx} {pos : Pos}
theorem zw {K : PySem.W.Frag} {g : DV -> DV -> M DV} {σ : St} {H : Hp} {Q : VK} (h : tD K (Qh g fa fb) σ H Q) : tOp (tP2 K g) (tD K fa) (tD K fb) σ H Q := by
  obtain ⟨Z, env, ρ, B, hp, d, hp', S, e, k⟩ := h
  obtain ⟨x, hp1, e1, e2⟩ := Qf e
  obtain ⟨y, hp2, e3, e4⟩ := Qf e2
  refine tD.run S e1 fun v ρ1 B1 H1 g1 S1 r1 => tD.run S1 e3 fun u ρ2 B2 H2 g2 S2 r2 => ?_
  exact ⟨ρ2, B2, hp2, x, y, d, hp', S2.wo, RepV.grow S1.wo.rb g2 _ _ r1, r2, e4, fun w ρ' B' H' g W r => k w ρ' B' H' (g1.trans (g2.trans g)) W r⟩
theorem Qy {op : Operator} {g : DV -> DV -> M DV} (ho : P2 X (binaryOp op) g) (ha : DE X a fa) (hb : DE X b fb) : DE X (.BinOp a op b pos) (Qh g fa fb) :=
  (Qex ho ha hb).imp fun _ _ _ h => zw h
theorem zM {op : CmpOp} {g : DV -> DV -> M DV} (ho : P2 X (compareOp op) g) (ha : DE X a fa) (hb : DE X b fb) (hm : behindInMarks op b = false) : DE X (.Compare a [op] [b] pos) (Qh g fa fb) :=
  (Qbt ho ha hb hm).imp fun _ _ _ h => zw h
def asB : DV -> M Bool
  | .bl b => pure b
  | _ => failure
def eB (f : DEx) : DTx := fun env => do asB (<- f env)
theorem zE {d : DV} {c : Bool} {hp hp' : Hs} (h : asB d hp = some (c, hp')) : d = .bl c /\ hp = hp' := by
  cases d with
  | bl b => obtain ⟨rfl, rfl⟩ := Qj h; exact ⟨rfl, rfl⟩
  | _ => cases h
theorem RepV.blI {K : PySem.W.Frag} {ρ : List Addr} {B : Addr -> Prop} {H : Hp} {b : Bool} {v : V} (h : RepV K ρ B H (.bl b) v) : v = .bl b := by unfold RepV at h; exact h
theorem RepV.intI {K : PySem.W.Frag} {ρ : List Addr} {B : Addr -> Prop} {H : Hp} {b : Int} {v : V} (h : RepV K ρ B H (.int b) v) : v = .int b := by unfold RepV at h; exact h
theorem RepV.strI {K : PySem.W.Frag} {ρ : List Addr} {B : Addr -> Prop} {H : Hp} {b : Str} {v : V} (h : RepV K ρ B H (.str b) v) : v = .str b := by unfold RepV at h; exact h
theorem RepV.nonI {K : PySem.W.Frag} {ρ : List Addr} {B : Addr -> Prop} {H : Hp} {v : V} (h : RepV K ρ B H .non v) : v = .non := by unfold RepV at h; exact h
theorem RepV.tupI {K : PySem.W.Frag} {ρ : List Addr} {B : Addr -> Prop} {H : Hp} {ds : List DV} {v : V} (h : RepV K ρ B H (.tup ds) v) : ∃ a xs, v = .ref a /\ ¬ B a /\ SqT K H a xs /\ RepL K ρ B H ds xs := by unfold RepV at h; exact h
theorem RepV.lstI {K : PySem.W.Frag} {ρ : List Addr} {B : Addr -> Prop} {H : Hp} {ds : List DV} {v : V} (h : RepV K ρ B H (.lst ds) v) : ∃ a xs, v = .ref a /\ ¬ B a /\ SqL K H a xs /\ RepL K ρ B H ds xs := by unfold RepV at h; exact h
theorem RepV.refI {K : PySem.W.Frag} {ρ : List Addr} {B : Addr -> Prop} {H : Hp} {i : Nat} {v : V} (h : RepV K ρ B H (.ref i) v) : ∃ a, v = .ref a /\ ρ[i]? = some a := by unfold RepV at h; exact h
section
variable {K : PySem.W.Frag} {ρ : List Addr} {B : Addr -> Prop} {H : Hp}
theorem Yr {b : Bool} : RepV K ρ B H (.bl b) (.bl b) := by unfold RepV; rfl
theorem JY {b : Int} : RepV K ρ B H (.int b) (.int b) := by unfold RepV; rfl
theorem zP : RepV K ρ B H .non .non := by unfold RepV; rfl
theorem zT {a : Addr} {ds : List DV} {xs : List V} (h1 : ¬ B a) (h2 : SqT K H a xs) (h3 : RepL K ρ B H ds xs) : RepV K ρ B H (.tup ds) (.ref a) := by unfold RepV; exact ⟨a, xs, rfl, h1, h2, h3⟩
theorem yD {a : Addr} {ds : List DV} {xs : List V} (h1 : ¬ B a) (h2 : SqL K H a xs) (h3 : RepL K ρ B H ds xs) : RepV K ρ B H (.lst ds) (.ref a) := by unfold RepV; exact ⟨a, xs, rfl, h1, h2, h3⟩
end
theorem zG {e : Expr} {f : DEx} (h : DE X e f) (he : ∀ whole, isTrue e X.env whole = (do let v <- whole; standAt e.pos; holding [v] (truthy v)) := by intro _; rfl) : DT X e (eB f) :=
  (QdD h he).imp fun σ H Q ⟨Z, env, ρ, B, hp, d, hp', S, e, k⟩ => by
    obtain ⟨x, hp1, e1, e2⟩ := Qf e
    obtain ⟨rfl, rfl⟩ := zE e2
    exact tD.run S e1 fun v ρ1 B1 H1 g1 S1 r1 => ⟨d, r1.blI, k ρ1 B1 H1 g1 S1.wo⟩
theorem QM {op : CmpOp} {g : DV -> DV -> M DV} (ho : P2 X (compareOp op) g) (ha : DE X a fa) (hb : DE X b fb) (hm : behindInMarks op b = false) : DT X (.Compare a [op] [b] pos) (eB (Qh g fa fb)) :=
  (Qcd ho ha hb hm).imp fun σ H Q ⟨Z, env, ρ, B, hp, d, hp', S, e, k⟩ => by
    obtain ⟨x, hp1, e1, e2⟩ := Qf e
    obtain ⟨rfl, rfl⟩ := zE e2
    exact zw (tD.run S e1 fun v ρ1 B1 H1 g1 S1 r1 => ⟨d, r1.blI, k ρ1 B1 H1 g1 S1.wo⟩)
def Jh (f g : DTx) : DTx := fun env => do if <- f env then g env else pure false
def eOr (f g : DTx) : DTx := fun env => do if <- f env then pure true else g env
def JT (f : DTx) : DTx := fun env => do let b <- f env; pure (!b)
def J6 (f g : DEx) : DEx := fun env => do if <- asB (<- f env) then g env else pure (.bl false)
def qw (f g : DEx) : DEx := fun env => do if <- asB (<- f env) then pure (.bl true) else g env
def Xj (f : DEx) : DEx := fun env => do let b <- asB (<- f env); pure (.bl (!b))
def eIf (c : DTx) (f g : DEx) : DEx := fun env => do if <- c env then f env else g env
theorem tDT.run {K : PySem.W.Frag} {f : DTx} {Z : Ent} {env : En} {σ : St} {ρ : List Addr} {B : Addr -> Prop} {hp hp1 : Hs} {H : Hp} {d : Bool} {Q : Bool -> Hp -> Prop} (S : SOk K Z env σ ρ B hp H) (e : f env hp = some (d, hp1))
    (k : ∀ ρ' B' H', Gr K ρ B H ρ' B' H' -> SOk K Z env σ ρ' B' hp1 H' -> Q d H') : tDT K f σ H Q :=
  ⟨Z, env, ρ, B, hp, d, hp1, S, e, fun ρ' B' H' g W => k ρ' B' H' g (S.grow g W)⟩
variable {ca cb : DTx} {rest : List Expr}
theorem qT (h : DT X a ca) : DW X (.BoolOp .And [a] pos) ca := QbR h
theorem xP (h : DT X a ca) : DW X (.BoolOp .Or [a] pos) ca := QdZ h
theorem qY (ha : DT X a ca) (hb : DW X (.BoolOp .And (b :: rest) pos) cb) : DW X (.BoolOp .And (a :: b :: rest) pos) (Jh ca cb) :=
  (Qd1 ha hb).imp fun σ H Q ⟨Z, env, ρ, B, hp, d, hp', S, e, k⟩ => by
    obtain ⟨x, hp1, e1, e2⟩ := Qf e
    refine tDT.run S e1 fun ρ1 B1 H1 g1 S1 => ?_
    cases x with
    | true => exact UT (tDT.run S1 e2 fun ρ2 B2 H2 g2 S2 => k ρ2 B2 H2 (g1.trans g2) S2.wo)
    | false =>
      obtain ⟨rfl, rfl⟩ := Qj e2
      exact Kq (k ρ1 B1 H1 g1 S1.wo)
theorem VD (ha : DT X a ca) (hb : DW X (.BoolOp .Or (b :: rest) pos) cb) : DW X (.BoolOp .Or (a :: b :: rest) pos) (eOr ca cb) :=
  (QeP ha hb).imp fun σ H Q ⟨Z, env, ρ, B, hp, d, hp', S, e, k⟩ => by
    obtain ⟨x, hp1, e1, e2⟩ := Qf e
    refine tDT.run S e1 fun ρ1 B1 H1 g1 S1 => ?_
    cases x with
    | false => exact Kq (tDT.run S1 e2 fun ρ2 B2 H2 g2 S2 => k ρ2 B2 H2 (g1.trans g2) S2.wo)
    | true =>
      obtain ⟨rfl, rfl⟩ := Qj e2
      exact UT (k ρ1 B1 H1 g1 S1.wo)
theorem DW.pt {e : Expr} {f : DTx} (h : DW X e f) : DT X e f := h _
theorem jr (h : DT X a ca) : DT X (.UnaryOp .Not a pos) (JT ca) :=
  (Qdw h).imp fun σ H Q ⟨Z, env, ρ, B, hp, d, hp', S, e, k⟩ => by
    obtain ⟨x, hp1, e1, e2⟩ := Qf e
    obtain ⟨rfl, rfl⟩ := Qj e2
    exact tDT.run S e1 fun ρ1 B1 H1 g1 S1 => k ρ1 B1 H1 g1 S1.wo
theorem QdN {op : BoolOp} (h : DE X a fa) : DE X (.BoolOp op [a] pos) fa := QdG h
theorem QdR (ha : DE X a fa) (hb : DE X (.BoolOp .And (b :: rest) pos) fb) : DE X (.BoolOp .And (a :: b :: rest) pos) (J6 fa fb) :=
  (QcT ha hb).imp fun σ H Q ⟨Z, env, ρ, B, hp, d, hp', S, e, k⟩ => by
    obtain ⟨x, hp1, e1, e2⟩ := Qf e
    obtain ⟨c, hp2, e3, e4⟩ := Qf e2
    obtain ⟨rfl, rfl⟩ := zE e3
    refine tD.run S e1 fun v ρ1 B1 H1 g1 S1 r1 => ⟨c, r1.blI, ?_⟩
    cases c with
    | true => exact UT (tD.run S1 e4 fun v ρ2 B2 H2 g2 S2 r2 => k v ρ2 B2 H2 (g1.trans g2) S2.wo r2)
    | false =>
      obtain ⟨rfl, rfl⟩ := Qj e4
      exact Kq (k _ ρ1 B1 H1 g1 S1.wo Yr)
theorem QcI (hc : DT X c ca) (ha : DE X a fa) (hb : DE X b fb) : DE X (.IfExp c a b pos) (eIf ca fa fb) :=
  (kI hc ha hb).imp fun σ H Q ⟨Z, env, ρ, B, hp, d, hp', S, e, k⟩ => by
    obtain ⟨x, hp1, e1, e2⟩ := Qf e
    refine tDT.run S e1 fun ρ1 B1 H1 g1 S1 => ?_
    cases x with
    | true => exact UT (tD.run S1 e2 fun v ρ2 B2 H2 g2 S2 r2 => k v ρ2 B2 H2 (g1.trans g2) S2.wo r2)
    | false => exact Kq (tD.run S1 e2 fun v ρ2 B2 H2 g2 S2 r2 => k v ρ2 B2 H2 (g1.trans g2) S2.wo r2)
def Qm : DAx := fun _ => pure []
def Qc (f : DEx) (g : DAx) : DAx := fun env => do let x <- f env; let xs <- g env; pure (x :: xs)
theorem tDA.run {K : PySem.W.Frag} {f : DAx} {Z : Ent} {env : En} {σ : St} {ρ : List Addr} {B : Addr -> Prop} {hp hp1 : Hs} {H : Hp} {ds : List DV} {Q : List V -> Hp -> Prop} (S : SOk K Z env σ ρ B hp H) (e : f env hp = some (ds, hp1))
    (k : ∀ vs ρ' B' H', Gr K ρ B H ρ' B' H' -> SOk K Z env σ ρ' B' hp1 H' -> RepL K ρ' B' H' ds vs -> Q vs H') : tDA K f σ H Q :=
  ⟨Z, env, ρ, B, hp, ds, hp1, S, e, fun vs ρ' B' H' g W r => k vs ρ' B' H' g (S.grow g W) r⟩
theorem Qn : DA X [] Qm := pa_nil.imp fun σ H Q ⟨Z, env, ρ, B, hp, ds, hp', S, e, k⟩ => by
  obtain ⟨rfl, rfl⟩ := Qj e
  exact k [] ρ B H Gr.refl S.wo RepL.nil
theorem Qd {e : Expr} {es : List Expr} {f : DEx} {g : DAx} (ha : DE X e f) (hr : DA X es g) (hs : starEach (e :: es) X.env = (false, eval e X.env) :: starEach es X.env := by rfl) : DA X (e :: es) (Qc f g) :=
  (Kl ha hr hs).imp fun σ H Q ⟨Z, env, ρ, B, hp, ds, hp', S, e, k⟩ => by
    obtain ⟨x, hp1, e1, e2⟩ := Qf e
    obtain ⟨xs, hp2, e3, e4⟩ := Qf e2
    obtain ⟨rfl, rfl⟩ := Qj e4
    exact tD.run S e1 fun v ρ1 B1 H1 g1 S1 r1 => tDA.run S1 e3 fun vs ρ2 B2 H2 g2 S2 r2 => k _ ρ2 B2 H2 (g1.trans g2) S2.wo (RepL.cons (RepV.grow S1.wo.rb g2 _ _ r1) r2)
def lim : Nat := 100000
theorem Kd : lim <= sizeLine := by decide
def Qu (c : Bool) : M Unit := if c then pure () else failure
theorem QH {c : Bool} {hp hp' : Hs} {u : Unit} (h : Qu c hp = some (u, hp')) : c = true /\ hp = hp' := by
  cases c with
  | true => obtain ⟨_, rfl⟩ := Qj (show (pure () : M Unit) hp = some (u, hp') from h); exact ⟨rfl, rfl⟩
  | false => cases h
def Xu (ds : List DV) : Bool := decide (ds.length <= lim)
theorem zr {ds : List DV} (h : Xu ds = true) : ds.length <= sizeLine := Nat.le_trans (of_decide_eq_true h) Kd
def ZF (f : DAx) : DEx := fun env => do let xs <- f env; Qu (Xu xs); pure (.tup xs)
def JW (f : DAx) : DEx := fun env => do let xs <- f env; Qu (Xu xs); pure (.lst xs)
theorem jE {K : PySem.W.Frag} {ρ : List Addr} {B : Addr -> Prop} {H : Hp} {hp : Hs} {ds : List DV} {xs : List V} {Q : VK} (W : WOk K ρ B hp H) (r : RepL K ρ B H ds xs) (k : Fol K ρ B H (.tup ds) hp Q) : ∀ p, H p = none -> Q (.ref p) (upd H p (.tup xs)) := fun p hp' =>
  k _ ρ B _ (Gr.laid hp') (W.laid hp') (zT (fun z => W.bt p z hp') (SqT.of Q8) (RepL.grow W.rb (Gr.laid hp') _ _ r))
theorem yI {K : PySem.W.Frag} {ρ : List Addr} {B : Addr -> Prop} {H : Hp} {hp : Hs} {ds : List DV} {xs : List V} {Q : VK} (W : WOk K ρ B hp H) (r : RepL K ρ B H ds xs) (k : Fol K ρ B H (.lst ds) hp Q) : ∀ p, H p = none -> Q (.ref p) (upd H p (.lst xs)) := fun p hp' =>
  k _ ρ B _ (Gr.laid hp') (W.laid hp') (yD (fun z => W.bt p z hp') (SqL.of Q8) (RepL.grow W.rb (Gr.laid hp') _ _ r))
theorem Fol.after {K : PySem.W.Frag} {ρ ρ1 : List Addr} {B B1 : Addr -> Prop} {H H1 : Hp} {hp' : Hs} {d : DV} {Q : VK} (g : Gr K ρ B H ρ1 B1 H1) (k : Fol K ρ B H d hp' Q) : Fol K ρ1 B1 H1 d hp' Q := fun v ρ' B' H' g' W r => k v ρ' B' H' (g.trans g') W r
theorem ZT {es : List Expr} {f : DAx} {x1} (h : DA X es f) : DE X (.Tuple es x1 pos) (ZF f) :=
  (QcS h).imp fun σ H Q ⟨Z, env, ρ, B, hp, d, hp', S, e, k⟩ => by
    obtain ⟨xs, hp1, e1, e2⟩ := Qf e
    obtain ⟨_, hp2, e3, e4⟩ := Qf e2
    obtain ⟨hs, rfl⟩ := QH e3
    obtain ⟨rfl, rfl⟩ := Qj e4
    exact tDA.run S e1 fun vs ρ1 B1 H1 g1 S1 r1 => ⟨by rw [<- r1.length]; exact zr hs, jE S1.wo r1 (k.after g1)⟩
theorem zH {es : List Expr} {f : DAx} (h : DA X es f) : DE X (.List es pos) (JW f) :=
  (kW h).imp fun σ H Q ⟨Z, env, ρ, B, hp, d, hp', S, e, k⟩ => by
    obtain ⟨xs, hp1, e1, e2⟩ := Qf e
    obtain ⟨_, hp2, e3, e4⟩ := Qf e2
    obtain ⟨hs, rfl⟩ := QH e3
    obtain ⟨rfl, rfl⟩ := Qj e4
    exact tDA.run S e1 fun vs ρ1 B1 H1 g1 S1 r1 => ⟨by rw [<- r1.length]; exact zr hs, yI S1.wo r1 (k.after g1)⟩
end
end D
namespace L2
open PySem PySem.Spec PyProof.Rows
def XN (X : Cx) (scope : Scope) (cl : List (Str × Addr)) (C : Addr) (N : List Str) (s₀ : Shared) (H₀ : Hp) (ex : List Addr) : Cx where
  prog := X.prog
  w := X.w
  K := X.K
  mg := X.mg
  base := X.base
  A := X.A
  N := N
  s₀ := s₀
  H₀ := H₀
  env := compEnvC scope cl C X.env
  outer := X.stack
  stack := X.stack
  ex := ex
  fn := fun _ => false
  calm := X.calm
  pn := []
  xe := fun _ _ => False
def AllP {α : Type} (P : α -> Prop) : List α -> Prop
  | [] => True
  | x :: r => P x /\ AllP P r
theorem AllP.mem {α : Type} {P : α -> Prop} : ∀ {l : List α} {x : α}, AllP P l -> x ∈ l -> P x
  | [], _, _, h => nomatch h
  | y :: r, x, ⟨h1, h2⟩, h => (List.mem_cons.mp h).elim (fun e => e ▸ h1) fun e => AllP.mem h2 e
def Caps (X : Cx) (scope : Scope) (cl : List (Str × Addr)) : List Str -> List Nat -> Prop
  | [], [] => True
  | y :: ys, i :: is => X.N[i]? = some y /\ (X.env.kindOf y = some .cell ∨ X.env.kindOf y = some .free) /\ (∃ c, cl.lookup y = some c) /\
      (relabel scope X.env).names.lookup y ≠ some .local /\ Caps X scope cl ys is
  | _, _ => False
theorem Caps.get {X : Cx} {scope : Scope} {cl : List (Str × Addr)} : ∀ {ys : List Str} {is : List Nat} {j : Nat} {y : Str}, Caps X scope cl ys is -> ys[j]? = some y ->
    ∃ i, is[j]? = some i /\ X.N[i]? = some y /\ (X.env.kindOf y = some .cell ∨ X.env.kindOf y = some .free) /\ (∃ c, cl.lookup y = some c) /\ (relabel scope X.env).names.lookup y ≠ some .local
  | [], _, _, _, _, h => by simp at h
  | y :: ys, [], _, _, h, _ => by simp [Caps] at h
  | y :: ys, i :: is, 0, z, ⟨h1, h2, h3, h4, _⟩, h => by simp at h; subst h; exact ⟨i, rfl, h1, h2, h3, h4⟩
  | y :: ys, i :: is, j + 1, z, ⟨_, _, _, _, h5⟩, h => by
    obtain ⟨k, a, b⟩ := Caps.get h5 (by simpa using h)
    exact ⟨k, by simpa using a, b⟩
theorem Caps.length {X : Cx} {scope : Scope} {cl : List (Str × Addr)} : ∀ {ys : List Str} {is : List Nat}, Caps X scope cl ys is -> ys.length = is.length
  | [], [], _ => rfl
  | [], _ :: _, h => by simp [Caps] at h
  | _ :: _, [], h => by simp [Caps] at h
  | _ :: ys, _ :: is, ⟨_, _, _, _, h⟩ => by simp [Caps.length h]
structure Ui (X : Cx) (x : Str) (scope : Scope) (cl : List (Str × Addr)) (caps : List Str) (idx : List Nat) : Prop where
  clos : closureFor scope X.env = pure cl
  cell : ∀ y ∈ scope.names, y.2 ≠ .cell
  kind : scope.kind = .function
  names : ∀ y ∈ scope.names, y.2 = .local -> scope.names.lookup y.1 = some .local
  hx : scope.names.lookup x = some .local
  cls : AllP (fun p : Str × Addr => X.env.cells.lookup p.1 = some p.2) cl
  has : ((relabel scope X.env).names.all fun p => !(p.2 == .cell || p.2 == .free) || (cl.lookup p.1).isSome) = true
  cps : Caps X scope cl caps idx
  nd : (x :: caps).Nodup
def cσ (idx : List Nat) (σ : St) (o : Option V) : St := o :: idx.map fun i => (σ[i]?).join
def PTs (X : Cx) (ifs : List Expr) (t : TT) : Prop :=
  ∀ (pins : List (Addr × Obj)) (s : Shared) (σ : St) (H : Hp) (Q : Bool -> Hp -> Prop), Inv X pins σ H s -> t σ H Q ->
    wpAny (model X.prog X.w) X.A (forIn ifs true fun c r => if r = true then do let ok <- isTrue c X.env (eval c X.env); pure (ForInStep.yield ok) else pure (ForInStep.yield r)) (TP X pins σ Q) X.xe s
theorem Qb7 {X : Cx} : PTs X [] (fun _ H Q => Q true H) := fun pins s σ H Q I h => wpAny_tests_nil ⟨H, I, h⟩
theorem Qbx {X : Cx} {c : Expr} {t : TT} (h : PT X c t) : PTs X [c] t := fun pins s σ H Q I q => wpAny_tests_one (h pins s σ H Q I q)
section
variable {prog : Program} {w : World} {A : Around} {R : Result -> Shared -> Prop} {s : Shared}
theorem Km {elt target iter : Expr} {ifs : List Expr} {scope : Scope} {pos : Pos} {it acc : Value} {env : Env} (I : Nat -> Shared -> Prop)
    (turn : ∀ n s, I n s -> wpAny (model prog w) A (pyNext it) (fun r s₁ => match r with
      | none => R (.ok .next) s₁
      | some v => wpAny (model prog w) A (letOwnedTupleGo target it v) (fun _ s₁' => wpAny (model prog w) A (assign target env v) (fun _ s₂ =>
          wpAny (model prog w) A (forIn ifs true fun c r => if r = true then do let ok <- isTrue c env (eval c env); pure (ForInStep.yield ok) else pure (ForInStep.yield r)) (fun ok s₃ =>
            if ok = true then wpAny (model prog w) A (eval elt env) (fun x s₄ =>
              wpAny (model prog w) A (call (.builtin "list.append") [acc, x]) (fun _ s₅ => ∃ m, m < n /\ I m s₅) (fun _ _ => False) s₄) (fun _ _ => False) s₃
            else ∃ m, m < n /\ I m s₃) (fun _ _ => False) s₂) (fun _ _ => False) s₁') (fun _ _ => False) s₁) (fun _ _ => False) s)
    (n : Nat) (h : I n s) :
    codeAny (model prog w) A (.compLoop (.ListComp elt [⟨target, iter, ifs, 0⟩] scope pos) 0 it acc env) R s := by
  refine codeAny_loop rfl I (fun n s hI => ?_) n h
  show wpAny _ A ((compTurn (.ListComp elt [⟨target, iter, ifs, 0⟩] scope pos) 0 it acc env).onRaise (fun x => do noteFrame x env; theTreesLotGoes x)) _ _ s
  refine wpAny_noted ?_
  rw [compTurn_list]
  refine wpAny_bind (wpAny_standAt (wpAny_bind (wpAny_mono (turn n s hI) (fun r s₁ h₁ => ?_) fun _ _ h' => h'.elim)))
  cases r with
  | none => exact wpAny_pure h₁
  | some v =>
    refine wpAny_bind (wpAny_mono h₁ (fun _ s₁' h₁' => ?_) fun _ _ h' => h'.elim)
    refine wpAny_bind (wpAny_mono h₁' (fun _ s₂ h₂ => wpAny_bind (wpAny_mono h₂ (fun ok s₃ h₃ => ?_) fun _ _ h' => h'.elim)) fun _ _ h' => h'.elim)
    cases ok with
    | false => exact wpAny_pure ⟨rfl, h₃⟩
    | true =>
      exact wpAny_bind (wpAny_bind (wpAny_mono h₃ (fun x s₄ h₄ => wpAny_bind (wpAny_mono h₄ (fun _ s₅ h₅ => wpAny_pure (wpAny_pure ⟨rfl, h₅⟩)) fun _ _ h' => h'.elim)) fun _ _ h' => h'.elim))
end
def Gi (K : PySem.W.Frag) (wi : TI) (tt : TT) (te : TE) (idx : List Nat) : TE := fun σ H Q => wi σ H fun J H1 => ∀ D, H1 D = none -> K.lookup D = none -> ∃ W : Nat -> Nat -> List V -> Hp -> Prop, (∃ m, W 0 m [] (upd H1 D (.lst []))) /\
  ∀ i m ys H, W i m ys H -> H D = some (.lst ys) /\ ((J.stop i H /\ Q (.ref D) H) ∨ (J.go i H /\ ∀ x H', J.yld i H x H' -> tt (cσ idx σ (some x)) H' fun b H2 =>
    if b = true then te (cσ idx σ (some x)) H2 fun y H3 => H3 D = some (.lst ys) /\ ys.length < sizeLine /\ ∃ m', m' < m /\ W (i + 1) m' (ys ++ [y]) (upd H3 D (.lst (ys ++ [y])))
    else ∃ m', m' < m /\ W (i + 1) m' ys H2))
section
variable {X : Cx} {elt iter : Expr} {x : Str} {px : Pos} {ifs : List Expr} {scope : Scope} {cl : List (Str × Addr)} {pos : Pos} {caps : List Str} {idx : List Nat} {wi : TI} {tt : TT} {te : TE}
theorem Gh {E : Value -> Shared -> Prop} {use : Option (Value -> Sem Unit)} {QQ : Value -> Shared -> Prop} {newpos : Pos} (S : Ui X x scope cl caps idx) (hc : X.calm = true) (hi : PI X (.Name x px) iter wi)
    (ht : ∀ C s₀ H₀ ex, PTs (XN X scope cl C (x :: caps) s₀ H₀ ex) ifs tt) (he : ∀ C s₀ H₀ ex, PE (XN X scope cl C (x :: caps) s₀ H₀ ex) elt te)
    {pins : List (Addr × Obj)} {s : Shared} {σ : St} {H : Hp} {Q : VK} (I : Inv X pins σ H s) (h : Gi X.K wi tt te idx σ H Q)
    (hE : X.xe = E)
    (hend : ∀ (D C : Addr) (H' : Hp) (s' : Shared) (m : Str -> Option Value), Inv X pins σ H' s' -> Q (.ref D) H' -> s'.heap.Ns C m -> H' C = none -> C ≠ X.env.locals -> X.s₀.heap.objs.size <= C -> (∀ x c, X.env.cells.lookup x = some c -> c ≠ C) -> (∀ p ∈ X.pn ++ pins, p.1 ≠ C) ->
      compPost (model X.prog X.w) X.A E use QQ (.ref D) C (.ok .next) s')
    (hs : ∀ x, foldedSetIterable iter X.env x = pure x := by intro _; rfl) :
    wpAny (model X.prog X.w) X.A (comprehension (.ListComp elt [⟨.Name x px, iter, ifs, 0⟩] scope pos) scope X.env newpos (newList []) false (eval iter X.env) use) QQ E s := by
  subst hE
  refine wpAny_comprehension_free (use := use) rfl hs S.clos S.kind S.names (thn (hi pins s σ H _ I h) fun xv s1 h1 => thn h1 fun itv s2 h2 => ?_)
  obtain ⟨it, fp, tn, J, H2, rfl, I2, T, st2, f2, hQ⟩ := h2
  refine wpAny_newObj_type (wpAny_newFunctionEnv S.cell (by intro y hy; simp at hy) (fun h₁ hns₁ hsb₁ => ?_) S.kind)
  dsimp only at hns₁ hsb₁ ⊢
  generalize hH2 : s2.heap.push { cls := .type "list", dict := none, data := .seq ([] : List Value).toArray } = hp3 at hns₁ hsb₁ ⊢
  have hC : hp3.objs.size = s2.heap.objs.size + 1 := by rw [<- hH2, Heap.size_push]
  have keep3 : ∀ b o, s2.heap.get? b = some o -> hp3.get? b = some o := fun b o e => hH2 ▸ Heap.get?_push_of_some _ e
  have hDf : H2 s2.heap.objs.size = none := I2.hok.fresh (Nat.le_refl _)
  have I3 : Inv X pins σ (upd H2 s2.heap.objs.size (.lst [])) { s2 with heap := hp3 } :=
    I2.laid (t' := s2.toks) keep3 (Nat.le_refl _) ⟨Nat.zero_le _, [], _, .nil, hH2 ▸ Heap.get?_push_size _ rfl⟩
  have hDk : X.K.lookup s2.heap.objs.size = none := by
    cases q : X.K.lookup s2.heap.objs.size with
    | none => rfl
    | some o => exact absurd (Heap.lt_size (I2.kIn _ o q)) (Nat.lt_irrefl _)
  obtain ⟨W, ⟨m0, w0⟩, turn⟩ := hQ _ hDf hDk
  generalize hDd : s2.heap.objs.size = D at *
  generalize hCc : hp3.objs.size = C at *
  have ltC : ∀ b o, hp3.get? b = some o -> b ≠ C := fun b o e => by rw [<- hCc]; exact Nat.ne_of_lt (Heap.lt_size e)
  have keep4 : ∀ b o, hp3.get? b = some o -> h₁.get? b = some o := fun b o e => hsb₁.extBut b o (ltC b o e) (Heap.get?_push_of_some _ e)
  have s3sz : ({ s2 with heap := hp3 } : Shared).heap.objs.size = C := hCc
  have clE : ∀ y c, cl.lookup y = some c -> X.env.cells.lookup y = some c := fun y c e => S.cls.mem (PySem.mem_of_lookup e)
  have fpLt : ∀ b ∈ fp, ∃ o, s2.heap.get? b = some o := fun b hb => let ⟨o, e, _⟩ := T.obj _ _ st2 b hb; ⟨o, e⟩
  have fpC : ∀ b ∈ fp, b ≠ C := fun b hb => let ⟨o, e⟩ := fpLt b hb; ltC b o (keep3 b o e)
  have fpD : ∀ b ∈ fp, b ≠ D := fun b hb => let ⟨o, e⟩ := fpLt b hb; by rw [<- hDd]; exact Nat.ne_of_lt (Heap.lt_size e)
  have fr3 : ∀ b ∈ fp, (upd H2 D (.lst [])) b = none := fun b hb => by rw [QS (fpD b hb)]; exact (f2 b hb).1
  have cellLt : ∀ y c, X.env.cells.lookup y = some c -> c ≠ C := fun y c e => let ⟨v, o, ho, _⟩ := I3.cell y c e; ltC c o ho
  have fpStk : ∀ b ∈ fp, b ∉ frs X.stack := fun b hb z => (List.mem_cons.mp (I2.stkSub b z)).elim (f2 b hb).2.1 (f2 b hb).2.2.1
  let X' := XN X scope cl C (x :: caps) { s2 with heap := hp3 } (upd H2 D (.lst [])) fp
  have ok' : X'.Ok := by
    refine ⟨I3.ok.mod, by show (relabel scope X.env).kind = _; exact S.kind, I3.ok.glob, I3.ok.blt, by show hp3.objs.size <= C; rw [hCc]; exact Nat.le_refl _, fun y z c h1 h2 => I3.ok.inj y z c (clE y c h1) (clE z c h2), fun y hy => ?_,
      fun y c z => (by cases z), I3.ok.hd, I3.ok.frames, .inl rfl, fun b hb => ⟨fpC b hb, fun y c e => (f2 b hb).2.2.2.2.1 y c (clE y c e)⟩, I3.bs, Nat.le_trans I3.ok.bsz I3.sz,
      fun b o e hb => ?_, fun b hb => fpStk b hb, I3.stack, I3.stkFree⟩
    . have hy' : (relabel scope X.env).names.lookup y = some .cell ∨ (relabel scope X.env).names.lookup y = some .free := hy
      have q := S.has
      rw [List.all_eq_true] at q
      have : (cl.lookup y).isSome = true := by
        rcases hy' with z | z
        . have q := q _ (PySem.mem_of_lookup z); simpa using q
        . have q := q _ (PySem.mem_of_lookup z); simpa using q
      exact Option.isSome_iff_exists.mp this
    . have := (f2 b hb).2.2.2.1
      have e3 := (I2.ok.bs b o e).1
      rcases this with z | z
      . exact I2.ok.noex b o e z
      . exact absurd (Nat.lt_of_lt_of_le (Heap.lt_size e3) z) (Nat.lt_irrefl _)
  have capsLen := S.cps.length
  have I4 : Inv X' [] (cσ idx σ none) (upd H2 D (.lst [])) { s2 with heap := h₁, toks := s2.toks + ([] : List (Str × Value)).length } := by
    refine ⟨ok', rfl, I3.bare, Un.kept keep4, ⟨_, hns₁, fun i y v e1 e2 e3 => ?_⟩, fun y c e => ?_, ?_, fun y c e => I3.freeC y c (clE y c e), fun p hp => absurd (show p ∈ ([] : List (Addr × Obj)) from hp) (by simp), I3.hok.kept keep4, ?_⟩
    . cases i with
      | zero => exact absurd e2 (by simp [cσ])
      | succ j =>
        obtain ⟨k, h1, h2, h3, ⟨c, h4⟩, h5⟩ := S.cps.get (show caps[j]? = some y by have e1' : (x :: caps)[j + 1]? = some y := e1; simpa using e1')
        have e2' : (σ[k]?).join = some v := by simpa [cσ, h1] using e2
        have e2'' : σ[k]? = some (some v) := by
          cases q : σ[k]? with
          | none => rw [q] at e2'; cases e2'
          | some z => rw [q] at e2'; exact congrArg some e2'
        obtain ⟨mL, hnL, hl⟩ := I3.loc
        have vis : Vis X.env.scope y := by rcases h3 with z | z; exact .inr (.inl z); exact .inr (.inr z)
        obtain ⟨u, r, l⟩ := hl k y v h2 e2'' vis
        refine ⟨u, r, .inr ⟨?_, c, h4, ?_⟩⟩
        . have e3' : (relabel scope X.env).names.lookup y = some .local ∨ (relabel scope X.env).names.lookup y = some .cell ∨ (relabel scope X.env).names.lookup y = some .free := e3
          rcases e3' with z | z | z
          . exact absurd z h5
          . exact .inl z
          . exact .inr z
        . rcases l with ⟨z, _⟩ | ⟨_, c', e, z⟩
          . rcases h3 with q | q <;> · rw [q] at z; cases z
          . rw [clE y c h4] at e; cases e
            obtain ⟨o, ho, hd⟩ := z
            exact ⟨o, keep4 _ _ ho, hd⟩
    . obtain ⟨v, o, ho, hd⟩ := I3.cell y c (clE y c e)
      exact ⟨v, o, keep4 _ _ ho, hd⟩
    . exact I3.hok.fresh (by show hp3.objs.size <= C; rw [hCc]; exact Nat.le_refl _)
    . simp [cσ, X', XN, capsLen]
  have st4 : tn 0 h₁ := T.keep _ _ _ st2 fun b _ o e => keep4 b o (keep3 b o e)
  have fpX : ∀ {H' : Hp} {pins' : List (Addr × Obj)}, (∀ b ∈ fp, H' b = none) -> (pins' = []) -> ∀ b ∈ fp, Kh X' pins' H' b := fun hn e b hb => by
    subst e
    exact ⟨hn b hb, fpC b hb, fpStk b hb, .inl hb, fun y c e => (f2 b hb).2.2.2.2.1 y c (clE y c e), fun p hp => absurd (show p ∈ ([] : List (Addr × Obj)) from hp) (by simp)⟩
  have loop : ∀ s₃ : Shared, s₃ = { s2 with heap := h₁, toks := s2.toks + ([] : List (Str × Value)).length } ->
      codeAny (model X.prog X.w) X.A (.compLoop (.ListComp elt [⟨.Name x px, iter, ifs, 0⟩] scope pos) 0 (.ref it) (.ref D) (compEnvC scope cl C X.env)) (compPost (model X.prog X.w) X.A X.xe use QQ (.ref D) C) s₃ := by
    rintro s₃ rfl
    refine Km (fun n s' => ∃ i o H' ys, Inv X' [] (cσ idx σ o) H' s' /\ tn i s'.heap /\ (∀ b ∈ fp, H' b = none) /\ W i n ys H') ?_ m0 ⟨0, none, _, [], I4, st4, fr3, w0⟩
    rintro n s5 ⟨i, o, H5, ys, I5, st5, fr5, w5⟩
    obtain ⟨hD, tw⟩ := turn i n ys H5 w5
    rcases tw with ⟨stop, q⟩ | ⟨go, step⟩
    . refine thn (T.done X' rfl rfl rfl hc i [] s5 _ H5 _ I5 (fpX fr5 rfl) st5 stop) fun r s6 ⟨hr, I6⟩ => ?_
      subst hr
      obtain ⟨m6, hn6, _⟩ := I6.loc
      have I7 : Inv X pins σ H5 s6 := I3.call' (s' := s6) (ch := fp) I6.os I6.base I6.hok I6.bare fun b hb => ⟨(f2 b hb).2.2.2.1, (f2 b hb).2.1, (f2 b hb).2.2.2.2.1, (f2 b hb).2.2.2.2.2⟩
      refine hend D C H5 s6 m6 I7 q hn6 I6.free ?_ ?_ cellLt fun p hp => ?_
      . rw [<- hCc]; exact Nat.ne_of_gt I3.lt
      . rw [<- hCc]; exact I3.sz
      . exact ltC p.1 p.2 (I3.pin p hp).1
    . refine thn (T.item X' rfl rfl rfl hc i [] s5 _ H5 _ I5 (fpX fr5 rfl) st5 go) fun r s6 ⟨u, hr, h6⟩ => ?_
      subst hr
      refine thn h6 fun _ s7 ⟨y, H7, I7, r7, y7, st7, fr7⟩ => ?_
      have I7' := I7.pinned (fpX fr7 rfl) (T.obj _ _ st7)
      refine thn (uH (X := X') (i := 0) S.nd rfl (.inl (lookup_relabel_local S.hx)) (.inr (lookup_relabel_local S.hx)) _ s7 _ H7 y u (fun σ' H' => σ' = cσ idx σ (some y) /\ H' = H7) I7' r7 ⟨rfl, rfl⟩) fun _ s8 ⟨σ8, H8, I8, e8, e8'⟩ => ?_
      subst e8
      subst e8'
      have again : ∀ {H9 : Hp} {s9 : Shared} {ys' : List V}, Inv X' ([] ++ y2 fp s7.heap) (cσ idx σ (some y)) H9 s9 -> (∃ m', m' < n /\ W (i + 1) m' ys' H9) ->
          ∃ m, m < n /\ ∃ i o H' ys, Inv X' [] (cσ idx σ o) H' s9 /\ tn i s9.heap /\ (∀ b ∈ fp, H' b = none) /\ W i m ys H' := fun {H9 s9 ys'} I9 ⟨m', hm, w9⟩ => by
        refine ⟨m', hm, i + 1, some y, H9, ys', I9.unpinned, T.keep _ _ _ st7 fun b hb o e => (I9.pin (b, o) (List.mem_append_right _ (List.mem_append_right _ (q8 hb e)))).1, fun b hb => ?_, w9⟩
        obtain ⟨o, e, d⟩ := T.obj _ _ st7 b hb
        exact (I9.pin (b, o) (List.mem_append_right _ (List.mem_append_right _ (q8 hb e)))).2.1
      refine thn (ht _ _ _ _ _ s8 _ H8 _ I8 (step y H8 y7)) fun ok s9 ⟨H9, I9, q9⟩ => ?_
      cases ok with
      | false => exact again I9 (by rw [if_neg Bool.false_ne_true] at q9; exact q9)
      | true =>
        rw [if_pos rfl] at q9 ⊢
        refine thn (he _ _ _ _ _ s9 _ H9 _ I9 q9) fun v s10 ⟨z, H10, I10, r10, hD10, hlen, m', hm, w10⟩ => ?_
        refine thn (UA (X := X') _ s10 _ H10 (.ref D) [z] (.ref D) [v] (fun _ H' => H' = upd H10 D (.lst (ys ++ [z]))) I10 rfl (.cons r10 .nil) ⟨D, ys, z, rfl, rfl, hD10, hlen, rfl⟩) fun _ s11 ⟨_, H11, I11, _, e11⟩ => ?_
        subst e11
        exact again I11 ⟨m', hm, w10⟩
  exact codeAny_compStart_list (loop _ rfl) (T.self X.A 0 _ _ _ st4 (loop _ rfl))
end
end L2
namespace L2
open PySem PySem.Spec PyProof.Rows
section
variable {X : Cx} {elt iter : Expr} {x : Str} {px : Pos} {ifs : List Expr} {scope : Scope} {cl : List (Str × Addr)} {pos : Pos} {caps : List Str} {idx : List Nat} {wi : TI} {tt : TT} {te : TE}
theorem ug (S : Ui X x scope cl caps idx) (hc : X.calm = true) (hi : PI X (.Name x px) iter wi)
    (ht : ∀ C s₀ H₀ ex, PTs (XN X scope cl C (x :: caps) s₀ H₀ ex) ifs tt) (he : ∀ C s₀ H₀ ex, PE (XN X scope cl C (x :: caps) s₀ H₀ ex) elt te)
    (hs : ∀ x, foldedSetIterable iter X.env x = pure x := by intro _; rfl) : PE X (.ListComp elt [⟨.Name x px, iter, ifs, 0⟩] scope pos) (Gi X.K wi tt te idx) := by
  intro pins s σ H Q I h
  rw [eval_ListComp]
  refine Gh (use := none) S hc hi ht he I h rfl (fun D C H' s' m I' q hn hC h1 h2 h3 h4 => ?_) hs
  show ∃ m, s'.heap.Ns C m /\ ∀ h', Heap.SameBut C s'.heap h' -> EP X pins σ Q (.ref D) { s' with heap := h' }
  exact ⟨m, hn, fun h' hs => ⟨.ref D, H', I'.turned (t' := s'.toks) (fun b o hb e => hs.extBut b o hb e) hC (Ne.symm (Ne.symm h1)) (.inr h2) h3 h4, rfl, q⟩⟩
theorem Qcu {i : Nat} {y : Str} {py spos : Pos} (S : Ui X x scope cl caps idx) (hc : X.calm = true) (hi : PI X (.Name x px) iter wi)
    (ht : ∀ C s₀ H₀ ex, PTs (XN X scope cl C (x :: caps) s₀ H₀ ex) ifs tt) (he : ∀ C s₀ H₀ ex, PE (XN X scope cl C (x :: caps) s₀ H₀ ex) elt te)
    (hN : X.N.Nodup) (hy : X.N[i]? = some y) (hx : Loc X.env.scope y) (hsw : swapsWith (.ListComp elt [⟨.Name x px, iter, ifs, 0⟩] scope pos) (some (.Name y py)) spos.line X.env = pure true)
    (hf : X.fn y = true ∨ X.env.scope.names.lookup y = some .local := by first | exact .inl rfl | exact .inr rfl | assumption)
    (hs : ∀ x, foldedSetIterable iter X.env x = pure x := by intro _; rfl) : PS X (.Assign [.Name y py] (.ListComp elt [⟨.Name x px, iter, ifs, 0⟩] scope pos) spos) (QbD (Gi X.K wi tt te idx) (uv i)) := by
  intro pins s σ H D I h
  rw [exec_Assign_Name_used _ _ _ _ hsw]
  refine wpAny_bind (wpAny_standAt (wpAny_bind ?_))
  show wpAny _ X.A (do let _ <- comprehension (.ListComp elt [⟨.Name x px, iter, ifs, 0⟩] scope pos) scope X.env _ (newList []) false (eval iter X.env) (some (assign (.Name y py) X.env))) _ _ s
  refine wpAny_bind (wpAny_mono (Gh (use := some (assign (.Name y py) X.env)) (QQ := fun _ s' => SP X pins D .next s') S hc hi ht he I h rfl (fun Da C H' s' m I' q hn hC h1 h2 h3 h4 => ?_) hs) (fun _ s' hq => wpAny_pure (wpAny_pure hq)) fun _ _ e => e)
  show wpAny _ X.A (assign (.Name y py) X.env (.ref Da)) (fun _ s'' => ∃ m, s''.heap.Ns C m /\ ∀ h', Heap.SameBut C s''.heap h' -> SP X pins D .next { s'' with heap := h' }) _ s'
  refine wpAny_assign_Name (Uk I' hN hy hx (v := .ref Da) rfl (fun s'' I'' ⟨a, hs, ha⟩ => ?_) hf)
  refine ⟨m, hn.sameBut hs ?_, fun h' hs' => ⟨_, H', I''.turned (t' := s''.toks) (fun b o hb e => hs'.extBut b o hb e) hC h1 (.inr h2) h3 h4, q⟩⟩
  rcases ha with rfl | ha
  . exact h1
  . exact Ne.symm (h3 _ _ ha)
end
end L2
namespace D
open PySem PySem.Spec PyProof.Rows L2
section
variable {K : PySem.W.Frag} {Z : Ent} {env : En} {σ : St} {ρ ρ' : List Addr} {B B' : Addr -> Prop} {hp hp' : Hs} {H H' : Hp}
theorem SOk.set {i : Nat} {d : DV} {v : V} (S : SOk K Z env σ ρ B hp H) (r : RepV K ρ B H d v) : SOk K Z (env.set i (.val d)) (σ.set i (some v)) ρ B hp H where
  gr := S.gr
  zb := S.zb
  wo := S.wo
  slot := fun j e h => by
    by_cases hj : j = i
    . subst hj
      have hl : j < env.length := by have := (List.getElem?_eq_some_iff.mp h).1; simpa using this
      rw [List.getElem?_set_self hl] at h; cases h
      exact ⟨v, List.getElem?_set_self (by rw [S.len]; exact hl), r⟩
    . rw [List.getElem?_set_ne (Ne.symm hj)] at h ⊢
      exact S.slot j e h
  accs := fun j ds h => by
    by_cases hj : j = i
    . subst hj
      have hl : j < env.length := by have := (List.getElem?_eq_some_iff.mp h).1; simpa using this
      rw [List.getElem?_set_self hl] at h; cases h
    . rw [List.getElem?_set_ne (Ne.symm hj)] at h ⊢
      exact S.accs j ds h
  adis := fun j k ds es a h1 h2 h3 h4 => by
    have nj : ∀ {j : Nat} {ds : List DV}, (env.set i (.val d))[j]? = some (.acc ds) -> j ≠ i := fun {j ds} h e => by
      subst e
      have hl : j < env.length := by have := (List.getElem?_eq_some_iff.mp h).1; simpa using this
      rw [List.getElem?_set_self hl] at h; cases h
    have hj := nj h1
    have hk := nj h2
    rw [List.getElem?_set_ne (Ne.symm hj)] at h1 h3
    rw [List.getElem?_set_ne (Ne.symm hk)] at h2 h4
    exact S.adis j k ds es a h1 h2 h3 h4
  len := by simp [S.len]
end
section
variable {X : Cx} {e a b c : Expr} {f fa fb : DEx} {ca cb : DTx} {pos : Pos} {st : Stmt} {sts rest : List Stmt} {s s' : DSx}
theorem FolS.after {K : PySem.W.Frag} {Z : Ent} {ρ ρ1 : List Addr} {B B1 : Addr -> Prop} {H H1 : Hp} {fl : Fl} {env' : En} {hp' : Hs} {D : UN} (g : Gs K ρ B H ρ1 B1 H1) (k : FolS K Z ρ B H fl env' hp' D) : FolS K Z ρ1 B1 H1 fl env' hp' D :=
  fun σ' ρ' B' H' g' S => k σ' ρ' B' H' (g.trans g') S
def Q6 : DSx := fun env => pure (.nx, env)
def Qr (f g : DSx) : DSx := fun env => do
  let r <- f env
  match r.1 with
  | .nx => g r.2
  | _ => pure r
def sIf (c : DTx) (f g : DSx) : DSx := fun env => do if <- c env then f env else g env
def QF (f : DEx) : DSx := fun env => do let d <- f env; pure (.rt d, env)
def Xp : DSx := fun env => pure (.rt .non, env)
def Jo (f : DEx) : DSx := fun env => do let _ <- f env; pure (.nx, env)
def QC (i : Nat) (f : DEx) : DSx := fun env => do let d <- f env; pure (.nx, env.set i (.val d))
theorem QR : DSs X [] Q6 := pss_nil.imp fun D σ H ⟨Z, env, ρ, B, hp, fl, env', hp', S, e, k⟩ => by
  obtain ⟨e1, rfl⟩ := Qj e
  cases e1
  exact k σ ρ B H Gs.refl S
theorem Qai {K : PySem.W.Frag} {D : UN} {σ : St} {H : Hp} (h : tDS K (Qr s s') D σ H) : Qd4 (tDS K s) (tDS K s') D σ H := by
  obtain ⟨Z, env, ρ, B, hp, fl, env', hp', S, e, k⟩ := h
  obtain ⟨⟨f1, env1⟩, hp1, e1, e2⟩ := Qf e
  refine ⟨Z, env, ρ, B, hp, f1, env1, hp1, S, e1, fun σ' ρ' B' H' g S' => ?_⟩
  cases f1 with
  | nx => exact ⟨Z, env1, ρ', B', hp1, fl, env', hp', S', e2, k.after g⟩
  | rt d => obtain ⟨z, rfl⟩ := Qj e2; cases z; exact k σ' ρ' B' H' g S'
  | bk => obtain ⟨z, rfl⟩ := Qj e2; cases z; exact k σ' ρ' B' H' g S'
  | ct => obtain ⟨z, rfl⟩ := Qj e2; cases z; exact k σ' ρ' B' H' g S'
theorem Qg (h1 : DS X st s) (h2 : DSs X rest s') : DSs X (st :: rest) (Qr s s') := (Qa2 h1 h2).imp fun _ _ _ h => Qai h
theorem Qq (h1 : DS X st s) : DSs X [st] s := Qcx h1
theorem ZN {x y : List Stmt} (hc : DT X c ca) (h1 : DSs X x s) (h2 : DSs X y s') : DS X (.If c x y pos) (sIf ca s s') :=
  (QeR hc h1 h2).imp fun D σ H ⟨Z, env, ρ, B, hp, fl, env', hp', S, e, k⟩ => by
    obtain ⟨x, hp1, e1, e2⟩ := Qf e
    refine tDT.run S e1 fun ρ1 B1 H1 g1 S1 => ?_
    cases x with
    | true => exact UT ⟨Z, env, ρ1, B1, hp1, fl, env', hp', S1, e2, k.after (g1.gs S.wo.rb)⟩
    | false => exact Kq ⟨Z, env, ρ1, B1, hp1, fl, env', hp', S1, e2, k.after (g1.gs S.wo.rb)⟩
theorem Qv (h : DE X e f) : DS X (.Return (some e) pos) (QF f) :=
  (QdJ h).imp fun D σ H ⟨Z, env, ρ, B, hp, fl, env', hp', S, e, k⟩ => by
    obtain ⟨d, hp1, e1, e2⟩ := Qf e
    obtain ⟨z, rfl⟩ := Qj e2; cases z
    exact tD.run S e1 fun v ρ1 B1 H1 g1 S1 r1 => k σ ρ1 B1 H1 (g1.gs S.wo.rb) S1 v r1
theorem J8 (h : DE X e f) (hs : swapsWith e none pos.line X.env = pure false := by rfl) : DS X (.Expr e pos) (Jo f) :=
  (Qco h hs).imp fun D σ H ⟨Z, env, ρ, B, hp, fl, env', hp', S, e, k⟩ => by
    obtain ⟨d, hp1, e1, e2⟩ := Qf e
    obtain ⟨z, rfl⟩ := Qj e2; cases z
    exact tD.run S e1 fun v ρ1 B1 H1 g1 S1 r1 => k σ ρ1 B1 H1 (g1.gs S.wo.rb) S1
theorem K8 {K : PySem.W.Frag} {D : UN} {σ : St} {H : Hp} {i : Nat} {t : TE} (ht : ∀ σ H Q, tD K f σ H Q -> t σ H Q) (h : tDS K (QC i f) D σ H) : QbD t (uv i) D σ H := by
  obtain ⟨Z, env, ρ, B, hp, fl, env', hp', S, e, k⟩ := h
  obtain ⟨d, hp1, e1, e2⟩ := Qf e
  obtain ⟨z, rfl⟩ := Qj e2; cases z
  exact ht _ _ _ (tD.run S e1 fun v ρ1 B1 H1 g1 S1 r1 => k _ ρ1 B1 H1 (g1.gs S.wo.rb) (S1.set r1))
theorem QD (i : Nat) {x : Str} {pos' : Pos} (hN : X.N.Nodup) (he : DE X e f) (hi : X.N[i]? = some x := by rfl) (hx : Loc X.env.scope x := by first | exact Or.inl rfl | exact Or.inr rfl) (hs : swapsWith e (some (.Name x pos')) pos.line X.env = pure false := by rfl)
    (hf : X.fn x = true ∨ X.env.scope.names.lookup x = some .local := by first | exact .inl rfl | exact .inr rfl | assumption) : DS X (.Assign [.Name x pos'] e pos) (QC i f) :=
  (Qdl hN hi hx he hs hf).imp fun _ _ _ h => K8 (fun _ _ _ q => q) h
abbrev DGx := DV -> En -> M En
def tDG (K : PySem.W.Frag) (g : DGx) : TG := fun v σ H Q => ∃ Z env ρ B hp d env' hp', SOk K Z env σ ρ B hp H /\ RepV K ρ B H d v /\ g d env hp = some (env', hp') /\ ∀ σ' ρ' B' H', Gs K ρ B H ρ' B' H' -> SOk K Z env' σ' ρ' B' hp' H' -> Q σ' H'
def gN (i : Nat) : DGx := fun d env => pure (env.set i (.val d))
theorem za (i : Nat) {x : Str} (hN : X.N.Nodup) (hi : X.N[i]? = some x := by rfl) (hx : Loc X.env.scope x := by first | exact Or.inl rfl | exact Or.inr rfl) (hf : X.fn x = true ∨ X.env.scope.names.lookup x = some .local := by first | exact .inl rfl | exact .inr rfl | assumption) : PG X (.Name x pos) (tDG X.K (gN i)) := by
  intro pins s σ H v u Q I r h
  refine uH hN hi hx hf pins s σ H v u Q I r ?_
  obtain ⟨Z, env, ρ, B, hp, d, env', hp', S, rd, e, k⟩ := h
  obtain ⟨rfl, rfl⟩ := Qj e
  exact k _ ρ B H Gs.refl (S.set rd)
def gM (K : PySem.W.Frag) (ρ : List Addr) (B : Addr -> Prop) (H : Hp) (ds : List DV) (J : It) : Prop :=
  ∀ ρ1 B1 H1, Gs K ρ B H ρ1 B1 H1 -> (∀ b ∈ ρ1, B1 b) -> (∀ a, B1 a -> H1 a ≠ none) -> (∀ (i : Nat) (d : DV), ds[i]? = some d -> J.go i H1 /\ ∀ x H', J.yld i H1 x H' -> RepV K ρ1 B1 H' d x /\ (H' = H1 ∨ ∃ p o, H1 p = none /\ H' = upd H1 p o)) /\ J.stop ds.length H1
abbrev DIx := En -> M (List DV)
def tDI (K : PySem.W.Frag) (f : DIx) : TI := fun σ H R => ∃ Z env ρ B hp ds hp', SOk K Z env σ ρ B hp H /\ f env hp = some (ds, hp') /\ ∀ J ρ' B' H', Gr K ρ B H ρ' B' H' -> WOk K ρ' B' hp' H' -> gM K ρ' B' H' ds J -> R J H'
def DI (X : Cx) (tg iter : Expr) (f : DIx) : Prop := PI X tg iter (tDI X.K f)
def GV : DV -> M (List DV)
  | .tup ds => pure ds
  | _ => failure
def iTp (f : DEx) : DIx := fun env => do GV (<- f env)
theorem xS {d : DV} {ds : List DV} {hp hp' : Hs} (h : GV d hp = some (ds, hp')) : d = .tup ds /\ hp = hp' := by
  cases d with
  | tup xs => obtain ⟨rfl, rfl⟩ := Qj h; exact ⟨rfl, rfl⟩
  | _ => cases h
theorem Qb1 {K : PySem.W.Frag} {ρ : List Addr} {B : Addr -> Prop} {H : Hp} {ds : List DV} {a : Addr} {xs : List V} (nb : ¬ B a) (sq : SqL K H a xs) (rl : RepL K ρ B H ds xs) : gM K ρ B H ds (Itl K a) := fun ρ1 B1 H1 g _ _ => by
  have sq1 := g.sqL nb sq
  have rl1 := RepL.gs g _ _ rl
  refine ⟨fun i d e => ?_, xs, sq1, by rw [rl1.length]; exact Nat.le_refl _⟩
  obtain ⟨x, hx, r⟩ := rl1.get e
  refine ⟨⟨xs, x, sq1, hx⟩, fun y H' ⟨e', q⟩ => ?_⟩
  subst e'
  have := q xs sq1
  rw [hx] at this; cases this
  exact ⟨r, .inl rfl⟩
theorem QcN {K : PySem.W.Frag} {ρ : List Addr} {B : Addr -> Prop} {H : Hp} {ds : List DV} {a : Addr} {xs : List V} (nb : ¬ B a) (sq : SqT K H a xs) (rl : RepL K ρ B H ds xs) : gM K ρ B H ds (Itt K a) := fun ρ1 B1 H1 g _ _ => by
  have sq1 := g.sqT nb sq
  have rl1 := RepL.gs g _ _ rl
  refine ⟨fun i d e => ?_, xs, sq1, by rw [rl1.length]; exact Nat.le_refl _⟩
  obtain ⟨x, hx, r⟩ := rl1.get e
  refine ⟨⟨xs, x, sq1, hx⟩, fun y H' ⟨e', q⟩ => ?_⟩
  subst e'
  have := q xs sq1
  rw [hx] at this; cases this
  exact ⟨r, .inl rfl⟩
def Zd (lo : Int) (n : Nat) : List DV := (List.range n).map fun (i : Nat) => .int (lo + (i : Int))
theorem KI {K : PySem.W.Frag} {ρ : List Addr} {B : Addr -> Prop} {H : Hp} {lo : Int} {n : Nat} : gM K ρ B H (Zd lo n) (Itr lo n) := fun ρ1 B1 H1 g _ _ => by
  refine ⟨fun i d e => ?_, by show n <= _; simp [Zd]⟩
  have hi : i < n := by have := (List.getElem?_eq_some_iff.mp e).1; simpa [Zd] using this
  refine ⟨hi, fun y H' ⟨e', q⟩ => ?_⟩
  subst e' q
  have : d = .int (lo + i) := by simp [Zd, hi] at e; exact e.symm
  subst this
  exact ⟨JY, .inl rfl⟩
variable {tg iter : Expr}
theorem _root_.L2.PI.imp {wi wi' : TI} (h : PI X tg iter wi) (i : ∀ σ H R, wi' σ H R -> wi σ H R) : PI X tg iter wi' := fun pins s σ H R I q => h pins s σ H R I (i σ H R q)
theorem Qar (h : DE X iter f) : DI X tg iter (iTp f) := (QcO h).imp fun σ H R ⟨Z, env, ρ, B, hp, ds, hp', S, e, k⟩ => by
  obtain ⟨d, hp1, e1, e2⟩ := Qf e
  obtain ⟨rfl, rfl⟩ := xS e2
  refine tD.run S e1 fun v ρ1 B1 H1 g1 S1 r1 => ?_
  obtain ⟨a, xs, rfl, nb, sq, rl⟩ := r1.tupI
  exact ⟨a, rfl, ⟨xs, sq⟩, k _ ρ1 B1 H1 g1 S1.wo (QcN nb sq rl)⟩
def qN (j : Int) : Bool := decide (-(2 ^ 62) <= j /\ j < 2 ^ 62)
def gP : List DV -> M (List DV)
  | [.int j] => do Qu (qN j); pure (Zd 0 j.toNat)
  | _ => failure
def QaM : List DV -> M (List DV)
  | [.int i, .int j] => do Qu (qN i && qN j); pure (Zd i (j - i).toNat)
  | _ => failure
def yA (f : DAx) : DIx := fun env => do gP (<- f env)
def kA (f : DAx) : DIx := fun env => do QaM (<- f env)
theorem uR {ds out : List DV} {hp hp' : Hs} (h : gP ds hp = some (out, hp')) : ∃ j : Int, ds = [.int j] /\ qN j = true /\ out = Zd 0 j.toNat /\ hp = hp' := by
  unfold gP at h
  split at h
  . obtain ⟨u, hp1, e1, e2⟩ := Qf h
    obtain ⟨h1, rfl⟩ := QH e1
    obtain ⟨rfl, rfl⟩ := Qj e2
    exact ⟨_, rfl, h1, rfl, rfl⟩
  . cases h
theorem u5 {ds out : List DV} {hp hp' : Hs} (h : QaM ds hp = some (out, hp')) : ∃ i j : Int, ds = [.int i, .int j] /\ qN i = true /\ qN j = true /\ out = Zd i (j - i).toNat /\ hp = hp' := by
  unfold QaM at h
  split at h
  . obtain ⟨u, hp1, e1, e2⟩ := Qf h
    obtain ⟨h1, rfl⟩ := QH e1
    obtain ⟨rfl, rfl⟩ := Qj e2
    rw [Bool.and_eq_true] at h1
    exact ⟨_, _, rfl, h1.1, h1.2, rfl, rfl⟩
  . cases h
theorem RepL.ints1 {K : PySem.W.Frag} {ρ : List Addr} {B : Addr -> Prop} {H : Hp} {j : Int} {vs : List V} (h : RepL K ρ B H [.int j] vs) : vs = [.int j] := by
  unfold RepL at h
  obtain ⟨x, r, rfl, h1, h2⟩ := h
  unfold RepL at h2
  rw [h1.intI, h2]
theorem RepL.ints2 {K : PySem.W.Frag} {ρ : List Addr} {B : Addr -> Prop} {H : Hp} {i j : Int} {vs : List V} (h : RepL K ρ B H [.int i, .int j] vs) : vs = [.int i, .int j] := by
  unfold RepL at h
  obtain ⟨x, r, rfl, h1, h2⟩ := h
  rw [h1.intI, h2.ints1]
theorem X1 {x : Expr} {p : Pos} {f : DAx} (hg : Gl X "range") (hm : X.mg "range" = none) (ha : DA X [x] f) (hs : starEach [x] X.env = [(false, eval x X.env)] := by rfl) : DI X tg (.Call (.Name "range" p) [x] [] pos) (yA f) :=
  (gE hg hm ha hs).imp fun σ H R ⟨Z, env, ρ, B, hp, ds, hp', S, e, k⟩ => by
    obtain ⟨d, hp1, e1, e2⟩ := Qf e
    obtain ⟨j, rfl, h1, rfl, rfl⟩ := uR e2
    refine tDA.run S e1 fun vs ρ1 B1 H1 g1 S1 r1 => ?_
    have h1' := of_decide_eq_true h1
    exact ⟨j, r1.ints1, h1'.1, h1'.2, k _ ρ1 B1 H1 g1 S1.wo KI⟩
theorem u6 {x y : Expr} {p : Pos} {f : DAx} (hg : Gl X "range") (hm : X.mg "range" = none) (ha : DA X [x, y] f) (hs : starEach [x, y] X.env = [(false, eval x X.env), (false, eval y X.env)] := by rfl) (hs2 : starEach [y] X.env = [(false, eval y X.env)] := by rfl) :
    DI X tg (.Call (.Name "range" p) [x, y] [] pos) (kA f) :=
  (gR hg hm ha hs hs2).imp fun σ H R ⟨Z, env, ρ, B, hp, ds, hp', S, e, k⟩ => by
    obtain ⟨d, hp1, e1, e2⟩ := Qf e
    obtain ⟨i, j, rfl, h1, h2, rfl, rfl⟩ := u5 e2
    refine tDA.run S e1 fun vs ρ1 B1 H1 g1 S1 r1 => ?_
    have h1' := of_decide_eq_true h1
    have h2' := of_decide_eq_true h2
    exact ⟨i, j, r1.ints2, ⟨h1'.1, h1'.2, h2'.1, h2'.2⟩, k _ ρ1 B1 H1 g1 S1.wo KI⟩
def jV (b : DV -> DSx) : List DV -> DSx
  | [], env => pure (.nx, env)
  | d :: ds, env => do
    let r <- b d env
    match r.1 with
    | .nx => jV b ds r.2
    | .ct => jV b ds r.2
    | .bk => pure (.nx, r.2)
    | .rt x => pure (.rt x, r.2)
def GM (f : DIx) (g : DGx) (body : DSx) : DSx := fun env => do let ds <- f env; jV (fun d env => do let env' <- g d env; body env') ds env
theorem G1 {K : PySem.W.Frag} {ρ : List Addr} {B : Addr -> Prop} {H : Hp} {p : Addr} {o : HO} (rb : ∀ a ∈ ρ, B a) (h : H p = none) : Gs K ρ B H ρ B (upd H p o) := (Gr.laid h).gs rb
theorem yW {body : List Stmt} {fi : DIx} {g : DGx} {sb : DSx} (hp : PassesOwn (model X.prog X.w) X.A X.env X.xe) (hc : X.calm = true) (hi : DI X tg iter fi) (hg : PG X tg (tDG X.K g)) (hb : DSs X body sb)
    (hs : ∀ x, foldedSetIterable iter X.env x = pure x := by intro _; rfl) : DS X (.For tg iter body [] pos) (GM fi g sb) :=
  (kx hp hc hi hg hb hs).imp fun D σ H ⟨Z, env, ρ, B, hp, fl, env', hp', S, e, k⟩ => by
    obtain ⟨ds, hp1, e1, e2⟩ := Qf e
    refine ⟨Z, env, ρ, B, hp, ds, hp1, S, e1, fun J ρ1 B1 H1 g1 W1 it => ?_⟩
    have k1 := k.after (g1.gs S.wo.rb)
    refine ⟨fun i m σ H => m = ds.length - i /\ i <= ds.length /\ ∃ env ρ B hp, SOk X.K Z env σ ρ B hp H /\ Gs X.K ρ1 B1 H1 ρ B H /\ jV (fun d env => do let env' <- g d env; sb env') (ds.drop i) env hp = some ((fl, env'), hp'),
      ⟨ds.length, rfl, Nat.zero_le _, env, ρ1, B1, hp1, S.grow g1 W1, Gs.refl, by simpa using e2⟩, ?_⟩
    rintro i m σ H ⟨rfl, hi, env2, ρ2, B2, hp2, S2, g2, e3⟩
    obtain ⟨itg, its⟩ := it ρ2 B2 H g2 S2.wo.rb S2.wo.bt
    by_cases hlt : i < ds.length
    . have hd : ds[i]? = some ds[i] := List.getElem?_eq_getElem hlt
      obtain ⟨go, yl⟩ := itg i _ hd
      rw [List.drop_eq_getElem_cons hlt] at e3
      obtain ⟨⟨f1, env4⟩, hp4, e4, e5⟩ := Qf e3
      obtain ⟨env3, hp3, e6, e7⟩ := Qf e4
      refine .inr ⟨go, fun σ' H' => ∃ env ρ B hp, SOk X.K Z env σ' ρ B hp H' /\ Gs X.K ρ1 B1 H1 ρ B H' /\ jV (fun d env => do let env' <- g d env; sb env') (ds.drop (i + 1)) env hp = some ((fl, env'), hp'),
        fun σ' H' q => ⟨ds.length - (i + 1), by omega, rfl, hlt, q⟩, fun x H' y => ?_⟩
      obtain ⟨rx, hx⟩ := yl x H' y
      have S3 : SOk X.K Z env2 σ ρ2 B2 hp2 H' /\ Gs X.K ρ2 B2 H ρ2 B2 H' := by
        rcases hx with rfl | ⟨p, o, hn, rfl⟩
        . exact ⟨S2, Gs.refl⟩
        . exact ⟨S2.grow (Gr.laid hn) (S2.wo.laid hn), G1 S2.wo.rb hn⟩
      refine ⟨Z, env2, ρ2, B2, hp2, ds[i], env3, hp3, S3.1, rx, e6, fun σ5 ρ5 B5 H5 g5 S5 => ⟨Z, env3, ρ5, B5, hp3, f1, env4, hp4, S5, e7, fun σ6 ρ6 B6 H6 g6 S6 => ?_⟩⟩
      have G6 := g2.trans (S3.2.trans (g5.trans g6))
      cases f1 with
      | nx => exact ⟨env4, ρ6, B6, hp4, S6, G6, e5⟩
      | ct => exact ⟨env4, ρ6, B6, hp4, S6, G6, e5⟩
      | bk => obtain ⟨z, rfl⟩ := Qj e5; cases z; exact k1 σ6 ρ6 B6 H6 G6 S6
      | rt d => obtain ⟨z, rfl⟩ := Qj e5; cases z; exact k1 σ6 ρ6 B6 H6 G6 S6
    . have e : i = ds.length := by omega
      subst e
      rw [List.drop_length] at e3
      obtain ⟨z, rfl⟩ := Qj e3; cases z
      exact .inl ⟨its, k1 σ ρ2 B2 H g2 S2⟩
def XG (c : DTx) (b : DSx) : Nat -> DSx
  | 0, _ => failure
  | n + 1, env => do
    if <- c env then
      let r <- b env
      match r.1 with
      | .nx => XG c b n r.2
      | .ct => XG c b n r.2
      | .bk => pure (.nx, r.2)
      | .rt x => pure (.rt x, r.2)
    else pure (.nx, env)
theorem Gg (n : Nat) {body : List Stmt} {sb : DSx} (hp : PassesOwn (model X.prog X.w) X.A X.env X.xe) (hc : DT X c ca) (hb : DSs X body sb) : DS X (.While c body [] pos) (XG ca sb n) :=
  (Qbb hp hc hb).imp fun D σ H ⟨Z, env, ρ, B, hp, fl, env', hp', S, e, k⟩ => by
    refine ⟨fun m σ H1 => ∃ env1 ρ1 B1 hp1, SOk X.K Z env1 σ ρ1 B1 hp1 H1 /\ Gs X.K ρ B H ρ1 B1 H1 /\ XG ca sb m env1 hp1 = some ((fl, env'), hp'), ⟨n, env, ρ, B, hp, S, Gs.refl, e⟩, ?_⟩
    rintro m σ H1 ⟨env1, ρ1, B1, hp1, S1, g1, e1⟩
    cases m with
    | zero => cases e1
    | succ m =>
      obtain ⟨x, hp2, e2, e3⟩ := Qf e1
      refine tDT.run S1 e2 fun ρ2 B2 H2 g2 S2 => ?_
      have G2 := g1.trans (g2.gs S1.wo.rb)
      cases x with
      | false =>
        obtain ⟨z, rfl⟩ := Qj e3; cases z
        exact Kq (k σ ρ2 B2 H2 G2 S2)
      | true =>
        obtain ⟨⟨f1, env4⟩, hp4, e4, e5⟩ := Qf e3
        refine UT ⟨fun σ' H' => ∃ env1 ρ1 B1 hp1, SOk X.K Z env1 σ' ρ1 B1 hp1 H' /\ Gs X.K ρ B H ρ1 B1 H' /\ XG ca sb m env1 hp1 = some ((fl, env'), hp'), fun σ' H' q => ⟨m, Nat.lt_succ_self m, q⟩, ?_⟩
        refine ⟨Z, env1, ρ2, B2, hp2, f1, env4, hp4, S2, e4, fun σ6 ρ6 B6 H6 g6 S6 => ?_⟩
        have G6 := G2.trans g6
        cases f1 with
        | nx => exact ⟨env4, ρ6, B6, hp4, S6, G6, e5⟩
        | ct => exact ⟨env4, ρ6, B6, hp4, S6, G6, e5⟩
        | bk => obtain ⟨z, rfl⟩ := Qj e5; cases z; exact k σ6 ρ6 B6 H6 G6 S6
        | rt d => obtain ⟨z, rfl⟩ := Qj e5; cases z; exact k σ6 ρ6 B6 H6 G6 S6
end
end D
namespace D
open PySem PySem.Spec PyProof.Rows L2
section
variable {K : PySem.W.Frag} {Z : Ent} {env : En} {σ : St} {ρ ρ' : List Addr} {B B' : Addr -> Prop} {hp hp' : Hs} {H H' : Hp}
def xJ (B : Addr -> Prop) (p : Addr) : Addr -> Prop := fun a => B a ∨ a = p
theorem Gr.banned {p : Addr} {o : HO} (h : H p = none) (kf : K.lookup p = none) : Gr K ρ B H ρ (xJ B p) (upd H p o) where
  pre := List.prefix_rfl
  ban := fun _ h => .inl h
  new := fun a z => z.elim .inl fun e => .inr (e ▸ ⟨h, kf⟩)
  rnew := fun _ h => .inl h
  keep := fun a u _ q => by rw [QS (ZJ q h)]; exact q
  trk := (Gr.laid (K := K) (ρ := ρ) (B := B) h).trk
theorem WOk.banned {p : Addr} {o : HO} (W : WOk K ρ B hp H) (h : H p = none) (kf : K.lookup p = none) : WOk K ρ (xJ B p) hp (upd H p o) where
  len := W.len
  nd := W.nd
  obj := fun i a u e q => ORep.gs ((Gr.banned h kf).gs W.rb) (QS (fun z => W.bt a (W.rb a (List.mem_of_getElem? e)) (z ▸ h))) (W.obj i a u e q)
  rb := fun a h => .inl (W.rb a h)
  bt := fun a z q => by
    have q' := (Gr.laid (K := K) (ρ := ρ) (B := B) h).trk a q
    rcases z with z | rfl
    . exact W.bt a z q'
    . rw [Q8] at q; cases q
  bk := fun a z => z.elim (W.bk a) fun e => e ▸ kf
end
section
variable {X : Cx} {e a b c : Expr} {f fa fb : DEx} {ca cb : DTx} {pos : Pos} {st : Stmt} {sts rest : List Stmt} {s s' : DSx}
def qq (i : Nat) : DSx := fun env => pure (.nx, env.set i (.acc []))
def YV (i : Nat) (env : En) : En := match env[i]? with
  | some (.acc ds) => env.set i (.val (.lst ds))
  | _ => env
def qv (i : Nat) (f : DSx) : DSx := fun env => f (YV i env)
def qh (i : Nat) (f : DEx) : DSx := fun env => do
  let d <- f env
  match env[i]? with
  | some (.acc ds) => if ds.length < lim then pure (.nx, env.set i (.acc (ds ++ [d]))) else failure
  | _ => failure
def Uz (g : DV -> M Bool) (f : DV -> M DV) : List DV -> M (List DV)
  | [] => pure []
  | d :: ds => do
    if <- g d then
      let y <- f d
      let ys <- Uz g f ds
      pure (y :: ys)
    else Uz g f ds
def Qa7 : Sl -> Sl
  | .val d => .val d
  | _ => .un
def cE (idx : List Nat) (env : En) (d : DV) : En := .val d :: idx.map fun i => Qa7 ((env[i]?).getD .un)
def x8 (src : DIx) (idx : List Nat) (t : DTx) (f : DEx) : DEx := fun env => do
  let ds <- src env
  Qu (Xu ds)
  let out <- Uz (fun d => t (cE idx env d)) (fun d => f (cE idx env d)) ds
  pure (.lst out)
def gF : DTx := fun _ => pure true
variable {elt iter : Expr} {x : Str} {px : Pos} {ifs : List Expr} {scope : Scope} {cl : List (Str × Addr)} {caps : List Str} {idx : List Nat} {src : DIx} {te : DTx}
theorem cσ_ok {K : PySem.W.Frag} {Z : Ent} {env : En} {σ : St} {ρ ρ1 : List Addr} {B B1 : Addr -> Prop} {hp hp1 : Hs} {H H1 : Hp} {d : DV} {v : V} (S : SOk K Z env σ ρ B hp H) (g : Gs K ρ B H ρ1 B1 H1) (W : WOk K ρ1 B1 hp1 H1) (r : RepV K ρ1 B1 H1 d v) :
    SOk K ⟨ρ1, B1, H1⟩ (cE idx env d) (cσ idx σ (some v)) ρ1 B1 hp1 H1 := by
  refine ⟨Gr.refl, W.bt, W, fun i e h => ?_, fun i es h => ?_, fun i j es es' a h => ?_, by simp [cE, cσ]⟩
  . cases i with
    | zero =>
      have : d = e := by simpa [cE] using h
      subst this
      exact ⟨v, by simp [cσ], r⟩
    | succ i =>
      cases q : idx[i]? with
      | none => simp [cE, q] at h
      | some k =>
        have h' : Qa7 ((env[k]?).getD .un) = .val e := by simpa [cE, q] using h
        cases z : env[k]? with
        | none => rw [z] at h'; cases h'
        | some sl =>
          rw [z] at h'
          cases sl with
          | un => cases h'
          | acc _ => cases h'
          | val e' =>
            have : e' = e := by simpa [Qa7] using h'
            subst this
            obtain ⟨u, h1, h2⟩ := S.slot k e' z
            exact ⟨u, by simp [cσ, q, h1], RepV.gs g _ _ h2⟩
  . exfalso
    cases i with
    | zero => simp [cE] at h
    | succ i =>
      cases q : idx[i]? with
      | none => simp [cE, q] at h
      | some k =>
        have h' : Qa7 ((env[k]?).getD .un) = .acc es := by simpa [cE, q] using h
        cases z : (env[k]?).getD .un with
        | un => rw [z] at h'; cases h'
        | acc _ => rw [z] at h'; cases h'
        | val _ => rw [z] at h'; cases h'
  . exfalso
    cases i with
    | zero => simp [cE] at h
    | succ i =>
      cases q : idx[i]? with
      | none => simp [cE, q] at h
      | some k =>
        have h' : Qa7 ((env[k]?).getD .un) = .acc es := by simpa [cE, q] using h
        cases z : (env[k]?).getD .un with
        | un => rw [z] at h'; cases h'
        | acc _ => rw [z] at h'; cases h'
        | val _ => rw [z] at h'; cases h'
theorem gW {K : PySem.W.Frag} {σ : St} {H : Hp} {Q : VK} (h : tD K (x8 src idx te f) σ H Q) : Gi K (tDI K src) (tDT K te) (tD K f) idx σ H Q := by
  obtain ⟨Z, env, ρ, B, hp, d, hp', S, e, k⟩ := h
  obtain ⟨ds, hp1, e1, e2⟩ := Qf e
  obtain ⟨_, hp2, e3, e4⟩ := Qf e2
  obtain ⟨hs, rfl⟩ := QH e3
  obtain ⟨out, hp3, e5, e6⟩ := Qf e4
  obtain ⟨rfl, rfl⟩ := Qj e6
  refine ⟨Z, env, ρ, B, hp, ds, hp1, S, e1, fun J ρ1 B1 H1 g1 W1 it D hD hK => ?_⟩
  have g1s := g1.gs S.wo.rb
  have dl : ds.length < sizeLine := Nat.lt_of_le_of_lt (of_decide_eq_true hs) (by decide)
  refine ⟨fun i m ys H2 => m = ds.length - i /\ i <= ds.length /\ H2 D = some (.lst ys) /\ ∃ ρ2 B2 hp2 don rst, Gr K ρ1 B1 H1 ρ2 B2 H2 /\ WOk K ρ2 B2 hp2 H2 /\ B2 D /\ D ∉ ρ2 /\ RepL K ρ2 B2 H2 don ys /\ don.length <= i /\
    Uz (fun d => te (cE idx env d)) (fun d => f (cE idx env d)) (ds.drop i) hp2 = some (rst, hp3) /\ don ++ rst = out, ?_, ?_⟩
  . exact ⟨ds.length, rfl, Nat.zero_le _, Q8, ρ1, xJ B1 D, hp1, [], out, Gr.banned hD hK, W1.banned hD hK, .inr rfl, fun z => W1.bt D (W1.rb D z) hD, RepL.nil, Nat.le_refl _, by simpa using e5, rfl⟩
  . rintro i m ys H2 ⟨rfl, hi, hDs, ρ2, B2, hp2, don, rst, g2, W2, bD, nD, rd, dn, e7, e8⟩
    refine ⟨hDs, ?_⟩
    obtain ⟨itg, its⟩ := it ρ2 B2 H2 (g2.gs W1.rb) W2.rb W2.bt
    by_cases hlt : i < ds.length
    . have hd : ds[i]? = some ds[i] := List.getElem?_eq_getElem hlt
      obtain ⟨go, yl⟩ := itg i _ hd
      rw [List.drop_eq_getElem_cons hlt] at e7
      obtain ⟨b, hp4, e9, e10⟩ := Qf e7
      refine .inr ⟨go, fun x H3 y => ?_⟩
      obtain ⟨rx, hx⟩ := yl x H3 y
      have S3 : Gr K ρ2 B2 H2 ρ2 B2 H3 /\ WOk K ρ2 B2 hp2 H3 := by
        rcases hx with rfl | ⟨p, o, hn, rfl⟩
        . exact ⟨Gr.refl, W2⟩
        . exact ⟨Gr.laid hn, W2.laid hn⟩
      have g3 := g2.trans S3.1
      have C3 := cσ_ok (idx := idx) S (g1s.trans (g3.gs W1.rb)) S3.2 rx
      refine tDT.run C3 e9 fun ρ4 B4 H4 g4 S4 => ?_
      have hD4 : H4 D = some (.lst ys) := g4.keep D _ nD (S3.1.keep D _ nD hDs)
      have nD4 : D ∉ ρ4 := fun z => (g4.rnew D z).elim nD fun q => by rw [S3.1.keep D _ nD hDs] at q; cases q
      cases b with
      | false =>
        refine Kq ⟨ds.length - (i + 1), by omega, rfl, hlt, hD4, ρ4, B4, hp4, don, rst, g3.trans g4, S4.wo, g4.ban D bD, nD4, RepL.grow W2.rb (S3.1.trans g4) _ _ rd, by omega, e10, e8⟩
      | true =>
        obtain ⟨z, hp5, e11, e12⟩ := Qf e10
        obtain ⟨zs, hp6, e13, e14⟩ := Qf e12
        obtain ⟨rfl, rfl⟩ := Qj e14
        refine UT (tD.run S4 e11 fun v ρ5 B5 H5 g5 S5 r5 => ?_)
        have hD5 : H5 D = some (.lst ys) := g5.keep D _ nD4 hD4
        have nD5 : D ∉ ρ5 := fun z => (g5.rnew D z).elim nD4 fun q => by rw [hD4] at q; cases q
        have bD5 : B5 D := g5.ban D (g4.ban D bD)
        have G5 := g3.trans (g4.trans g5)
        have rd5 := RepL.grow W2.rb (S3.1.trans (g4.trans g5)) _ _ rd
        have trk : ∀ b, (upd H5 D (.lst (ys ++ [v]))) b = none -> H5 b = none := fun b q => by
          by_cases e : b = D
          . subst e; rw [Q8] at q; cases q
          . rw [QS e] at q; exact q
        have g6 : Gs K ρ5 B5 H5 ρ5 B5 (upd H5 D (.lst (ys ++ [v]))) := ⟨List.prefix_rfl, fun _ h => .inl h, fun b o nb h => by rw [QS (show b ≠ D from fun z => nb (by rw [z]; exact bD5))]; exact h, trk⟩
        refine ⟨hD5, by have := rd5.length; omega, ds.length - (i + 1), by omega, rfl, hlt, Q8, ρ5, B5, hp5, don ++ [z], zs, ?_, ?_, bD5, nD5, RepL.gs g6 _ _ (RepL.append rd5 (RepL.one r5)), by simp; omega, e13, by rw [<- e8]; simp⟩
        . exact ⟨G5.pre, G5.ban, G5.new, G5.rnew, fun b o nb h => by rw [QS (show b ≠ D from fun q => by rw [q, hD] at h; cases h)]; exact G5.keep b o nb h, fun b q => G5.trk b (trk b q)⟩
        . exact ⟨S5.wo.len, S5.wo.nd, fun j b o q1 q2 => ORep.gs g6 (QS (show b ≠ D from fun z => nD5 (by rw [<- z]; exact List.mem_of_getElem? q1))) (S5.wo.obj j b o q1 q2), S5.wo.rb, fun b z q => S5.wo.bt b z (trk b q), S5.wo.bk⟩
    . have e : i = ds.length := by omega
      subst e
      rw [List.drop_length] at e7
      obtain ⟨rfl, rfl⟩ := Qj e7
      refine .inl ⟨its, ?_⟩
      have gU : Gs K ρ2 B2 H2 ρ2 (fun b => B2 b /\ b ≠ D) H2 := ⟨List.prefix_rfl, fun _ h => .inl h.1, fun _ _ _ h => h, fun _ h => h⟩
      refine k (.ref D) ρ2 (fun b => B2 b /\ b ≠ D) H2 (g1.trans ⟨g2.pre, fun b z => ⟨g2.ban b z, fun q => W1.bt b z (q ▸ hD)⟩, fun b z => g2.new b z.1, g2.rnew, g2.keep, g2.trk⟩)
        ⟨W2.len, W2.nd, fun j b o q1 q2 => ORep.gs gU rfl (W2.obj j b o q1 q2), fun b z => ⟨W2.rb b z, fun q => nD (q ▸ z)⟩, fun b z => W2.bt b z.1, fun b z => W2.bk b z.1⟩ (yD (fun z => z.2 rfl) (SqL.of hDs) ?_)
      rw [<- e8, List.append_nil]
      exact RepL.gs gU _ _ rd
def DTs (X : Cx) (ifs : List Expr) (t : DTx) : Prop := PTs X ifs (tDT X.K t)
theorem ub : DTs X [] gF := fun pins s σ H Q I ⟨Z, env, ρ, B, hp, d, hp', S, e, k⟩ => by
  obtain ⟨rfl, rfl⟩ := Qj e
  exact Qb7 pins s σ H Q I (k ρ B H Gr.refl S.wo)
theorem yL {c : Expr} (h : DT X c te) : DTs X [c] te := Qbx h
theorem uo (S : Ui X x scope cl caps idx) (hc : X.calm = true) (hi : DI X (.Name x px) iter src)
    (ht : ∀ C s₀ H₀ ex, DTs (XN X scope cl C (x :: caps) s₀ H₀ ex) ifs te) (he : ∀ C s₀ H₀ ex, DE (XN X scope cl C (x :: caps) s₀ H₀ ex) elt f)
    (hs : ∀ x, foldedSetIterable iter X.env x = pure x := by intro _; rfl) : DE X (.ListComp elt [⟨.Name x px, iter, ifs, 0⟩] scope pos) (x8 src idx te f) :=
  L2.PE.imp (ug (tt := tDT X.K te) (te := tD X.K f) S hc hi ht he hs) fun _ _ _ h => gW h
def Q1 (n : Nat) (body : DSx) : List DV -> M DV := fun ds => do
  let r <- body (ds.map .val ++ List.replicate (n - ds.length) .un)
  match r.1 with
  | .nx => pure .non
  | .rt d => pure d
  | _ => failure
def spD (K : PySem.W.Frag) (n : Nat) (F : List DV -> M DV) : Sp := fun vs H Q _ => vs.length = n /\ ∃ ρ B hp ds d hp', WOk K ρ B hp H /\ RepL K ρ B H ds vs /\ F ds hp = some (d, hp') /\ Fol K ρ B H d hp' Q
structure Has (P : Program) (w : World) (K : PySem.W.Frag) (mg : Str -> Option Value) (base : Heap) (x : Str) (k n : Nat) (F : List DV -> M DV) : Prop where
  ex : ∃ (g : Addr) (fd : FuncData) (ps : List Str), zF P w K mg base CX0 k g fd ps (spD K n F) /\ Binds K fd ps [] /\ PySem.W.keepIn K (.ref g) = true /\ mg x = some (.ref g)
theorem xN {K : PySem.W.Frag} {ρ : List Addr} {B : Addr -> Prop} {hp : Hs} {H : Hp} {ds : List DV} {vs : List V} {N : List Str} (W : WOk K ρ B hp H) (r : RepL K ρ B H ds vs) :
    SOk K ⟨ρ, B, H⟩ (ds.map .val ++ List.replicate (N.length - ds.length) .un) (L2.start N vs) ρ B hp H := by
  have hl := r.length
  have at_ : ∀ {i : Nat} {z : Sl}, (ds.map Sl.val ++ List.replicate (N.length - ds.length) Sl.un)[i]? = some z -> z = .un ∨ ∃ d, ds[i]? = some d /\ z = .val d := fun {i z} h => by
    by_cases hi : i < ds.length
    . rw [List.getElem?_append_left (by simpa using hi), List.getElem?_map, List.getElem?_eq_getElem hi] at h
      cases h
      exact .inr ⟨_, List.getElem?_eq_getElem hi, rfl⟩
    . rw [List.getElem?_append_right (by simpa using hi), List.getElem?_replicate] at h
      split at h
      . cases h; exact .inl rfl
      . cases h
  refine ⟨Gr.refl, W.bt, W, fun i d h => ?_, fun i es h => ?_, fun i j es es' a h => ?_, by unfold L2.start; simp; omega⟩
  . rcases at_ h with z | ⟨d', q, z⟩
    . cases z
    . cases z
      obtain ⟨v, h1, h2⟩ := r.get q
      refine ⟨v, ?_, h2⟩
      unfold L2.start
      have hi : i < vs.length := (List.getElem?_eq_some_iff.mp h1).1
      rw [List.getElem?_append_left (by simpa using hi), List.getElem?_map, h1]
      rfl
  . rcases at_ h with z | ⟨d', q, z⟩ <;> cases z
  . rcases at_ h with z | ⟨d', q, z⟩ <;> cases z
theorem Z1 {P : Program} {w : World} {K : PySem.W.Frag} {mg : Str -> Option Value} {base : Heap} {x : Str} {stm : Stmt} {g : Addr} {fd : FuncData} {N ps : List Str} {k : Nat} {body : DSx} (F : Fun K x x stm g fd) (Sc : Qx N ps (Qk stm)) (hm : mg x = some (.ref g))
    (hb : ∀ (kV doc pm : Value) (an : Option Addr) (cdv ct : Value) (us : List Value), us.length = ps.length -> bindArgs (PySem.W.fnOf x x (Qz stm) (Qt stm) (Qk stm) .none kV doc pm an cdv ct) ⟨us, []⟩ = pure (ps.zip us))
    (h : ∀ (cdv : Value) (A : Around) (outer : List Env) (s : Shared) (H : Hp) (E : XK), Room k (A.deeper (envOfC x (Qk stm) s.heap.objs.size g cdv)) -> DSs (Vd CX0 P w K mg base N x (Qk stm) g cdv A outer s H E).nox (Qt stm) body) :
    Has P w K mg base x (k + 1) ps.length (Q1 N.length body) := by
  refine ⟨g, fd, ps, F.ok Sc (fun vs H Q E h => h.1) (fun cdv A outer s H vs Q E hr sp => ?_), F.binds hb, F.kp, hm⟩
  obtain ⟨hn, ρ, B, hp, ds, d, hp', W, r, e, k⟩ := sp
  obtain ⟨⟨fl, env'⟩, hp1, e1, e2⟩ := Qf e
  refine ⟨_, h cdv A outer s H E hr, ⟨ρ, B, H⟩, _, ρ, B, hp, fl, env', hp1, xN W r, e1, fun σ' ρ' B' H' g' S' => ?_⟩
  cases fl with
  | nx => obtain ⟨rfl, rfl⟩ := Qj e2; exact k .non ρ' B' H' S'.gr S'.wo zP
  | rt x => obtain ⟨rfl, rfl⟩ := Qj e2; exact fun v rv => k v ρ' B' H' S'.gr S'.wo rv
  | bk => cases e2
  | ct => cases e2
def Qs (n : Nat) (F : List DV -> M DV) (a : DAx) : DEx := fun env => do
  let ds <- a env
  Qu (decide (ds.length = n))
  F ds
theorem QE {y : Str} {k j n : Nat} {F : List DV -> M DV} {e : Expr} {es : List Expr} {fa : DAx} {p : Pos} (h : Has X.prog X.w X.K X.mg X.base y j n F) (hr : Room k X.A) (hj : j <= k) (hx : qj CX0 X E0) (ha : DA X (e :: es) fa) (hg : Gl X y := by rfl)
    (hdb : (y == ("__debug__" : Str)) = false := by decide) (he : starEach (e :: es) X.env = (false, eval e X.env) :: starEach es X.env := by rfl) (hpl : (backTo pos (starEach es X.env)).any (·.1) = false := by rfl) : DE X (.Call (.Name y p) (e :: es) [] pos) (Qs n F fa) := by
  obtain ⟨g, fd, ps, F', hb, hk, hm⟩ := h.ex
  refine L2.PE.imp (Qbj F' (hr.mono hj) hg hm hk hb .nil hx ha hdb he hpl) fun σ H Q ⟨Z, env, ρ, B, hp, d, hp', S, e, k⟩ => ?_
  obtain ⟨ds, hp1, e1, e2⟩ := Qf e
  obtain ⟨_, hp2, e3, e4⟩ := Qf e2
  obtain ⟨hl, rfl⟩ := QH e3
  refine tDA.run S e1 fun vs ρ1 B1 H1 g1 S1 r1 => ?_
  refine ⟨by rw [List.append_nil, <- r1.length]; exact of_decide_eq_true hl, ρ1, B1, hp1, ds, d, hp', S1.wo, by rw [List.append_nil]; exact r1, e4, k.after g1⟩
end
end D
namespace D
open PySem PySem.Spec PyProof.Rows L2
section
variable {X : Cx} {e a b c : Expr} {f fa fb fc : DEx} {ca cb : DTx} {pos : Pos}
def zm (C : Int -> Int -> Bool) (g : Int -> Int -> DV) : DV -> DV -> M DV
  | .int i, .int j => if C i j then pure (g i j) else failure
  | _, _ => failure
theorem xH {C : Int -> Int -> Bool} {g : Int -> Int -> DV} {x y d : DV} {hp hp' : Hs} (h : zm C g x y hp = some (d, hp')) : ∃ i j, x = .int i /\ y = .int j /\ C i j = true /\ d = g i j /\ hp = hp' := by
  unfold zm at h
  split at h
  . rename_i i j
    by_cases hc : C i j = true
    . rw [if_pos hc] at h
      obtain ⟨rfl, rfl⟩ := Qj h
      exact ⟨i, j, rfl, rfl, hc, rfl, rfl⟩
    . rw [if_neg hc] at h; cases h
  . cases h
theorem Ki {g : Value -> Value -> Sem Value} {C : Int -> Int -> Bool} {P : Int -> Int -> Prop} {q : Int -> Int -> Int} (ho : OpR X g (rI P fun i j => .int (q i j))) (hC : ∀ i j, C i j = true -> P i j) : P2 X g (zm C fun i j => .int (q i j)) := by
  intro pins s σ H x y v u Q I rx ry h
  refine ho pins s σ H x y v u Q I rx ry ?_
  obtain ⟨ρ, B, hp, dx, dy, d, hp', W, r1, r2, e, k⟩ := h
  obtain ⟨i, j, rfl, rfl, hc, rfl, rfl⟩ := xH e
  exact ⟨i, j, r1.intI, r2.intI, hC i j hc, k _ ρ B H Gr.refl W JY⟩
theorem QbM {g : Value -> Value -> Sem Value} {q : Int -> Int -> Int} (ho : OpR X g (rI0 fun i j => .int (q i j))) : P2 X g (zm (fun _ _ => true) fun i j => .int (q i j)) := by
  intro pins s σ H x y v u Q I rx ry h
  refine ho pins s σ H x y v u Q I rx ry ?_
  obtain ⟨ρ, B, hp, dx, dy, d, hp', W, r1, r2, e, k⟩ := h
  obtain ⟨i, j, rfl, rfl, hc, rfl, rfl⟩ := xH e
  exact ⟨i, j, r1.intI, r2.intI, k _ ρ B H Gr.refl W JY⟩
theorem yF {g : Value -> Value -> Sem Value} {q : Int -> Int -> Bool} (ho : OpR X g (rI0 fun i j => .bl (q i j))) : P2 X g (zm (fun _ _ => true) fun i j => .bl (q i j)) := by
  intro pins s σ H x y v u Q I rx ry h
  refine ho pins s σ H x y v u Q I rx ry ?_
  obtain ⟨ρ, B, hp, dx, dy, d, hp', W, r1, r2, e, k⟩ := h
  obtain ⟨i, j, rfl, rfl, hc, rfl, rfl⟩ := xH e
  exact ⟨i, j, r1.intI, r2.intI, k _ ρ B H Gr.refl W Yr⟩
def Qdg (i j : Int) : Bool := decide ((-(2 ^ 64) < i /\ i < 2 ^ 64) ∨ (-(2 ^ 64) < j /\ j < 2 ^ 64))
def Qek (_ j : Int) : Bool := decide (0 < j /\ j < 1073741824)
def Qee (_ j : Int) : Bool := decide (0 < j)
def Qff (i j : Int) : Bool := decide (0 <= j /\ j <= 1000000 /\ i.natAbs < 2 ^ 64)
def zk : DV -> DV -> M DV := zm (fun _ _ => true) fun i j => .int (i - j)
def z0 : DV -> DV -> M DV := zm Qdg fun i j => .int (i * j)
def kP : DV -> DV -> M DV := zm Qek fun i j => .int (i / j)
def yS : DV -> DV -> M DV := zm Qee fun i j => .int (i % j)
def jA : DV -> DV -> M DV := zm Qff fun i j => .int (i ^ j.toNat)
def ltD : DV -> DV -> M DV := zm (fun _ _ => true) fun i j => .bl (decide (i < j))
def leD : DV -> DV -> M DV := zm (fun _ _ => true) fun i j => .bl (decide (i <= j))
def gtD : DV -> DV -> M DV := zm (fun _ _ => true) fun i j => .bl (decide (j < i))
def geD : DV -> DV -> M DV := zm (fun _ _ => true) fun i j => .bl (decide (j <= i))
theorem jb : P2 X (binaryOp .Sub) zk := QbM Qda
theorem ym : P2 X (binaryOp .Mult) z0 := Ki QcU fun i j h => of_decide_eq_true (p := (-(2 ^ 64) < i /\ i < 2 ^ 64) ∨ (-(2 ^ 64) < j /\ j < 2 ^ 64)) h
theorem QcC : P2 X (binaryOp .FloorDiv) kP := Ki Qby fun i j h => of_decide_eq_true (p := 0 < j /\ j < 1073741824) h
theorem x9 : P2 X (binaryOp .Mod) yS := Ki Qdk fun _ _ h => of_decide_eq_true h
theorem jk : P2 X (binaryOp .Pow) jA := Ki QdT fun i j h => of_decide_eq_true (p := 0 <= j /\ j <= 1000000 /\ i.natAbs < 2 ^ 64) h
theorem VY : P2 X (compareOp .Lt) ltD := yF QeC
theorem km : P2 X (compareOp .LtE) leD := yF QeJ
theorem Gm : P2 X (compareOp .Gt) gtD := yF Qeu
theorem QbN : P2 X (compareOp .GtE) geD := yF Qeg
def QeI : DV -> M DV
  | .int i => pure (.int (-i))
  | _ => failure
def XF (f : DEx) : DEx := fun env => do QeI (<- f env)
theorem vk (h : DE X a f) : DE X (.UnaryOp .USub a pos) (XF f) := L2.PE.imp (Qd5 Qc3 h) fun σ H Q ⟨Z, env, ρ, B, hp, d, hp', S, e, k⟩ => by
  obtain ⟨x, hp1, e1, e2⟩ := Qf e
  refine tD.run S e1 fun v ρ1 B1 H1 g1 S1 r1 => ?_
  cases x with
  | int i => obtain ⟨rfl, rfl⟩ := Qj e2; exact ⟨i, r1.intI, k _ ρ1 B1 H1 g1 S1.wo JY⟩
  | _ => cases e2
theorem Qa6 : OpR X (binaryOp .Add) (fun x y H Q => ∃ a b ys, x = .ref a /\ y = .ref b /\ SqT X.K H a [] /\ SqT X.K H b ys /\ ys.length <= sizeLine /\ Q (.ref b) H) := by
  intro pins s σ H x y v u Q I rx ry h
  obtain ⟨a, b, ys, rfl, rfl, ha, hb, hz, q⟩ := h
  cases rx
  cases ry
  obtain ⟨its, r1, p1, _⟩ := I.tuple ha
  obtain ⟨its2, r2, p2, _⟩ := I.tuple hb
  obtain ⟨m, F⟩ := I.fr
  have z : its = [] := by cases r1; rfl
  subst z
  exact add_tuples F (Qan (g := X.base) (L := X.env.locals)) p1 p2 (fun _ => ⟨.ref b, H, I, rfl, q⟩) (fun n => absurd rfl n) (fun n => absurd rfl n) (by have := r2.length; simp; omega)
def ZG : DV -> DV -> M DV
  | .int i, .int j => pure (.int (i + j))
  | .tup xs, .tup ys => do Qu (Xu (xs ++ ys)); pure (.tup (xs ++ ys))
  | .lst xs, .lst ys => do Qu (Xu (xs ++ ys)); pure (.lst (xs ++ ys))
  | _, _ => failure
theorem Qb8 : OpR X (binaryOp .Add) (fun x y H Q => ∃ l b xs zs, x = .ref l /\ y = .ref b /\ SqL X.K H l xs /\ SqL X.K H b zs /\ xs.length + zs.length <= sizeLine /\ ∀ p, H p = none -> Q (.ref p) (upd H p (.lst (xs ++ zs)))) := by
  intro pins s σ H x y v u Q I rx ry h
  obtain ⟨l, b, xs, zs, rfl, rfl, hl, hb, hz, q⟩ := h
  cases rx
  cases ry
  obtain ⟨its, r1, ⟨⟨k1, dd1, da1, sl1⟩, n1, e1, c1, d1, s1⟩, _⟩ := I.list hl
  obtain ⟨its2, r2, ⟨⟨k2, dd2, da2, sl2⟩, n2, e2, c2, d2, s2⟩, _⟩ := I.list hb
  simp only at c1 d1 s1 c2 d2 s2
  subst c1 d1 s1 c2 d2 s2
  have ea : its.toArray ++ its2.toArray = (its ++ its2).toArray := by simp
  have hz' : its.length + its2.length <= sizeLine := by rw [<- r1.length, <- r2.length]; exact hz
  refine concat_meets (T := "list") ⟨_, e1, rfl⟩ ⟨_, e2, rfl⟩ noFill_list_add seq_list_add PySem.F.slot_list_add PySem.F.entry_list_add (PySem.F.args_list_add_2 _ _) (list_addW l b its.toArray its2.toArray n1 n2 none none sl1 sl2 (by simpa using hz')) ⟨e1, e2, ?_⟩
  rw [ea]
  exact ⟨.ref _, _, I.lnew (t' := s.toks) (r1.append r2) (by rw [List.length_append]; exact hz), rfl, q _ I.fresh⟩
theorem Jf : P2 X (binaryOp .Add) ZG := by
  intro pins s σ H x y v u Q I rx ry h
  obtain ⟨ρ, B, hp, dx, dy, d, hp', W, r1, r2, e, k⟩ := h
  unfold ZG at e
  split at e
  . obtain ⟨rfl, rfl⟩ := Qj e
    exact QdE pins s σ H x y v u Q I rx ry ⟨_, _, r1.intI, r2.intI, k _ ρ B H Gr.refl W JY⟩
  . rename_i xs ys
    obtain ⟨_, hp1, e1, e2⟩ := Qf e
    obtain ⟨hs, rfl⟩ := QH e1
    obtain ⟨rfl, rfl⟩ := Qj e2
    obtain ⟨a, vs, rfl, n1, q1, l1⟩ := r1.tupI
    obtain ⟨b, ws, rfl, n2, q2, l2⟩ := r2.tupI
    have hz : vs.length + ws.length <= sizeLine := by
      have := zr hs
      rw [List.length_append] at this
      rw [<- l1.length, <- l2.length]; exact this
    by_cases hv : vs = []
    . subst hv
      have : xs = [] := by have := l1.length; cases xs with | nil => rfl | cons _ _ => simp at this
      subst this
      exact Qa6 pins s σ H _ _ v u Q I rx ry ⟨a, b, ws, rfl, rfl, q1, q2, by simp at hz; exact hz, k _ ρ B H Gr.refl W (zT n2 q2 l2)⟩
    . refine Qcw pins s σ H _ _ v u Q I rx ry ⟨a, b, vs, ws, rfl, rfl, q1, q2, hv, hz, fun hw => ?_, fun hw => jE W (RepL.append l1 l2) k⟩
      subst hw
      have : ys = [] := by have := l2.length; cases ys with | nil => rfl | cons _ _ => simp at this
      subst this
      rw [List.append_nil] at k
      exact k _ ρ B H Gr.refl W (zT n1 q1 l1)
  . rename_i xs ys
    obtain ⟨_, hp1, e1, e2⟩ := Qf e
    obtain ⟨hs, rfl⟩ := QH e1
    obtain ⟨rfl, rfl⟩ := Qj e2
    obtain ⟨a, vs, rfl, n1, q1, l1⟩ := r1.lstI
    obtain ⟨b, ws, rfl, n2, q2, l2⟩ := r2.lstI
    have hz : vs.length + ws.length <= sizeLine := by
      have := zr hs
      rw [List.length_append] at this
      rw [<- l1.length, <- l2.length]; exact this
    exact Qb8 pins s σ H _ _ v u Q I rx ry ⟨a, b, vs, ws, rfl, rfl, q1, q2, hz, yI W (RepL.append l1 l2) k⟩
  . cases e
def isN : DV -> Bool
  | .non => true
  | _ => false
theorem vY {K : PySem.W.Frag} {ρ : List Addr} {B : Addr -> Prop} {H : Hp} {d : DV} {v : V} (r : RepV K ρ B H d v) : decide (v = .non) = isN d := by
  cases d with
  | non => rw [r.nonI]; rfl
  | bl b => rw [r.blI]; rfl
  | int b => rw [r.intI]; rfl
  | str b => rw [r.strI]; rfl
  | tup b => obtain ⟨a, xs, rfl, _⟩ := r.tupI; rfl
  | lst b => obtain ⟨a, xs, rfl, _⟩ := r.lstI; rfl
  | ref b => obtain ⟨a, rfl, _⟩ := r.refI; rfl
def isD : DV -> DV -> M DV
  | x, .non => pure (.bl (isN x))
  | .bl p, .bl q => pure (.bl (p == q))
  | _, _ => failure
def xr : DV -> DV -> M DV
  | x, .non => pure (.bl (!isN x))
  | .bl p, .bl q => pure (.bl (p != q))
  | _, _ => failure
theorem KR : P2 X (compareOp .Is) isD := by
  intro pins s σ H x y v u Q I rx ry h
  obtain ⟨ρ, B, hp, dx, dy, d, hp', W, r1, r2, e, k⟩ := h
  unfold isD at e
  split at e
  . obtain ⟨rfl, rfl⟩ := Qj e
    refine QcP pins s σ H x y v u Q I rx ry ⟨r2.nonI, ?_⟩
    rw [vY r1]
    exact k _ ρ B H Gr.refl W Yr
  . obtain ⟨rfl, rfl⟩ := Qj e
    obtain rfl := r1.blI
    obtain rfl := r2.blI
    cases rx; cases ry
    exact is_bool ⟨.bl _, H, I, rfl, k _ ρ B H Gr.refl W Yr⟩
  . cases e
theorem GJ : P2 X (compareOp .IsNot) xr := by
  intro pins s σ H x y v u Q I rx ry h
  obtain ⟨ρ, B, hp, dx, dy, d, hp', W, r1, r2, e, k⟩ := h
  unfold xr at e
  split at e
  . obtain ⟨rfl, rfl⟩ := Qj e
    refine QbT pins s σ H x y v u Q I rx ry ⟨r2.nonI, ?_⟩
    rw [vY r1]
    exact k _ ρ B H Gr.refl W Yr
  . obtain ⟨rfl, rfl⟩ := Qj e
    obtain rfl := r1.blI
    obtain rfl := r2.blI
    cases rx; cases ry
    exact isnot_bool ⟨.bl _, H, I, rfl, k _ ρ B H Gr.refl W Yr⟩
  . cases e
theorem Kc {K : PySem.W.Frag} {ρ : List Addr} {B : Addr -> Prop} {H : Hp} {ds : List DV} {xs : List V} {i : Int} {d : DV} (r : RepL K ρ B H ds xs) (h : atI ds i = some d) : ∃ x, atI xs i = some x /\ RepV K ρ B H d x := by
  unfold atI at h ⊢
  rw [<- r.length]
  cases q : ixN ds.length i with
  | none => rw [q] at h; cases h
  | some j =>
    rw [q] at h
    exact r.get h
def ixD : DV -> DV -> M DV
  | .tup ds, .int i => match atI ds i with
    | some d => pure d
    | none => failure
  | .lst ds, .int i => match atI ds i with
    | some d => pure d
    | none => failure
  | _, _ => failure
theorem Qd3 : IxR X (tP2 X.K ixD) := by
  intro value slice pins s σ H x y v u Q I rx ry h hsub
  obtain ⟨ρ, B, hp, dx, dy, d, hp', W, r1, r2, e, k⟩ := h
  unfold ixD at e
  split at e
  . rename_i ds i
    cases q : atI ds i with
    | none => rw [q] at e; cases e
    | some d' =>
      rw [q] at e
      obtain ⟨rfl, rfl⟩ := Qj e
      obtain ⟨a, xs, rfl, n1, q1, l1⟩ := r1.tupI
      obtain ⟨z, hz, rz⟩ := Kc l1 q
      exact Qdh value slice pins s σ H _ _ v u Q I rx ry ⟨a, xs, i, z, rfl, r2.intI, q1, hz, k _ ρ B H Gr.refl W rz⟩ hsub
  . rename_i ds i
    cases q : atI ds i with
    | none => rw [q] at e; cases e
    | some d' =>
      rw [q] at e
      obtain ⟨rfl, rfl⟩ := Qj e
      obtain ⟨a, xs, rfl, n1, q1, l1⟩ := r1.lstI
      obtain ⟨z, hz, rz⟩ := Kc l1 q
      exact vW value slice pins s σ H _ _ v u Q I rx ry ⟨a, xs, i, z, rfl, r2.intI, q1, hz, k _ ρ B H Gr.refl W rz⟩ hsub
  . cases e
theorem JZ (ha : DE X a fa) (hb : DE X b fb) (hs : UW b := by intro _ _; rfl) : DE X (.Subscript a b pos) (Qh ixD fa fb) := L2.PE.imp (Qcz Qd3 ha hb hs) fun _ _ _ h => zw h
end
end D
namespace D
open PySem PySem.Spec PyProof.Rows L2
mutual
def toP : DV -> PyData
  | .non => .none
  | .bl b => .bool b
  | .int i => .int i
  | .str x => .str x
  | .tup xs => .tuple (yq xs)
  | .lst xs => .list (yq xs)
  | .ref _ => .none
def yq : List DV -> List PyData
  | [] => []
  | d :: ds => toP d :: yq ds
end
mutual
def yd : DV -> Bool
  | .ref _ => false
  | .tup xs => jy xs
  | .lst xs => jy xs
  | _ => true
def jy : List DV -> Bool
  | [] => true
  | d :: ds => yd d && jy ds
end
section
variable {X : Cx} {pins : List (Addr × Obj)} {σ : St} {H : Hp} {s : Shared} {ρ : List Addr} {B : Addr -> Prop}
mutual
theorem VO (I : Inv X pins σ H s) : ∀ (d : DV) (v : V) (u : Value), RepV X.K ρ B H d v -> RelV v u -> yd d = true -> ∃ as, Reads s.heap u (toP d) as
  | .non, _, _, r, ru, _ => by obtain rfl := r.nonI; cases ru; exact ⟨[], by unfold toP; exact .none⟩
  | .bl b, _, _, r, ru, _ => by obtain rfl := r.blI; cases ru; exact ⟨[], by unfold toP; exact .bool b⟩
  | .int i, _, _, r, ru, _ => by obtain rfl := r.intI; obtain ⟨t, rfl⟩ := ru; exact ⟨[], by unfold toP; exact .int i t⟩
  | .str x, _, _, r, ru, _ => by obtain rfl := r.strI; obtain ⟨t, rfl⟩ := ru; exact ⟨[], by unfold toP; exact .str x t⟩
  | .ref _, _, _, _, _, n => by cases n
  | .tup ds, _, _, r, ru, n => by
    obtain ⟨a, xs, rfl, _, sq, rl⟩ := r.tupI
    cases ru
    obtain ⟨its, rv, ⟨o, e, hc, k, hd⟩, _⟩ := I.tuple sq
    obtain ⟨as, q⟩ := xD I ds xs its rl rv (by unfold yd at n; exact n)
    exact ⟨_, by unfold toP; exact reads_tuple_at e hc hd (by simpa using q)⟩
  | .lst ds, _, _, r, ru, n => by
    obtain ⟨a, xs, rfl, _, sq, rl⟩ := r.lstI
    cases ru
    obtain ⟨its, rv, ⟨o, k, e, hc, _, hd⟩, _⟩ := I.list sq
    obtain ⟨as, q⟩ := xD I ds xs its rl rv (by unfold yd at n; exact n)
    exact ⟨_, by unfold toP; exact reads_list_at e hc hd (by simpa using q)⟩
theorem xD (I : Inv X pins σ H s) : ∀ (ds : List DV) (xs : List V) (us : List Value), RepL X.K ρ B H ds xs -> Vals xs us -> jy ds = true -> ∃ as, ReadsAll s.heap us (yq ds) as
  | [], _, _, r, ru, _ => by unfold RepL at r; subst r; cases ru; exact ⟨[], by unfold yq; exact .nil⟩
  | d :: ds, _, _, r, ru, n => by
    unfold RepL at r
    obtain ⟨x, xs, rfl, r1, r2⟩ := r
    cases ru with
    | cons q1 q2 =>
      unfold jy at n
      rw [Bool.and_eq_true] at n
      obtain ⟨as, h1⟩ := VO I d x _ r1 q1 n.1
      obtain ⟨bs, h2⟩ := xD I ds xs _ r2 q2 n.2
      exact ⟨_, by unfold yq; exact .cons h1 h2⟩
end
end
def okP (d : DV) : Bool := yd d && SeqAt.shaped (toP d)
def eqD : DV -> DV -> M DV := fun x y => do Qu (okP x && okP y); pure (.bl (PyData.eqv (toP x) (toP y)))
def neD : DV -> DV -> M DV := fun x y => do Qu (okP x && okP y); pure (.bl (!PyData.eqv (toP x) (toP y)))
section
variable {X : Cx} {e a b c : Expr} {f fa fb fc : DEx} {ca cb : DTx} {pos : Pos}
theorem Qcq (hu : X.A.units + 64 < cLine) : P2 X (compareOp .Eq) eqD := by
  intro pins s σ H x y v u Q I rx ry h
  obtain ⟨ρ, B, hp, dx, dy, d, hp', W, r1, r2, e, k⟩ := h
  obtain ⟨_, hp1, e1, e2⟩ := Qf e
  obtain ⟨hs, rfl⟩ := QH e1
  obtain ⟨rfl, rfl⟩ := Qj e2
  simp only [okP, Bool.and_eq_true] at hs
  obtain ⟨as, q1⟩ := VO I dx x v r1 rx hs.1.1
  obtain ⟨bs, q2⟩ := VO I dy y u r2 ry hs.2.1
  exact eq_dataH q1 q2 hs.1.2 hs.2.2 hu ⟨.bl _, H, I, rfl, k _ ρ B H Gr.refl W Yr⟩
def tPn (K : PySem.W.Frag) (g : List DV -> M DV) : List V -> Hp -> VK -> Prop := fun xs H Q => ∃ ρ B hp ds d hp', WOk K ρ B hp H /\ RepL K ρ B H ds xs /\ g ds hp = some (d, hp') /\ Fol K ρ B H d hp' Q
def QN (g : List DV -> M DV) (a : DAx) : DEx := fun env => do g (<- a env)
theorem KD {K : PySem.W.Frag} {g : List DV -> M DV} {fa : DAx} {σ : St} {H : Hp} {Q : VK} (h : tD K (QN g fa) σ H Q) : tCB (tPn K g) (tDA K fa) σ H Q := by
  obtain ⟨Z, env, ρ, B, hp, d, hp', S, e, k⟩ := h
  obtain ⟨ds, hp1, e1, e2⟩ := Qf e
  exact tDA.run S e1 fun vs ρ1 B1 H1 g1 S1 r1 => ⟨ρ1, B1, hp1, ds, d, hp', S1.wo, r1, e2, k.after g1⟩
theorem Z2 {x : Str} {id : String} {g : List DV -> M DV} {e : Expr} {es : List Expr} {fa : DAx} {p : Pos} (hc : Yk X (.builtin id) (tPn X.K g)) (hm : X.mg x = none) (hv : bootBuiltins x = some (.builtin id)) (ha : DA X (e :: es) fa) (hg : Gl X x := by rfl) (hn : x ≠ "__name__" := by decide) (hdb : (x == ("__debug__" : Str)) = false := by decide)
    (he : starEach (e :: es) X.env = (false, eval e X.env) :: starEach es X.env := by rfl) (hpl : (backTo pos (starEach es X.env)).any (·.1) = false := by rfl) : DE X (.Call (.Name x p) (e :: es) [] pos) (QN g fa) :=
  L2.PE.imp (QaY hc hg hm hv ha hn hdb he hpl) fun _ _ _ h => KD h
theorem GC {x : Str} {T : String} {g : List DV -> M DV} {e : Expr} {es : List Expr} {fa : DAx} {p : Pos} (hc : Yk X (.type T) (tPn X.K g)) (hm : X.mg x = none) (hv : bootBuiltins x = some (.type T)) (ha : DA X (e :: es) fa) (hg : Gl X x := by rfl) (hn : x ≠ "__name__" := by decide) (hdb : (x == ("__debug__" : Str)) = false := by decide)
    (he : starEach (e :: es) X.env = (false, eval e X.env) :: starEach es X.env := by rfl) (hpl : (backTo pos (starEach es X.env)).any (·.1) = false := by rfl) : DE X (.Call (.Name x p) (e :: es) [] pos) (QN g fa) :=
  L2.PE.imp (gH hc hg hm hv ha hn hdb he hpl) fun _ _ _ h => KD h
theorem RepL.oneI {K : PySem.W.Frag} {ρ : List Addr} {B : Addr -> Prop} {H : Hp} {d : DV} {vs : List V} (h : RepL K ρ B H [d] vs) : ∃ v, vs = [v] /\ RepV K ρ B H d v := by
  unfold RepL at h
  obtain ⟨x, r, rfl, h1, h2⟩ := h
  unfold RepL at h2; subst h2
  exact ⟨x, rfl, h1⟩
def YG : List DV -> M DV
  | [.tup ds] => pure (.int ds.length)
  | [.lst ds] => pure (.int ds.length)
  | _ => failure
theorem Us : Yk X (.builtin "len") (tPn X.K YG) := by
  intro pins s σ H xs us Q I r h
  obtain ⟨ρ, B, hp, ds, d, hp', W, rl, e, k⟩ := h
  unfold YG at e
  split at e
  . obtain ⟨rfl, rfl⟩ := Qj e
    obtain ⟨v, rfl, rv⟩ := rl.oneI
    obtain ⟨a, ys, rfl, _, sq, l⟩ := rv.tupI
    exact ze pins s σ H _ us Q I r ⟨a, ys, rfl, .inr sq, by rw [<- l.length]; exact k _ ρ B H Gr.refl W JY⟩
  . obtain ⟨rfl, rfl⟩ := Qj e
    obtain ⟨v, rfl, rv⟩ := rl.oneI
    obtain ⟨a, ys, rfl, _, sq, l⟩ := rv.lstI
    exact ze pins s σ H _ us Q I r ⟨a, ys, rfl, .inl sq, by rw [<- l.length]; exact k _ ρ B H Gr.refl W JY⟩
  . cases e
def GX : List DV -> M DV
  | [.int i, .int j] => pure (.int (if j < i then j else i))
  | _ => failure
theorem Qbg (hc : X.calm = true) : Yk X (.builtin "min") (tPn X.K GX) := by
  intro pins s σ H xs us Q I r h
  obtain ⟨ρ, B, hp, ds, d, hp', W, rl, e, k⟩ := h
  unfold GX at e
  split at e
  . obtain ⟨rfl, rfl⟩ := Qj e
    exact gc hc pins s σ H xs us Q I r ⟨_, _, rl.ints2, k _ ρ B H Gr.refl W JY⟩
  . cases e
def G4 : List DV -> M DV
  | [.int i] => pure (.int i)
  | [.bl k] => pure (.int (if k then 1 else 0))
  | _ => failure
theorem QeB : Yk X (.type "int") (tPn X.K G4) := by
  intro pins s σ H xs us Q I r h
  obtain ⟨ρ, B, hp, ds, d, hp', W, rl, e, k⟩ := h
  unfold G4 at e
  split at e
  . obtain ⟨rfl, rfl⟩ := Qj e
    exact UD pins s σ H xs us Q I r (.inl ⟨_, rl.ints1, k _ ρ B H Gr.refl W JY⟩)
  . obtain ⟨rfl, rfl⟩ := Qj e
    obtain ⟨v, rfl, rv⟩ := rl.oneI
    obtain rfl := rv.blI
    exact UD pins s σ H _ us Q I r (.inr ⟨_, rfl, k _ ρ B H Gr.refl W JY⟩)
  . cases e
def Qdc : List DV -> M DV
  | [.lst ds] => pure (.tup ds)
  | [.tup ds] => pure (.tup ds)
  | _ => failure
theorem QbK : Yk X (.type "tuple") (tPn X.K Qdc) := by
  intro pins s σ H xs us Q I r h
  obtain ⟨ρ, B, hp, ds, d, hp', W, rl, e, k⟩ := h
  unfold Qdc at e
  split at e
  . obtain ⟨rfl, rfl⟩ := Qj e
    obtain ⟨v, rfl, rv⟩ := rl.oneI
    obtain ⟨a, ys, rfl, _, sq, l⟩ := rv.lstI
    exact qf pins s σ H _ us Q I r ⟨a, ys, rfl, .inl ⟨sq, jE W l k⟩⟩
  . obtain ⟨rfl, rfl⟩ := Qj e
    obtain ⟨v, rfl, rv⟩ := rl.oneI
    obtain ⟨a, ys, rfl, nb, sq, l⟩ := rv.tupI
    exact qf pins s σ H _ us Q I r ⟨a, ys, rfl, .inr ⟨sq, k _ ρ B H Gr.refl W (zT nb sq l)⟩⟩
  . cases e
def X6 (g g' : DV -> DV -> M DV) (fa fb fc : DEx) : DEx := fun env => do
  let x <- fa env
  let y <- fb env
  let z <- g x y
  if <- asB z then
    let u <- fc env
    g' y u
  else pure (.bl false)
end
end D
namespace D
open PySem PySem.Spec PyProof.Rows L2
section
variable {X : Cx} {e a b c : Expr} {f fa fb fc : DEx} {ca cb : DTx} {pos : Pos}
theorem G7 {K : PySem.W.Frag} {g g' : DV -> DV -> M DV} {σ : St} {H : Hp} {Q : VK} (h : tD K (X6 g g' fa fb fc) σ H Q) : QaO (tP2 K g) (tP2 K g') (tD K fa) (tD K fb) (tD K fc) σ H Q := by
  obtain ⟨Z, env, ρ, B, hp, d, hp', S, e, k⟩ := h
  obtain ⟨x, hp1, e1, e⟩ := Qf e
  obtain ⟨y, hp2, e2, e⟩ := Qf e
  obtain ⟨z, hp3, e3, e⟩ := Qf e
  obtain ⟨t, hp4, e4, e⟩ := Qf e
  obtain ⟨rfl, rfl⟩ := zE e4
  refine tD.run S e1 fun v ρ1 B1 H1 g1 S1 r1 => tD.run S1 e2 fun u ρ2 B2 H2 g2 S2 r2 => ?_
  refine ⟨ρ2, B2, hp2, x, y, _, _, S2.wo, RepV.grow S1.wo.rb g2 _ _ r1, r2, e3, fun w ρ3 B3 H3 g3 W3 r3 => ⟨t, r3.blI, ?_⟩⟩
  have S3 := S2.grow g3 W3
  cases t with
  | false =>
    obtain ⟨rfl, rfl⟩ := Qj e
    exact Kq (k _ ρ3 B3 H3 (g1.trans (g2.trans g3)) W3 Yr)
  | true =>
    obtain ⟨q, hp5, e5, e6⟩ := Qf e
    refine UT (tD.run S3 e5 fun p ρ4 B4 H4 g4 S4 r4 => ?_)
    exact ⟨ρ4, B4, hp5, y, q, d, hp', S4.wo, RepV.grow S3.wo.rb g4 _ _ (RepV.grow S2.wo.rb g3 _ _ r2), r4, e6, k.after (g1.trans (g2.trans (g3.trans g4)))⟩
theorem y9 {op op' : CmpOp} {g g' : DV -> DV -> M DV} (ho : P2 X (compareOp op) g) (ho' : P2 X (compareOp op') g') (ha : DE X a fa) (hb : DE X b fb) (hc : DE X c fc) (hm : lastMarks [op, op'] [b, c] = false := by with_unfolding_all rfl) : DT X (.Compare a [op, op'] [b, c] pos) (eB (X6 g g' fa fb fc)) :=
  L2.PT.imp (g9 ho ho' ha hb hc hm) fun σ H Q ⟨Z, env, ρ, B, hp, d, hp', S, e, k⟩ => by
    obtain ⟨x, hp1, e1, e2⟩ := Qf e
    obtain ⟨rfl, rfl⟩ := zE e2
    exact G7 (tD.run S e1 fun v ρ1 B1 H1 g1 S1 r1 => ⟨d, r1.blI, k ρ1 B1 H1 g1 S1.wo⟩)
abbrev DOx := En -> M (Option Int)
def tDO (K : PySem.W.Frag) (f : DOx) : TO := fun σ H Q => ∃ Z env ρ B hp d hp', SOk K Z env σ ρ B hp H /\ f env hp = some (d, hp') /\ Qeo K ρ B H hp' (Q d)
def DO (X : Cx) (e : Option Expr) (f : DOx) : Prop := PO X e (tDO X.K f)
def Z7 : DOx := fun _ => pure none
def asI : DV -> M Int
  | .int i => pure i
  | _ => failure
theorem VH {d : DV} {c : Int} {hp hp' : Hs} (h : asI d hp = some (c, hp')) : d = .int c /\ hp = hp' := by
  cases d with
  | int b => obtain ⟨rfl, rfl⟩ := Qj h; exact ⟨rfl, rfl⟩
  | _ => cases h
def Z5 (f : DEx) : DOx := fun env => do let i <- asI (<- f env); pure (some i)
theorem Xd : DO X none Z7 := fun pins s σ H Q I ⟨Z, env, ρ, B, hp, d, hp', S, e, k⟩ => by
  obtain ⟨rfl, rfl⟩ := Qj e
  exact Qb5 pins s σ H Q I (k ρ B H Gr.refl S.wo)
theorem Xe (h : DE X e f) : DO X (some e) (Z5 f) := fun pins s σ H Q I ⟨Z, env, ρ, B, hp, d, hp', S, e, k⟩ => by
  obtain ⟨x, hp1, e1, e2⟩ := Qf e
  obtain ⟨i, hp2, e3, e4⟩ := Qf e2
  obtain ⟨rfl, rfl⟩ := VH e3
  obtain ⟨rfl, rfl⟩ := Qj e4
  exact QbU h pins s σ H Q I (tD.run S e1 fun v ρ1 B1 H1 g1 S1 r1 => ⟨i, r1.intI, k ρ1 B1 H1 g1 S1.wo⟩)
theorem tDO.run {K : PySem.W.Frag} {f : DOx} {Z : Ent} {env : En} {σ : St} {ρ : List Addr} {B : Addr -> Prop} {hp hp1 : Hs} {H : Hp} {d : Option Int} {Q : Option Int -> Hp -> Prop} (S : SOk K Z env σ ρ B hp H) (e : f env hp = some (d, hp1))
    (k : ∀ ρ' B' H', Gr K ρ B H ρ' B' H' -> SOk K Z env σ ρ' B' hp1 H' -> Q d H') : tDO K f σ H Q :=
  ⟨Z, env, ρ, B, hp, d, hp1, S, e, fun ρ' B' H' g W => k ρ' B' H' g (S.grow g W)⟩
def yr (ds : List DV) (lo hi : Option Int) : List DV := (ds.drop (HT.sIx ds.length 0 lo)).take (HT.sIx ds.length ds.length hi - HT.sIx ds.length 0 lo)
theorem KO {K : PySem.W.Frag} {ρ : List Addr} {B : Addr -> Prop} {H : Hp} {ds : List DV} {xs : List V} {lo hi : Option Int} (r : RepL K ρ B H ds xs) : RepL K ρ B H (yr ds lo hi) (Gy xs lo hi) := by
  unfold yr Gy
  rw [r.length]
  exact RepL.take _ (RepL.drop _ r)
def slD (d : DV) (lo hi : Option Int) : M DV := match d with
  | .lst ds => pure (.lst (yr ds lo hi))
  | .tup ds => pure (.tup (yr ds lo hi))
  | _ => failure
def eSl (f : DEx) (lo hi : DOx) : DEx := fun env => do let d <- f env; let l <- lo env; let h <- hi env; slD d l h
def tPs (K : PySem.W.Frag) : V -> Option Int -> Option Int -> Hp -> VK -> Prop := fun x lo hi H Q => ∃ ρ B hp d r hp', WOk K ρ B hp H /\ RepV K ρ B H d x /\ slD d lo hi hp = some (r, hp') /\ Fol K ρ B H r hp' Q
theorem K5 {prog : Program} {w : World} {A : Around} {E : Value -> Shared -> Prop} {s : Shared} {t sl : Addr} {items : Array Value} {vl vu : Value} {lo hi : Option Int} {Q : Value -> Shared -> Prop} (ht : IsTup s.heap t items) (hs : s.heap.IsSliceOf sl vl vu .none) (pl : IsPart vl lo) (pu : IsPart vu hi)
    (h0 : HT.sIx items.size 0 lo = 0) (h1 : HT.sIx items.size items.size hi = items.size) (h : Q (.ref t) s) : wpAny (model prog w) A (getItem (.ref t) (.ref sl)) Q E s := by
  obtain ⟨os, hos, hcs, hds⟩ := id hs
  have hTs : s.TypeIs (.ref sl) "slice" := ⟨os, hos, hcs⟩
  unfold getItem
  try with_reducible refine wpAny_holding ?_
  first | refine wpAny_bind (wpAny_pure ?_) | skip
  refine wpAny_bind (wpAny_sequenceKey ht.typeIs (by decide) ?_)
  refine wpAny_bind (wpAny_callSpecial?_slot (name := Str.ofString "__getitem__") ht.typeIs PyProof.Rows.slot_tuple_getitem (wpAny_call_entry PyProof.Rows.slot_tuple_getitem ht.typeIs entry_tuple_getitem ?_ (args_tuple_getitem _ _)))
  show wpAny _ _ (Builtin.Tuple.tupleItemsOf (.ref t) >>= _) _ _ s
  refine wpAny_bind (tupleItemsOf_ ht ?_)
  refine wpAny_bind (wpAny_typeOf hTs ?_)
  rw [if_pos (by decide)]
  refine wpAny_bind (HT.sliceApplied_gen hs pl pu ?_)
  have yes : (((HT.sIx items.size 0 lo : Nat) : Int) == 0 && (1 : Int) == 1 && (HT.sIx items.size items.size hi - HT.sIx items.size 0 lo) == items.size) = true := by rw [h0, h1]; simp
  show wpAny _ _ (if (((HT.sIx items.size 0 lo : Nat) : Int) == 0 && (1 : Int) == 1 && (HT.sIx items.size items.size hi - HT.sIx items.size 0 lo) == items.size) = true then _ else _) _ _ s
  rw [if_pos yes]
  have ex : ∀ {Q' : Bool -> Shared -> Prop} {A' : Around} {E' : Value -> Shared -> Prop}, Q' true s -> wpAny (model prog w) A' (Builtin.Tuple.tupleIsExact (.ref t)) Q' E' s := fun {Q' A' E'} q => by
    unfold Builtin.Tuple.tupleIsExact
    exact wpAny_bind (wpAny_typeOf ht.typeIs (wpAny_pure (by rw [show (Value.type "tuple" == Value.type "tuple") = true from beq_self_eq_true _]; exact q)))
  refine wpAny_bind (ex ?_)
  rw [if_pos rfl]
  first
    | exact wpAny_bind (wpAny_rule (wpAny_pure ⟨_, rfl, wpAny_pure h⟩))
    | exact wpAny_bind (wpAny_rule (wpAny_bind (wpAny_pure (wpAny_pure ⟨_, rfl, wpAny_pure h⟩))))
theorem Qcp : SlR X (fun x lo hi H Q => ∃ a xs, x = .ref a /\ SqT X.K H a xs /\ (HT.sIx xs.length 0 lo = 0 /\ HT.sIx xs.length xs.length hi = xs.length) /\ Q (.ref a) H) := by
  intro pins s σ H x v vl vu lo hi sl Q I rx hs pl pu h
  obtain ⟨a, xs, rfl, hx, ⟨h0, h1⟩, q⟩ := h
  cases rx
  obtain ⟨its, r, ht, hz⟩ := I.tuple hx
  have hlen : its.toArray.size = xs.length := by rw [List.size_toArray]; exact r.length.symm
  exact ⟨"tuple", _, PyProof.Rows.slot_tuple_getitem.lookup, ht.typeIs, K5 ht hs pl pu (by rw [hlen]; exact h0) (by rw [hlen]; exact h1) ⟨.ref a, H, I, rfl, q⟩⟩
theorem gf {α : Type} (ds : List α) (i j : Nat) (h0 : i = 0) (h1 : j = ds.length) : (ds.drop i).take (j - i) = ds := by subst h0 h1; simp
theorem Qe6 : SlR X (tPs X.K) := by
  intro pins s σ H x v vl vu lo hi sl Q I rx hs pl pu h
  obtain ⟨ρ, B, hp, d, r, hp', W, rv, e, k⟩ := h
  cases d with
  | lst ds =>
    obtain ⟨rfl, rfl⟩ := Qj e
    obtain ⟨a, xs, rfl, nb, sq, rl⟩ := rv.lstI
    exact Qcv pins s σ H _ v vl vu lo hi sl Q I rx hs pl pu ⟨a, xs, rfl, sq, yI W (KO rl) k⟩
  | tup ds =>
    obtain ⟨rfl, rfl⟩ := Qj e
    obtain ⟨a, xs, rfl, nb, sq, rl⟩ := rv.tupI
    by_cases hw : HT.sIx xs.length 0 lo = 0 /\ HT.sIx xs.length xs.length hi = xs.length
    . refine Qcp pins s σ H _ v vl vu lo hi sl Q I rx hs pl pu ⟨a, xs, rfl, sq, hw, ?_⟩
      have : yr ds lo hi = ds := by unfold yr; exact gf ds _ _ (by rw [rl.length]; exact hw.1) (by rw [rl.length]; exact hw.2)
      rw [this] at k
      exact k _ ρ B H Gr.refl W (zT nb sq rl)
    . exact Qc2 pins s σ H _ v vl vu lo hi sl Q I rx hs pl pu ⟨a, xs, rfl, sq, hw, jE W (KO rl) k⟩
  | non => cases e
  | bl _ => cases e
  | int _ => cases e
  | str _ => cases e
  | ref _ => cases e
theorem qC {lo hi : Option Expr} {ol oh : DOx} {p2 : Pos} (h : DE X e f) (hl : DO X lo ol) (hh : DO X hi oh) : DE X (.Subscript e (.Slice lo hi none p2) pos) (eSl f ol oh) :=
  L2.PE.imp (QaA Qe6 h hl hh) fun σ H Q ⟨Z, env, ρ, B, hp, d, hp', S, e, k⟩ => by
    obtain ⟨x, hp1, e1, e⟩ := Qf e
    obtain ⟨l, hp2, e2, e⟩ := Qf e
    obtain ⟨u, hp3, e3, e⟩ := Qf e
    refine tD.run S e1 fun v ρ1 B1 H1 g1 S1 r1 => tDO.run S1 e2 fun ρ2 B2 H2 g2 S2 => tDO.run S2 e3 fun ρ3 B3 H3 g3 S3 => ?_
    exact ⟨ρ3, B3, hp3, x, d, hp', S3.wo, RepV.grow S1.wo.rb (g2.trans g3) _ _ r1, e, k.after (g1.trans (g2.trans g3))⟩
theorem Qep {P : Program} {w : World} {K : PySem.W.Frag} {mg : Str -> Option Value} {base : Heap} {x : Str} {stm : Stmt} {g : Addr} {fd : FuncData} {N ps : List Str} {k : Nat} {body : DSx} (F : Fun K x x stm g fd) (Sc : Qx N ps (Qk stm))
    (h : ∀ (cdv : Value) (A : Around) (outer : List Env) (s : Shared) (H : Hp) (E : XK), Room k (A.deeper (envOfC x (Qk stm) s.heap.objs.size g cdv)) -> DSs (Vd CX0 P w K mg base N x (Qk stm) g cdv A outer s H E).nox (Qt stm) body) :
    zF P w K mg base CX0 (k + 1) g fd ps (spD K ps.length (Q1 N.length body)) := by
  refine F.ok Sc (fun vs H Q E h => h.1) (fun cdv A outer s H vs Q E hr sp => ?_)
  obtain ⟨hn, ρ, B, hp, ds, d, hp', W, r, e, k⟩ := sp
  obtain ⟨⟨fl, env'⟩, hp1, e1, e2⟩ := Qf e
  refine ⟨_, h cdv A outer s H E hr, ⟨ρ, B, H⟩, _, ρ, B, hp, fl, env', hp1, xN W r, e1, fun σ' ρ' B' H' g' S' => ?_⟩
  cases fl with
  | nx => obtain ⟨rfl, rfl⟩ := Qj e2; exact k .non ρ' B' H' S'.gr S'.wo zP
  | rt x => obtain ⟨rfl, rfl⟩ := Qj e2; exact fun v rv => k v ρ' B' H' S'.gr S'.wo rv
  | bk => cases e2
  | ct => cases e2
theorem KQ {K : PySem.W.Frag} {ρ : List Addr} {B : Addr -> Prop} {H : Hp} : ∀ ns : List Int, RepL K ρ B H (ns.map DV.int) (ns.map V.int)
  | [] => RepL.nil
  | _ :: r => RepL.cons JY (KQ r)
theorem Qdn {K : PySem.W.Frag} {F : List DV -> M DV} {H : Hp} {a : Addr} {ns : List Int} {E : XK} (h : ∃ hp', F [.lst (ns.map .int)] [] = some (.bl true, hp')) (hS : SqL K H a (ns.map V.int)) : spD K 1 F [.ref a] H (fun v _ => v = .bl true) E := by
  obtain ⟨hp', h⟩ := h
  refine ⟨rfl, [], fun _ => False, [], [.lst (ns.map .int)], .bl true, hp', ⟨rfl, List.nodup_nil, fun i a o h => by simp at h, fun a h => absurd h (by simp), fun a h => absurd h (fun z => z), fun a h => h.elim⟩, RepL.one (yD (fun z => z) hS (KQ ns)), h, fun v _ _ _ _ _ r => r.blI⟩
end
end D
namespace L2
open PySem PySem.Spec PyProof.Rows
section
variable {prog : Program} {w : World} {A : Around} {E : Value -> Shared -> Prop} {s : Shared}
theorem zR {p q : Addr} {n : Nat} {xs : Array Value} {v : Value} {Q : Value -> Shared -> Prop} (a1 : s.heap.IsTupleIter p q n) (a2 : s.heap.IsTuple q xs) (a3 : xs[n]? = some v)
    (k : ∀ g, g.IsTupleIter p q (n + 1) -> Heap.SameBut p s.heap g -> Q v { s with heap := g }) : wpAny (model prog w) A (Builtin.SmallTypes.nextOf (.ref p)) Q E s := by
  obtain ⟨ob, b1, b2, b3⟩ := id a1
  obtain ⟨oq, b4, _, m, b5⟩ := a2
  unfold Builtin.SmallTypes.nextOf
  refine wpAny_bind (wpAny_callSpecial?_slot (name := Str.ofString "__next__") a1.typeIs F.slot_tuple_iterator_next (wpAny_call_entry F.slot_tuple_iterator_next a1.typeIs F.entry_tuple_iterator_next ?_ (F.args_tuple_iterator_next_1 _)))
  show wpAny _ _ (field (.ref p) 0 >>= _) _ _ s
  refine wpAny_bind (wpAny_field b1 b3 (x := .ref q) rfl ?_)
  show wpAny _ _ (if (Value.ref q == Value.none) = true then _ else _) _ _ s
  rw [if_neg (show ¬ ((Value.ref q == Value.none) = true) from Bool.false_ne_true)]
  show wpAny _ _ (field (.ref p) 1 >>= _) _ _ s
  refine wpAny_bind (wpAny_field b1 b3 (x := .int n 0) rfl ?_)
  show wpAny _ _ (seqItems? (.ref q) >>= _) _ _ s
  refine wpAny_bind (wpAny_seqItems b4 b5 ?_)
  simp only [Int.toNat_natCast, a3]
  refine wpAny_bind (wpAny_setField b1 b3 (by simp) (wpAny_pure ⟨v, rfl, wpAny_pure (k _ ?_ (Heap.SameBut.update ..))⟩))
  exact ⟨_, Heap.get?_update_self _ b1 (Obj.isFreed_of_fields (Obj.data_mapFields b3 _)), (Obj.cls_mapFields ..).trans b2, by rw [Obj.data_mapFields b3]; simp [rawInt]⟩
theorem Kf {p q : Addr} {n : Nat} {xs : Array Value} {Q : Value -> Shared -> Prop} (hh : A.handled = none) (a1 : s.heap.IsTupleIter p q n) (a2 : s.heap.IsTuple q xs) (a3 : xs[n]? = none)
    (k : ∀ g x, Heap.ExtBut p s.heap g -> (∃ o, g.get? x = some o /\ o.cls = .type "StopIteration") -> E (.ref x) { s with heap := g }) : wpAny (model prog w) A (Builtin.SmallTypes.nextOf (.ref p)) Q E s := by
  obtain ⟨ob, b1, b2, b3⟩ := id a1
  obtain ⟨oq, b4, _, m, b5⟩ := a2
  unfold Builtin.SmallTypes.nextOf
  refine wpAny_bind (wpAny_callSpecial?_slot (name := Str.ofString "__next__") a1.typeIs F.slot_tuple_iterator_next (wpAny_call_entry F.slot_tuple_iterator_next a1.typeIs F.entry_tuple_iterator_next ?_ (F.args_tuple_iterator_next_1 _)))
  show wpAny _ _ (field (.ref p) 0 >>= _) _ _ s
  refine wpAny_bind (wpAny_field b1 b3 (x := .ref q) rfl ?_)
  show wpAny _ _ (if (Value.ref q == Value.none) = true then _ else _) _ _ s
  rw [if_neg (show ¬ ((Value.ref q == Value.none) = true) from Bool.false_ne_true)]
  show wpAny _ _ (field (.ref p) 1 >>= _) _ _ s
  refine wpAny_bind (wpAny_field b1 b3 (x := .int n 0) rfl ?_)
  show wpAny _ _ (seqItems? (.ref q) >>= _) _ _ s
  refine wpAny_bind (wpAny_seqItems b4 b5 ?_)
  simp only [Int.toNat_natCast, a3]
  refine wpAny_bind (wpAny_rule (wpAny_bind (wpAny_setField b1 b3 (by simp) ?_)))
  show wpAny _ _ (newExc (.type "StopIteration") [] >>= _) _ _ _
  refine wpAny_bind ?_
  simp only [newExc, newTuple]
  refine wpAny_bind (wpAny_newObj_type ?_ (by size_fits))
  refine wpAny_bind (m := firstArgMember _ _) (wpAny_of_eq (a := Value.none) (by first | rfl | (simp only [firstArgMember]; rfl)) ?_)
  refine wpAny_newObj_type ?_ (by size_fits)
  simp only [raiseNew]
  refine wpAny_bind (wpAny_handled ?_)
  first | rw [show A.in1.handled = none from hh] | rw [hh]
  refine wpAny_bind (wpAny_pure (wpAny_throw ?_))
  exact k _ _ (((Heap.SameBut.update ..).extBut.push _).push _) ⟨_, Heap.get?_push_size _ rfl, rfl⟩
structure ZA (z p o i j a b : Addr) : Prop where
  pz : p ≠ z
  oz : o ≠ z
  iz : i ≠ z
  jz : j ≠ z
  po : p ≠ o
  pi : p ≠ i
  pj : p ≠ j
  oi : o ≠ i
  oj : o ≠ j
  ij : i ≠ j
  az : a ≠ z
  ao : a ≠ o
  ai : a ≠ i
  aj : a ≠ j
  bz : b ≠ z
  bo : b ≠ o
  bi : b ≠ i
  bj : b ≠ j
end
end L2
namespace L2
open PySem PySem.Spec PyProof.Rows
section
variable {X : Cx} {pins : List (Addr × Obj)} {σ : L2.St} {H : Hp} {s : Shared} {h' : Heap}
theorem Inv.turnL {t' : Nat} {fp : List Addr} (I : Inv X pins σ H s) (hf : ∀ b ∈ fp, Kh X pins H b) (k : ∀ b o, b ∉ fp -> s.heap.get? b = some o -> h'.get? b = some o) : Inv X pins σ H { s with heap := h', toks := t' } := by
  refine I.step (g' := s.gens) (d' := s.drawn) (ch := fp) (fun b hb => ⟨(hf b hb).2.2.2.1, (hf b hb).2.1, (hf b hb).2.2.2.2.1, (hf b hb).2.2.2.2.2⟩) (fun b o _ _ hc e _ => k b o hc e) (fun b o _ _ hc e _ => ⟨o.slots, k b o hc e⟩) (fun _ _ _ _ n => n)
    (fun b o hc e => ⟨o, k b o hc e⟩) (fun _ _ e => e) (fun _ _ _ e => e) (fun b ps e => ⟨#[], by rw [e]; simp⟩) (fun m hm => ?_) (fun b u e => ?_) I.bare
  . obtain ⟨o, es, ep, ho, r⟩ := hm
    exact ⟨o, es, ep, k _ o (fun z => (hf _ z).2.1 rfl) ho, r⟩
  . have nf : ∀ c u, H c = some u -> c ∉ fp := fun c u q z => by rw [(hf c z).1] at q; cases q
    refine (I.hok b u e).stay (fun c v hc q => k c v ?_ q) (fun _ q => q) fun _ _ q => q
    rcases hc with z | z
    . rw [z]; exact nf b u e
    . exact nf c _ z
theorem Inv.turnNew {t' : Nat} {fp : List Addr} {vs : List V} {us : List Value} (I : Inv X pins σ H s) (hf : ∀ b ∈ fp, Kh X pins H b) (k : ∀ b o, b ∉ fp -> s.heap.get? b = some o -> h'.get? b = some o)
    (hv : Vals vs us) (hz : vs.length <= sizeLine) (hT : IsTup h' s.heap.objs.size us.toArray) : Inv X pins σ (upd H s.heap.objs.size (.tup vs)) { s with heap := h', toks := t' } := by
  have hn : H s.heap.objs.size = none := I.hok.fresh (Nat.le_refl _)
  refine I.step (g' := s.gens) (d' := s.drawn) (ch := fp) (fun b hb => ⟨(hf b hb).2.2.2.1, (hf b hb).2.1, (hf b hb).2.2.2.2.1, (hf b hb).2.2.2.2.2⟩) (fun b o _ _ hc e _ => k b o hc e) (fun b o _ _ hc e _ => ⟨o.slots, k b o hc e⟩)
    (fun b o _ e n => by rw [QS (Nat.ne_of_lt (Heap.lt_size e))]; exact n) (fun b o hc e => ⟨o, k b o hc e⟩) (fun b xs e => by rw [QS (ZJ e hn)]; exact e) (fun b o u e => by rw [QS (ZJ e hn)]; exact e) (fun b ps e => ⟨#[], by rw [QS (ZJ e hn), e]; simp⟩) (fun m hm => ?_) (fun b u e => ?_) I.bare
  . obtain ⟨o, es, ep, ho, r⟩ := hm
    exact ⟨o, es, ep, k _ o (fun z => (hf _ z).2.1 rfl) ho, r⟩
  . by_cases hb : b = s.heap.objs.size
    . subst hb
      rw [Q8] at e; cases e
      exact ⟨hz, us, hv, hT⟩
    . rw [QS hb] at e
      have nf : ∀ c u, H c = some u -> c ∉ fp := fun c u q z => by rw [(hf c z).1] at q; cases q
      refine (I.hok b u e).stay (fun c v hc q => k c v ?_ q) (fun c q => by rw [QS (ZJ q hn)]; exact q) fun c xs q => by rw [QS (ZJ q hn)]; exact q
      rcases hc with z | z
      . rw [z]; exact nf b u e
      . exact nf c _ z
end
def Itz (K : PySem.W.Frag) (a b : Addr) : It :=
  ⟨fun i H => ∃ xs ys x y, SqT K H a xs /\ SqT K H b ys /\ xs[i]? = some x /\ ys[i]? = some y,
   fun i H v H' => ∃ p x y, H p = none /\ (∀ xs, SqT K H a xs -> xs[i]? = some x) /\ (∀ ys, SqT K H b ys -> ys[i]? = some y) /\ v = .ref p /\ H' = upd H p (.tup [x, y]),
   fun i H => ∃ xs ys, SqT K H a xs /\ SqT K H b ys /\ (xs.length <= i ∨ ys.length <= i)⟩
abbrev zt1 (h : Heap) (a : Addr) : Heap := h.push { cls := .type "tuple_iterator", data := .fields #[.ref a, .int 0 0] }
abbrev zt2 (h : Heap) (a b : Addr) : Heap := (zt1 h a).push { cls := .type "tuple_iterator", data := .fields #[.ref b, .int 0 0] }
abbrev zt3 (h : Heap) (a b : Addr) : Heap := (zt2 h a b).push { cls := .type "tuple", data := .seq #[.ref h.objs.size, .ref (zt1 h a).objs.size] }
abbrev zt4 (h : Heap) (a b : Addr) : Heap := (zt3 h a b).push { cls := .type "tuple", data := .seq #[.none, .none] }
abbrev zt5 (h : Heap) (a b : Addr) : Heap := (zt4 h a b).push { cls := .type "zip", data := .fields #[.none, .bool false, .bool false, .ref (zt2 h a b).objs.size, .ref (zt3 h a b).objs.size] }
theorem Qcb (a b : Addr) (xs ys : Array Value) : Meets (Builtin.«zip.__new__» ⟨[.type "zip", .ref a, .ref b], []⟩) (fun _ R s => s.heap.IsTuple a xs /\ s.heap.IsTuple b ys /\ R (.ok (.ret (.ref (zt4 s.heap a b).objs.size))) { s with heap := zt5 s.heap a b }) :=
  .of_wp fun prog w A R s h => by
    obtain ⟨hp, g, d, tk, os⟩ := s; obtain ⟨q1, q2, h⟩ := h
    have hsub := sub_zip
    have t1 : Heap.IsTuple (Shared.heap ⟨hp, g, d, tk, os⟩) a xs := q1
    have t2 : Heap.IsTuple (Shared.heap ⟨hp.push { cls := .type "tuple_iterator", data := .fields #[.ref a, .int 0 0] }, g, d, tk, os⟩) b ys := let ⟨ob, e, r⟩ := q2; ⟨ob, Heap.get?_push_of_some _ e, r⟩
    wp_walk using wpAny_pyIter_tuple t1, wpAny_pyIter_tuple t2
    exact ⟨_, rfl, h⟩
section
variable {X : Cx} {elts : List Expr} {kt : Nat} {p2 : Pos}
def QeS (K : PySem.W.Frag) (ta : TA) : TI := fun σ H R => ta σ H fun vs H1 => ∃ a b xs ys, vs = [.ref a, .ref b] /\ SqT K H1 a xs /\ SqT K H1 b ys /\ R (Itz K a b) H1
end
end L2
namespace D
open PySem PySem.Spec PyProof.Rows L2
def jM : List DV -> List DV -> List DV
  | x :: xs, y :: ys => .tup [x, y] :: jM xs ys
  | _, _ => []
theorem Gv : ∀ {xs ys : List DV} {i : Nat} {d : DV}, (jM xs ys)[i]? = some d -> ∃ x y, xs[i]? = some x /\ ys[i]? = some y /\ d = .tup [x, y]
  | x :: xs, y :: ys, 0, d, h => by simp [jM] at h; exact ⟨x, y, rfl, rfl, h.symm⟩
  | x :: xs, y :: ys, i + 1, d, h => by
    obtain ⟨a, b, h1, h2, h3⟩ := Gv (xs := xs) (ys := ys) (i := i) (by simpa [jM] using h)
    exact ⟨a, b, by simpa using h1, by simpa using h2, h3⟩
  | [], _, _, _, h => by simp [jM] at h
  | _ :: _, [], _, _, h => by simp [jM] at h
theorem KF : ∀ (xs ys : List DV), (jM xs ys).length = min xs.length ys.length
  | x :: xs, y :: ys => by simp only [jM, List.length_cons, KF xs ys]; omega
  | [], _ => by simp [jM]
  | _ :: _, [] => by simp [jM]
def QaW (f g : DEx) : DIx := fun env => do
  let x <- f env
  let xs <- GV x
  let y <- g env
  let ys <- GV y
  pure (jM xs ys)
theorem Qc9 {K : PySem.W.Frag} {ρ : List Addr} {B : Addr -> Prop} {H : Hp} {ds es : List DV} {a b : Addr} {xs ys : List V} (na : ¬ B a) (qa : SqT K H a xs) (ra : RepL K ρ B H ds xs) (nb : ¬ B b) (qb : SqT K H b ys) (rb : RepL K ρ B H es ys) : gM K ρ B H (jM ds es) (Itz K a b) := fun ρ1 B1 H1 g r1 t1 => by
  have qa1 := g.sqT na qa
  have qb1 := g.sqT nb qb
  have ra1 := RepL.gs g _ _ ra
  have rb1 := RepL.gs g _ _ rb
  refine ⟨fun i d e => ?_, xs, ys, qa1, qb1, ?_⟩
  . obtain ⟨x, y, h1, h2, rfl⟩ := Gv e
    obtain ⟨u, hu, ru⟩ := ra1.get h1
    obtain ⟨v, hv, rv⟩ := rb1.get h2
    refine ⟨⟨xs, ys, u, v, qa1, qb1, hu, hv⟩, fun z H' ⟨p, u', v', hn, h3, h4, e1, e2⟩ => ?_⟩
    subst e1 e2
    have e3 := h3 xs qa1
    have e4 := h4 ys qb1
    rw [hu] at e3; cases e3
    rw [hv] at e4; cases e4
    refine ⟨zT (fun z => t1 p z hn) (SqT.of Q8) (RepL.gs (G1 r1 hn) _ _ (RepL.cons ru (RepL.one rv))), .inr ⟨p, _, hn, rfl⟩⟩
  . rw [KF, ra1.length, rb1.length]
    rcases Nat.le_total xs.length ys.length with q | q
    . exact .inl (by rw [Nat.min_eq_left q]; exact Nat.le_refl _)
    . exact .inr (by rw [Nat.min_eq_right q]; exact Nat.le_refl _)
section
variable {X : Cx} {elts : List Expr} {kt : Nat} {p2 : Pos} {f g : DEx}
def Yw (f : DEx) (g : DGx) : DSx := fun env => do let d <- f env; let env' <- g d env; pure (.nx, env')
theorem Vv {tg e : Expr} {g : DGx} {pos : Pos} (he : DE X e f) (hg : PG X tg (tDG X.K g)) (hs : swapsWithSole [tg] e pos.line X.env = pure false := by rfl) (hw : swappedStores [tg] e X.env = pure none := by rfl)
    (h1 : (assignEach [tg] X.env).map (·.2) = [assign tg X.env] := by rfl) : DS X (.Assign [tg] e pos) (Yw f g) :=
  L2.PS.imp (Qdt he hg hs hw h1) fun D σ H ⟨Z, env, ρ, B, hp, fl, env', hp', S, e, k⟩ => by
    obtain ⟨d, hp1, e1, e⟩ := Qf e
    obtain ⟨env1, hp2, e2, e⟩ := Qf e
    obtain ⟨z, rfl⟩ := Qj e; cases z
    exact tD.run S e1 fun v ρ1 B1 H1 g1 S1 r1 => ⟨Z, env, ρ1, B1, hp1, d, env', hp2, S1, r1, e2, fun σ' ρ' B' H' g' S' => k σ' ρ' B' H' ((g1.gs S.wo.rb).trans g') S'⟩
end
end D
namespace D
open PySem PySem.Spec PyProof.Rows L2
theorem Vt {lo : Int} {n i : Nat} {d : DV} (h : (Zd lo n)[i]? = some d) : i < n /\ d = .int (lo + i) := by
  have hi : i < n := by have := (List.getElem?_eq_some_iff.mp h).1; simpa [Zd] using this
  refine ⟨hi, ?_⟩
  simp [Zd, hi] at h
  exact h.symm
theorem Je (lo : Int) (n : Nat) : (Zd lo n).length = n := by simp [Zd]
theorem xx {t : DV -> M Bool} {f : DV -> M DV} {p : Int -> Bool} {g : Int -> Int} (ht : ∀ x, t (.int x) = pure (p x)) (hf : ∀ x, f (.int x) = pure (.int (g x))) : ∀ ns : List Int, Uz t f (ns.map .int) = pure (((ns.filter p).map g).map .int)
  | [] => rfl
  | n :: ns => by
    rw [List.map_cons, Uz, ht, pure_bind]
    cases q : p n with
    | false =>
      rw [List.filter_cons_of_neg (by rw [q]; decide)]
      exact xx ht hf ns
    | true =>
      rw [List.filter_cons_of_pos q]
      simp only [if_true, hf, pure_bind, xx ht hf ns, List.map_cons]
theorem xY : ∀ ns : List Int, jy (ns.map .int) = true
  | [] => rfl
  | _ :: r => by simp [jy, yd, xY r]
theorem xQ : ∀ ns : List Int, yq (ns.map .int) = ns.map .int
  | [] => rfl
  | _ :: r => by simp [yq, toP, xQ r]
theorem yH (i : Int) : okP (.int i) = true := by rfl
theorem kH (b : Bool) : okP (.bl b) = true := by cases b <;> rfl
theorem Gx (ns : List Int) : okP (.lst (ns.map .int)) = true := by
  simp only [okP, yd, xY, Bool.true_and, toP, xQ]
  exact PySem.W.ke_shaped_ints ns
theorem uD (i j : Int) : PyData.eqv (.int i) (.int j) = (i == j) := rfl
theorem x4 : ∀ ns ms : List Int, PyData.eqvAll (ns.map .int) (ms.map .int) = decide (ns = ms)
  | [], [] => by simp [PyData.eqvAll]
  | [], _ :: _ => by simp [PyData.eqvAll]
  | _ :: _, [] => by simp [PyData.eqvAll]
  | a :: r, b :: t => by
    simp only [List.map_cons, PyData.eqvAll, PyData.eqv, x4 r t]
    by_cases h : a = b <;> by_cases h' : r = t <;> simp [h, h']
theorem Zw (i j : Int) : eqD (.int i) (.int j) = pure (.bl (i == j)) := by
  simp only [eqD, yH, Bool.and_self, Qu, if_true, pure_bind, toP, uD]
theorem ZO (i j : Int) : neD (.int i) (.int j) = pure (.bl (!(i == j))) := by
  simp only [neD, yH, Bool.and_self, Qu, if_true, pure_bind, toP, uD]
theorem QcR {α : Type} {xs : List α} {i : Int} (h0 : 0 <= i) (h1 : i < xs.length) : atI xs i = xs[i.toNat]? := by
  unfold atI ixN
  rw [if_pos h0, if_pos h1]; rfl
theorem UL (ns : List Int) {i : Int} (h0 : 0 <= i) (h1 : i < ns.length) : atI (ns.map DV.int) i = some (.int (ns.getD i.toNat 0)) := by
  have hl : i.toNat < ns.length := by omega
  rw [QcR h0 (by simpa using h1), List.getElem?_map, List.getElem?_eq_getElem hl]
  simp [List.getD_eq_getElem?_getD, hl]
def opt : Option Int -> DV
  | none => .non
  | some i => .int i
end D
namespace D
open PySem PySem.Spec PyProof.Rows L2
theorem Yp (x y : Int) (h : 0 < y) : yS (.int x) (.int y) = pure (.int (x % y)) := by simp [yS, zm, Qee, h]
theorem KM (x y : Int) (h : 0 < y) (h' : y < 1073741824) : kP (.int x) (.int y) = pure (.int (x / y)) := by simp [kP, zm, Qek, h, h']
theorem yP (x y : Int) (h : -(2 ^ 64) < x) (h' : x < 2 ^ 64) : z0 (.int x) (.int y) = pure (.int (x * y)) := by
  simp only [z0, zm, Qdg, decide_eq_true (Or.inl (b := (-(2 ^ 64) < y /\ y < 2 ^ 64)) (And.intro h h')), if_true]
theorem vb (x y : Int) (h : -(2 ^ 64) < y) (h' : y < 2 ^ 64) : z0 (.int x) (.int y) = pure (.int (x * y)) := by
  simp only [z0, zm, Qdg, decide_eq_true (Or.inr (a := (-(2 ^ 64) < x /\ x < 2 ^ 64)) (And.intro h h')), if_true]
theorem Zb (x y : Int) : ZG (.int x) (.int y) = pure (.int (x + y)) := rfl
theorem Zo (x y : Int) : zk (.int x) (.int y) = pure (.int (x - y)) := rfl
theorem Q4 (x y : Int) : gtD (.int x) (.int y) = pure (.bl (decide (y < x))) := rfl
theorem Zi (x y : Int) : ltD (.int x) (.int y) = pure (.bl (decide (x < y))) := rfl
theorem Zr (x y : Int) : leD (.int x) (.int y) = pure (.bl (decide (x <= y))) := rfl
theorem Zq (x y : Int) : geD (.int x) (.int y) = pure (.bl (decide (y <= x))) := rfl
theorem Zm (x : Int) : QeI (.int x) = pure (.int (-x)) := rfl
theorem Xi : jA (.int 10) (.int 30) = pure (.int 1000000000000000000000000000000) := rfl
theorem Xo : jA (.int 10) (.int 21) = pure (.int 1000000000000000000000) := rfl
theorem qr : jA (.int 10) (.int 9) = pure (.int 1000000000) := rfl
theorem Qaf {m : Int} (h0 : 0 <= m) (h1 : m <= 1000000) : qN m = true := decide_eq_true ⟨by omega, by omega⟩
theorem KS (ds : List DV) : YG [.lst ds] = pure (.int ds.length) := rfl
end D
namespace D
open PySem PySem.Spec PyProof.Rows L2
theorem qB {ds : List DV} (h : ds.length <= 100000) : Xu ds = true := decide_eq_true h
theorem VI {src : DIx} {idx : List Nat} {t : DTx} {f : DEx} {env : En} {ns : List Int} {p : Int -> Bool} {g : Int -> Int} (hs : src env = pure (ns.map .int)) (hl : ns.length <= 100000) (ht : ∀ x, t (cE idx env (.int x)) = pure (p x)) (hf : ∀ x, f (cE idx env (.int x)) = pure (.int (g x))) :
    x8 src idx t f env = pure (.lst (((ns.filter p).map g).map .int)) := by
  simp only [x8, hs, pure_bind, qB (show (ns.map DV.int).length <= 100000 by rw [List.length_map]; exact hl), Qu, if_true, xx (t := fun d => t (cE idx env d)) (f := fun d => f (cE idx env d)) ht hf ns]
theorem Z0 {f g : DSx} {env env1 : En} (h : f env = pure (.nx, env1)) : Qr f g env = g env1 := by simp only [Qr, h, pure_bind]
theorem Qb4 {f g : DSx} {env env1 : En} {d : DV} (h : f env = pure (.rt d, env1)) : Qr f g env = pure (.rt d, env1) := by simp only [Qr, h, pure_bind]
theorem Jg {i : Nat} {f : DEx} {env : En} {d : DV} (h : f env = pure d) : QC i f env = pure (.nx, env.set i (.val d)) := by simp only [QC, h, pure_bind]
theorem Qen {c : DTx} {f g : DSx} {env : En} (h : c env = pure true) : sIf c f g env = f env := by simp only [sIf, h, pure_bind, if_true]
theorem QeU {c : DTx} {f g : DSx} {env : En} (h : c env = pure false) : sIf c f g env = g env := by simp only [sIf, h, pure_bind, Bool.false_eq_true, if_false]
theorem XM {f : DEx} {env : En} {d : DV} (h : f env = pure d) : QF f env = pure (.rt d, env) := by simp only [QF, h, pure_bind]
theorem Yg {n : Nat} {body : DSx} {ds : List DV} {d : DV} {env : En} (h : body (ds.map .val ++ List.replicate (n - ds.length) .un) = pure (.rt d, env)) : Q1 n body ds = pure d := by simp only [Q1, h, pure_bind]
theorem Qev {f : DEx} {env : En} {b : Bool} (h : f env = pure (.bl b)) : eB f env = pure b := by simp only [eB, h, pure_bind, asB]
theorem zS {g : DV -> DV -> M DV} {f f' : DEx} {env : En} {x y d : DV} (h : f env = pure x) (h' : f' env = pure y) (hg : g x y = pure d) : Qh g f f' env = pure d := by simp only [Qh, h, h', pure_bind, hg]
theorem xB {F : List DV -> M DV} {f f' : DEx} {env : En} {x y d : DV} (h : f env = pure x) (h' : f' env = pure y) (hF : F [x, y] = pure d) : Qs 2 F (Qc f (Qc f' Qm)) env = pure d := by simp [Qs, Qc, Qm, h, h', Qu, hF]
theorem Qbe {F : List DV -> M DV} {f f' f'' : DEx} {env : En} {x y z d : DV} (h : f env = pure x) (h' : f' env = pure y) (h'' : f'' env = pure z) (hF : F [x, y, z] = pure d) : Qs 3 F (Qc f (Qc f' (Qc f'' Qm))) env = pure d := by simp [Qs, Qc, Qm, h, h', h'', Qu, hF]
end D
namespace D
open PySem PySem.Spec PyProof.Rows L2
section
variable {K : PySem.W.Frag} {ρ : List Addr} {B : Addr -> Prop} {hp : Hs} {H : Hp}
theorem Gr.wnew {p : Addr} {o : HO} (h : H p = none) (kf : K.lookup p = none) : Gr K ρ B H (ρ ++ [p]) (xJ B p) (upd H p o) where
  pre := List.prefix_append _ _
  ban := fun _ h => .inl h
  new := fun a z => z.elim .inl fun e => .inr (e ▸ ⟨h, kf⟩)
  rnew := fun a z => (List.mem_append.mp z).elim .inl fun q => .inr (by rw [List.mem_singleton.mp q]; exact h)
  keep := fun a u _ q => by rw [QS (ZJ q h)]; exact q
  trk := (Gr.laid (K := K) (ρ := ρ) (B := B) h).trk
theorem WOk.wnew {p : Addr} {o : HO} {v : OV} (W : WOk K ρ B hp H) (h : H p = none) (kf : K.lookup p = none) (hv : ORep K (ρ ++ [p]) (xJ B p) (upd H p o) p v) : WOk K (ρ ++ [p]) (xJ B p) (hp ++ [v]) (upd H p o) where
  len := by simp [W.len]
  nd := List.nodup_append.mpr ⟨W.nd, by simp, fun a ha b hb => by rw [List.mem_singleton.mp hb]; exact fun z => W.bt a (W.rb a ha) (z ▸ h)⟩
  obj := fun i a u e q => by
    by_cases hi : i < ρ.length
    . rw [List.getElem?_append_left hi] at e
      rw [List.getElem?_append_left (by rw [<- W.len]; exact hi)] at q
      exact ORep.gs ((Gr.wnew h kf).gs W.rb) (QS (fun z => W.bt a (W.rb a (List.mem_of_getElem? e)) (z ▸ h))) (W.obj i a u e q)
    . rw [List.getElem?_append_right (by omega)] at e
      rw [List.getElem?_append_right (by rw [<- W.len]; omega)] at q
      have hi0 : i - ρ.length = 0 := by
        have := (List.getElem?_eq_some_iff.mp e).1
        simp at this; omega
      rw [hi0] at e
      rw [<- W.len, hi0] at q
      simp at e q
      subst e q
      exact hv
  rb := fun a z => (List.mem_append.mp z).elim (fun q => .inl (W.rb a q)) fun q => .inr (List.mem_singleton.mp q)
  bt := fun a z q => by
    have q' := (Gr.laid (K := K) (ρ := ρ) (B := B) h).trk a q
    rcases z with z | rfl
    . exact W.bt a z q'
    . rw [Q8] at q; cases q
  bk := fun a z => z.elim (W.bk a) fun e => e ▸ kf
theorem Gr.wset {i : Nat} {a : Addr} {o o' : HO} (ha : ρ[i]? = some a) (h : H a = some o) : Gr K ρ B H ρ B (upd H a o') where
  pre := List.prefix_rfl
  ban := fun _ h => h
  new := fun _ h => .inl h
  rnew := fun _ h => .inl h
  keep := fun b u nb q => by rw [QS (show b ≠ a from fun z => nb (by rw [z]; exact List.mem_of_getElem? ha))]; exact q
  trk := fun b q => by
    by_cases e : b = a
    . subst e; rw [Q8] at q; cases q
    . rw [QS e] at q; exact q
theorem WOk.wset {i : Nat} {a : Addr} {o o' : HO} {v : OV} (W : WOk K ρ B hp H) (ha : ρ[i]? = some a) (h : H a = some o) (hv : ORep K ρ B (upd H a o') a v) : WOk K ρ B (hp.set i v) (upd H a o') where
  len := by simp [W.len]
  nd := W.nd
  obj := fun j b u e q => by
    by_cases hj : j = i
    . subst hj
      rw [ha] at e; cases e
      have hl : j < hp.length := by rw [<- W.len]; exact (List.getElem?_eq_some_iff.mp ha).1
      rw [List.getElem?_set_self hl] at q; cases q
      exact hv
    . rw [List.getElem?_set_ne (Ne.symm hj)] at q
      have hb : b ≠ a := fun z => hj (by
        subst z
        exact (List.getElem?_inj (List.getElem?_eq_some_iff.mp e).1 W.nd).mp (e.trans ha.symm))
      exact ORep.gs ((Gr.wset ha h).gs W.rb) (QS hb) (W.obj j b u e q)
  rb := W.rb
  bt := fun b z q => W.bt b z ((Gr.wset (K := K) (B := B) ha h).trk b q)
  bk := W.bk
end
section
variable {X : Cx} {e a b c : Expr} {f fa fb fc : DEx} {pos : Pos}
def qP (o : OV) : M DV := fun h => some (.ref h.length, h ++ [o])
def Jt (i : Nat) : M OV := fun h => match h[i]? with
  | some o => some (o, h)
  | none => none
def jX (i : Nat) (o : OV) : M Unit := fun h => some ((), h.set i o)
theorem Jl {i : Nat} {o : OV} {hp hp' : Hs} (h : Jt i hp = some (o, hp')) : hp[i]? = some o /\ hp = hp' := by
  unfold Jt at h
  cases q : hp[i]? with
  | none => rw [q] at h; cases h
  | some z => rw [q] at h; cases h; exact ⟨rfl, rfl⟩
def XS (f : DAx) : DEx := fun env => do let ds <- f env; Qu (Xu ds); qP (.lst ds)
theorem Qbm {K : PySem.W.Frag} {ρ : List Addr} {B : Addr -> Prop} {H : Hp} {hp : Hs} {ds : List DV} {xs : List V} {Q : VK} (W : WOk K ρ B hp H) (r : RepL K ρ B H ds xs) (k : Fol K ρ B H (.ref hp.length) (hp ++ [.lst ds]) Q) : ∀ p, H p = none -> ku K (upd H p (.lst xs)) -> Q (.ref p) (upd H p (.lst xs)) := fun p hp' kf => by
  have kp := kf p _ Q8
  have g : Gr K ρ B H (ρ ++ [p]) (xJ B p) (upd H p (.lst xs)) := Gr.wnew hp' kp
  refine k _ _ _ _ g (W.wnew hp' kp ⟨xs, Q8, RepL.grow W.rb g _ _ r⟩) ?_
  unfold RepV
  exact ⟨p, rfl, by rw [<- W.len]; simp⟩
theorem yK {es : List Expr} {f : DAx} (h : DA X es f) : DE X (.List es pos) (XS f) :=
  L2.PE.imp (kW h).kf fun σ H Q ⟨Z, env, ρ, B, hp, d, hp', S, e, k⟩ => by
    obtain ⟨xs, hp1, e1, e2⟩ := Qf e
    obtain ⟨_, hp2, e3, e4⟩ := Qf e2
    obtain ⟨hs, rfl⟩ := QH e3
    cases e4
    exact tDA.run S e1 fun vs ρ1 B1 H1 g1 S1 r1 => ⟨by rw [<- r1.length]; exact zr hs, Qbm S1.wo r1 (k.after g1)⟩
theorem RepV.refW {K : PySem.W.Frag} {ρ : List Addr} {B : Addr -> Prop} {H : Hp} {hp : Hs} {i : Nat} {o : OV} {v : V} (W : WOk K ρ B hp H) (r : RepV K ρ B H (.ref i) v) (h : hp[i]? = some o) : ∃ a, v = .ref a /\ ρ[i]? = some a /\ ORep K ρ B H a o := by
  obtain ⟨a, rfl, e⟩ := r.refI
  exact ⟨a, rfl, e, W.obj i a o e h⟩
def ixW : DV -> DV -> M DV
  | .ref n, .int i => do
    match <- Jt n with
    | .lst ds => match atI ds i with
      | some d => pure d
      | none => failure
    | _ => failure
  | x, y => ixD x y
def gq : List DV -> M DV
  | [.ref n] => do
    match <- Jt n with
    | .lst ds => pure (.tup ds)
    | _ => failure
  | xs => Qdc xs
theorem GN : Yk X (.type "tuple") (tPn X.K gq) := by
  intro pins s σ H xs us Q I r h
  obtain ⟨ρ, B, hp, ds, d, hp', W, rl, e, k⟩ := h
  unfold gq at e
  split at e
  . rename_i n
    obtain ⟨o, hp1, e1, e2⟩ := Qf e
    obtain ⟨e3, rfl⟩ := Jl e1
    cases o with
    | dic _ => cases e2
    | ins _ _ => cases e2
    | lst zs =>
      obtain ⟨rfl, rfl⟩ := Qj e2
      obtain ⟨v, rfl, rv⟩ := rl.oneI
      obtain ⟨a, rfl, _, ys, h1, l1⟩ := RepV.refW W rv e3
      exact qf pins s σ H _ us Q I r ⟨a, ys, rfl, .inl ⟨SqL.of h1, jE W l1 k⟩⟩
  . exact QbK pins s σ H xs us Q I r ⟨ρ, B, hp, _, d, hp', W, rl, e, k⟩
end
end D
namespace D
open PySem PySem.Spec PyProof.Rows L2
end D
namespace D
open PySem PySem.Spec PyProof.Rows L2
section
variable {f g : DSx} {env env1 env2 : En} {c ca cb : DTx} {e fa fb : DEx} {d x y : DV} {r : Fl × En}
end
theorem Qi {α β : Type} {m : M α} {k : α -> M β} {x : α} {hp hp1 : Hs} (h : m hp = some (x, hp1)) : (m >>= k) hp = k x hp1 := by
  show (m hp).bind (fun p => k p.1 p.2) = _
  rw [h]; rfl
theorem Qo {f g : DSx} {env env1 : En} {hp hp1 : Hs} (h : f env hp = some ((.nx, env1), hp1)) : Qr f g env hp = g env1 hp1 := Qi h
theorem QP {i : Nat} {f : DEx} {env : En} {d : DV} {hp hp1 : Hs} (h : f env hp = some (d, hp1)) : QC i f env hp = some ((.nx, env.set i (.val d)), hp1) := Qi h
theorem Qbq {ds : List DV} {i : Int} {d : DV} (h : atI ds i = some d) : ixD (.tup ds) (.int i) = pure d := by simp only [ixD, h]
theorem KW (ds : List DV) (m : Nat) : D.yr ds none (some (m : Int)) = ds.take m := by
  unfold D.yr
  rw [HT.sIx_nat]
  show (ds.drop 0).take (min m ds.length - 0) = ds.take m
  simp
theorem Qbd (ds : List DV) (m : Nat) : D.yr ds (some (m : Int)) none = ds.drop m := by
  unfold D.yr
  rw [HT.sIx_nat]
  show (ds.drop (min m ds.length)).take (ds.length - min m ds.length) = ds.drop m
  rcases Nat.le_total m ds.length with h | h
  . rw [Nat.min_eq_left h, List.take_of_length_le (by simp)]
  . rw [Nat.min_eq_right h, List.drop_of_length_le h, List.drop_of_length_le (Nat.le_refl _)]
    simp
theorem VG (ds : List DV) (m : Nat) : slD (.tup ds) none (some (m : Int)) = pure (.tup (ds.take m)) := by rw [<- KW]; rfl
theorem Vx (ds : List DV) (m : Nat) : slD (.tup ds) (some (m : Int)) none = pure (.tup (ds.drop m)) := by rw [<- Qbd]; rfl
theorem K7 {f g : DEx} {env : En} {ds : List DV} {m : Nat} (h : f env = pure (.tup ds)) (h' : g env = pure (.int (m : Int))) : eSl f Z7 (Z5 g) env = pure (.tup (ds.take m)) := by
  simp only [eSl, Z7, Z5, h, h', pure_bind, asI, VG]
theorem KU {f g : DEx} {env : En} {ds : List DV} {m : Nat} (h : f env = pure (.tup ds)) (h' : g env = pure (.int (m : Int))) : eSl f (Z5 g) Z7 env = pure (.tup (ds.drop m)) := by
  simp only [eSl, Z7, Z5, h, h', pure_bind, asI, Vx]
end D
namespace L2
open PySem PySem.Spec PyProof.Rows
section
variable {X : Cx}
def Qe1 : R2 := fun x y H Q => ∃ a kvs k v, x = .ref a /\ y = kV k /\ H a = some (.dK kvs) /\ qm kvs k = some v /\ Q v H
theorem QbF (hu : X.A.units + 1 < cLine) : IxR X Qe1 := by
  intro value slice pins s σ H x y v u Q I rx ry h hs
  obtain ⟨a, kvs, k, z, rfl, rfl, hH, hv, q⟩ := h
  cases rx
  have g : DGet H a (kV k) (some z) := hv ▸ DGet.k hH
  exact tail_any (Gk I g) PySem.F.slot_dict_getitem.lookup (uS hu I g ry fun w' s' I' rw' => ⟨z, H, I', rw', q⟩) hs
theorem vg (hu : X.A.units + 1 < cLine) : OpR X (compareOp .In) (fun x y H Q => ∃ a kvs k, y = .ref a /\ x = kV k /\ H a = some (.dK kvs) /\ Q (.bl (qm kvs k).isSome) H) := by
  intro pins s σ H x y v u Q I rx ry h
  obtain ⟨a, kvs, k, rfl, rfl, hH, q⟩ := h
  cases ry
  exact Qfn hu I (DGet.k hH) rx fun s' I' => ⟨.bl _, H, I', rfl, q⟩
theorem VS (hu : X.A.units + 1 < cLine) : OpR X (compareOp .NotIn) (fun x y H Q => ∃ a kvs k, y = .ref a /\ x = kV k /\ H a = some (.dK kvs) /\ Q (.bl (!(qm kvs k).isSome)) H) := by
  intro pins s σ H x y v u Q I rx ry h
  obtain ⟨a, kvs, k, rfl, rfl, hH, q⟩ := h
  cases ry
  exact Qbv hu I (DGet.k hH) rx fun s' I' => ⟨.bl _, H, I', rfl, q⟩
def QeD : V -> V -> V -> Hp -> (Hp -> Prop) -> Prop := fun o i v H Q => ∃ a kvs k, o = .ref a /\ i = kV k /\ H a = some (.dK kvs) /\ kvs.length < sizeLine /\ Q (upd H a (.dK (jY kvs k v)))
theorem kO (hu : X.A.units + 1 < cLine) : QbO X QeD := fun pins s σ H o i v ov iv u Q I ro ri rv h => by
  obtain ⟨a, kvs, k, rfl, rfl, hH, hl, q⟩ := h
  cases ro
  exact u9 hu I (DPut.k hH hl) ri rv fun s' I' => ⟨_, I', q⟩
def Qer : V -> List V -> Hp -> VK -> Prop := fun x vs H Q => ∃ a kvs k, x = .ref a /\ H a = some (.dK kvs) /\ ((vs = [kV k] /\ Q ((qm kvs k).getD .non) H) ∨ ∃ z, vs = [kV k, z] /\ Q ((qm kvs k).getD z) H)
theorem uw (hu : X.A.units + 1 < cLine) : MtR X "dict.get" Qer := by
  intro pins s σ H x vs v us Q I rx rv h
  obtain ⟨a, kvs, k, rfl, hH, h⟩ := h
  cases rx
  rcases h with ⟨rfl, q⟩ | ⟨z, rfl, q⟩
  . obtain ⟨u, rfl, ru⟩ := yX rv
    exact Qdp hu I (DGet.k hH) ru fun w' s' I' rw' => ⟨_, H, I', rw', q⟩
  . obtain ⟨u, u2, rfl, ru, ru2⟩ := Qcy rv
    exact Qdj hu I (DGet.k hH) ru ru2 fun w' s' I' rw' => ⟨_, H, I', rw', q⟩
def Qes (n : Nat) (i : Int) : Nat := if i < 0 then (i + (n : Int)).toNat else min i.toNat n
end
end L2
namespace D
open PySem PySem.Spec PyProof.Rows L2
def qO : DV -> Option Key
  | .int i => some (.inl i)
  | .str x => some (.inr x)
  | _ => none
def YU (kvs : List (Key × DV)) (k : Key) : Option DV := (kvs.find? fun kv => decide (kv.1 = k)).map (·.2)
def jK (kvs : List (Key × DV)) (k : Key) (d : DV) : List (Key × DV) :=
  if (kvs.any fun kv => decide (kv.1 = k)) = true then kvs.map (fun kv => if kv.1 = k then (kv.1, d) else kv) else kvs ++ [(k, d)]
def QcD (kvs : List (Key × DV)) (k : Key) : List (Key × DV) := kvs.filter fun kv => decide (kv.1 ≠ k)
section
variable {K : PySem.W.Frag} {ρ : List Addr} {B : Addr -> Prop} {H : Hp} {hp : Hs}
theorem zI {d : DV} {k : Key} {v : V} (h : qO d = some k) (r : RepV K ρ B H d v) : v = kV k := by
  cases d <;> simp [qO] at h <;> subst h
  . exact r.intI
  . exact r.strI
abbrev RepK (K : PySem.W.Frag) (ρ : List Addr) (B : Addr -> Prop) (H : Hp) : List (Key × DV) -> List (Key × V) -> Prop := Paired fun p q => p.1 = q.1 /\ RepV K ρ B H p.2 q.2
theorem vV : ∀ {kvs : List (Key × DV)} {xs : List (Key × V)}, xs.map (·.1) = kvs.map (·.1) -> RepL K ρ B H (kvs.map (·.2)) (xs.map (·.2)) -> RepK K ρ B H kvs xs
  | [], [], _, _ => .nil
  | [], _ :: _, e, _ => by simp at e
  | _ :: _, [], e, _ => by simp at e
  | p :: kvs, q :: xs, e, r => by
    simp only [List.map_cons, List.cons.injEq] at e
    simp only [List.map_cons] at r
    unfold RepL at r
    obtain ⟨x, t, e2, h1, h2⟩ := r
    simp only [List.cons.injEq] at e2
    obtain ⟨rfl, rfl⟩ := e2
    exact .cons ⟨e.1.symm, h1⟩ (vV e.2 h2)
theorem RepK.to {kvs : List (Key × DV)} {xs : List (Key × V)} (r : RepK K ρ B H kvs xs) : xs.map (·.1) = kvs.map (·.1) /\ RepL K ρ B H (kvs.map (·.2)) (xs.map (·.2)) := by
  induction r with
  | nil => exact ⟨rfl, RepL.nil⟩
  | cons h _ ih => exact ⟨by simp [ih.1, h.1], by simpa using RepL.cons h.2 ih.2⟩
theorem RepK.val {kvs : List (Key × DV)} {xs : List (Key × V)} (r : RepK K ρ B H kvs xs) (k : Key) : (YU kvs k = none /\ qm xs k = none) ∨ ∃ d v, YU kvs k = some d /\ qm xs k = some v /\ RepV K ρ B H d v := by
  induction r with
  | nil => exact .inl ⟨rfl, rfl⟩
  | @cons p q _ _ h _ ih =>
    by_cases e : p.1 = k
    . exact .inr ⟨p.2, q.2, by simp [YU, List.find?_cons, e], by simp [qm, List.find?_cons, h.1 ▸ e], h.2⟩
    . have e' : ¬ q.1 = k := h.1 ▸ e
      simpa [YU, qm, List.find?_cons, e, e'] using ih
theorem RepK.any {kvs : List (Key × DV)} {xs : List (Key × V)} (r : RepK K ρ B H kvs xs) (k : Key) : (kvs.any fun kv => decide (kv.1 = k)) = xs.any fun kv => decide (kv.1 = k) := by
  induction r with
  | nil => rfl
  | cons h _ ih => simp only [List.any_cons, ih, h.1]
theorem RepK.repl {kvs : List (Key × DV)} {xs : List (Key × V)} (r : RepK K ρ B H kvs xs) (k : Key) {d : DV} {v : V} (rd : RepV K ρ B H d v) : RepK K ρ B H (kvs.map fun kv => if kv.1 = k then (kv.1, d) else kv) (xs.map fun kv => if kv.1 = k then (kv.1, v) else kv) := by
  induction r with
  | nil => exact .nil
  | @cons p q _ _ h _ ih =>
    refine .cons ?_ ih
    dsimp only
    by_cases e : p.1 = k
    . rw [if_pos e, if_pos (h.1 ▸ e)]; exact ⟨h.1, rd⟩
    . rw [if_neg e, if_neg (h.1 ▸ e)]; exact h
theorem RepK.snoc {kvs : List (Key × DV)} {xs : List (Key × V)} (r : RepK K ρ B H kvs xs) {k : Key} {d : DV} {v : V} (rd : RepV K ρ B H d v) : RepK K ρ B H (kvs ++ [(k, d)]) (xs ++ [(k, v)]) := by
  induction r with
  | nil => exact .cons ⟨rfl, rd⟩ .nil
  | cons h _ ih => exact .cons h ih
theorem RepK.put {kvs : List (Key × DV)} {xs : List (Key × V)} (r : RepK K ρ B H kvs xs) (k : Key) {d : DV} {v : V} (rd : RepV K ρ B H d v) : RepK K ρ B H (jK kvs k d) (jY xs k v) := by
  unfold jK jY
  rw [r.any k]
  split
  . exact r.repl k rd
  . exact r.snoc rd
theorem RepK.len {kvs : List (Key × DV)} {xs : List (Key × V)} (r : RepK K ρ B H kvs xs) : kvs.length = xs.length := Paired.length r
theorem RepK.gs {ρ' : List Addr} {B' : Addr -> Prop} {H' : Hp} {kvs : List (Key × DV)} {xs : List (Key × V)} (g : Gs K ρ B H ρ' B' H') (r : RepK K ρ B H kvs xs) : RepK K ρ' B' H' kvs xs := L2.Paired.mapP r fun _ _ h => ⟨h.1, RepV.gs g _ _ h.2⟩
theorem ORep.dic {a : Addr} {kvs : List (Key × DV)} (h : ORep K ρ B H a (.dic kvs)) : ∃ xs, H a = some (.dK xs) /\ RepK K ρ B H kvs xs := by
  obtain ⟨xs, e, ek, rl⟩ := h
  exact ⟨xs, e, vV ek rl⟩
theorem RepK.orep {a : Addr} {kvs : List (Key × DV)} {xs : List (Key × V)} (r : RepK K ρ B H kvs xs) (e : H a = some (.dK xs)) : ORep K ρ B H a (.dic kvs) := ⟨xs, e, r.to.1, r.to.2⟩
theorem Qa8 {n : Nat} {a : Addr} {xs xs' : List (Key × V)} {kvs' : List (Key × DV)} (W : WOk K ρ B hp H) (i : ρ[n]? = some a) (e : H a = some (.dK xs)) (r : RepK K ρ B H kvs' xs') : Gr K ρ B H ρ B (upd H a (.dK xs')) /\ WOk K ρ B (hp.set n (.dic kvs')) (upd H a (.dK xs')) := by
  have g : Gr K ρ B H ρ B (upd H a (.dK xs')) := Gr.wset i e
  exact ⟨g, W.wset (o' := .dK xs') (v := .dic kvs') i e ((r.gs (g.gs W.rb)).orep Q8)⟩
theorem y4 {n : Nat} {a : Addr} {o : HO} {xs' : List V} {ds' : List DV} (W : WOk K ρ B hp H) (i : ρ[n]? = some a) (e : H a = some o) (r : RepL K ρ B H ds' xs') : Gr K ρ B H ρ B (upd H a (.lst xs')) /\ WOk K ρ B (hp.set n (.lst ds')) (upd H a (.lst xs')) := by
  have g : Gr K ρ B H ρ B (upd H a (.lst xs')) := Gr.wset i e
  exact ⟨g, W.wset (o' := .lst xs') (v := .lst ds') i e ⟨xs', Q8, RepL.grow W.rb g _ _ r⟩⟩
end
section
variable {X : Cx} {e a b c : Expr} {f fa fb fc : DEx} {pos : Pos}
def zo (o : Option DV) : M DV := match o with
  | some d => pure d
  | none => failure
theorem xK {o : Option DV} {d : DV} {hp hp' : Hs} (h : zo o hp = some (d, hp')) : o = some d /\ hp = hp' := by
  cases o with
  | none => cases h
  | some z => obtain ⟨rfl, rfl⟩ := Qj h; exact ⟨rfl, rfl⟩
def YF (d : DV) : M Key := match qO d with
  | some k => pure k
  | none => failure
theorem qE {d : DV} {k : Key} {hp hp' : Hs} (h : YF d hp = some (k, hp')) : qO d = some k /\ hp = hp' := by
  unfold YF at h
  cases q : qO d with
  | none => rw [q] at h; cases h
  | some z => rw [q] at h; obtain ⟨rfl, rfl⟩ := Qj h; exact ⟨rfl, rfl⟩
def ixG : DV -> DV -> M DV
  | .ref n, y => do
    match <- Jt n with
    | .lst ds => do let i <- asI y; zo (atI ds i)
    | .dic kvs => do let k <- YF y; zo (YU kvs k)
    | _ => failure
  | x, y => ixD x y
theorem Qey (hu : X.A.units + 1 < cLine) : IxR X (tP2 X.K ixG) := by
  intro value slice pins s σ H x y v u Q I rx ry h hsub
  obtain ⟨ρ, B, hp, dx, dy, d, hp', W, r1, r2, e, k⟩ := h
  unfold ixG at e
  split at e
  . rename_i n
    obtain ⟨o, hp1, e1, e2⟩ := Qf e
    obtain ⟨e3, rfl⟩ := Jl e1
    obtain ⟨a, rfl, i1, ro⟩ := RepV.refW W r1 e3
    cases o with
    | ins _ _ => cases e2
    | dic kvs =>
      obtain ⟨ky, hp2, e4, e5⟩ := Qf e2
      obtain ⟨hk, rfl⟩ := qE e4
      obtain ⟨hv, rfl⟩ := xK e5
      obtain ⟨xs, h1, rk⟩ := ro.dic
      rcases rk.val ky with ⟨z, _⟩ | ⟨d', v', z, zv, rz⟩
      . rw [hv] at z; cases z
      . rw [hv] at z; cases z
        exact QbF hu value slice pins s σ H _ _ v u Q I rx ry ⟨a, xs, ky, v', rfl, zI hk r2, h1, zv, k _ ρ B H Gr.refl W rz⟩ hsub
    | lst ds =>
      obtain ⟨i, hp2, e4, e5⟩ := Qf e2
      obtain ⟨rfl, rfl⟩ := VH e4
      obtain ⟨hv, rfl⟩ := xK e5
      obtain ⟨xs, h1, l1⟩ := ro
      obtain ⟨z, hz, rz⟩ := Kc l1 hv
      exact vW value slice pins s σ H _ _ v u Q I rx ry ⟨a, xs, i, z, rfl, r2.intI, SqL.of h1, hz, k _ ρ B H Gr.refl W rz⟩ hsub
  . exact Qd3 value slice pins s σ H x y v u Q I rx ry ⟨ρ, B, hp, _, _, d, hp', W, r1, r2, e, k⟩ hsub
theorem QB (hu : X.A.units + 1 < cLine) (ha : DE X a fa) (hb : DE X b fb) (hs : UW b := by intro _ _; rfl) : DE X (.Subscript a b pos) (Qh ixG fa fb) := L2.PE.imp (Qcz (Qey hu) ha hb hs) fun _ _ _ h => zw h
def ZD : List DV -> M DV
  | [.ref n] => do
    match <- Jt n with
    | .lst ds => pure (.int ds.length)
    | .dic kvs => pure (.int kvs.length)
    | _ => failure
  | xs => YG xs
theorem Xg : Yk X (.builtin "len") (tPn X.K ZD) := by
  intro pins s σ H xs us Q I r h
  obtain ⟨ρ, B, hp, ds, d, hp', W, rl, e, k⟩ := h
  unfold ZD at e
  split at e
  . rename_i n
    obtain ⟨o, hp1, e1, e2⟩ := Qf e
    obtain ⟨e3, rfl⟩ := Jl e1
    obtain ⟨v, rfl, rv⟩ := rl.oneI
    obtain ⟨a, rfl, _, ro⟩ := RepV.refW W rv e3
    cases o with
    | ins _ _ => cases e2
    | lst zs =>
      obtain ⟨rfl, rfl⟩ := Qj e2
      obtain ⟨ys, h1, l1⟩ := ro
      exact ze pins s σ H _ us Q I r ⟨a, ys, rfl, .inl (SqL.of h1), by rw [<- l1.length]; exact k _ ρ B H Gr.refl W JY⟩
    | dic kvs =>
      obtain ⟨rfl, rfl⟩ := Qj e2
      obtain ⟨ys, h1, l1⟩ := ro.dic
      exact uY pins s σ H _ us Q I r ⟨a, ys, rfl, h1, by rw [<- l1.len]; exact k _ ρ B H Gr.refl W JY⟩
  . exact Us pins s σ H xs us Q I r ⟨ρ, B, hp, _, d, hp', W, rl, e, k⟩
def Qeq : DV -> M (List DV)
  | .tup ds => pure ds
  | .lst ds => pure ds
  | .ref n => do
    match <- Jt n with
    | .lst ds => pure ds
    | _ => failure
  | _ => failure
theorem QaF {d : DV} {ds : List DV} {hp hp' : Hs} {K : PySem.W.Frag} {ρ : List Addr} {B : Addr -> Prop} {H : Hp} {v : V} (W : WOk K ρ B hp H) (r : RepV K ρ B H d v) (h : Qeq d hp = some (ds, hp')) : hp = hp' /\ ∃ p xs, v = .ref p /\ (SqL K H p xs ∨ SqT K H p xs) /\ RepL K ρ B H ds xs := by
  cases d with
  | tup xs =>
    obtain ⟨rfl, rfl⟩ := Qj h
    obtain ⟨a, ys, rfl, _, sq, l⟩ := r.tupI
    exact ⟨rfl, a, ys, rfl, .inr sq, l⟩
  | lst xs =>
    obtain ⟨rfl, rfl⟩ := Qj h
    obtain ⟨a, ys, rfl, _, sq, l⟩ := r.lstI
    exact ⟨rfl, a, ys, rfl, .inl sq, l⟩
  | ref n =>
    obtain ⟨o, hp1, e1, e2⟩ := Qf (show (Jt n >>= fun o => (match o with | .lst ds => pure ds | _ => failure : M (List DV))) hp = some (ds, hp') from h)
    obtain ⟨e3, rfl⟩ := Jl e1
    cases o with
    | lst zs =>
      obtain ⟨rfl, rfl⟩ := Qj e2
      obtain ⟨a, rfl, _, ys, h1, l1⟩ := RepV.refW W r e3
      exact ⟨rfl, a, ys, rfl, .inl (SqL.of h1), l1⟩
    | dic _ => cases e2
    | ins _ _ => cases e2
  | non => cases h
  | bl _ => cases h
  | int _ => cases h
  | str _ => cases h
def Qdz (g : DV -> M DV) : List DV -> M DV
  | [d] => g d
  | _ => failure
def vw : List DV -> M DV := Qdz fun d => do let ds <- Qeq d; pure (.lst ds)
theorem u3 {g : DV -> M DV} {ds : List DV} {d : DV} {hp hp' : Hs} (h : Qdz g ds hp = some (d, hp')) : ∃ x, ds = [x] /\ g x hp = some (d, hp') := by
  unfold Qdz at h
  split at h
  . exact ⟨_, rfl, h⟩
  . cases h
theorem Qa1 : Yk X (.type "list") (tPn X.K vw) := by
  intro pins s σ H xs us Q I r h
  obtain ⟨ρ, B, hp, ds, d, hp', W, rl, e, k⟩ := h
  obtain ⟨x, rfl, e⟩ := u3 e
  obtain ⟨zs, hp1, e1, e2⟩ := Qf e
  obtain ⟨rfl, rfl⟩ := Qj e2
  obtain ⟨v, rfl, rv⟩ := rl.oneI
  obtain ⟨rfl, p, ys, rfl, sq, l⟩ := QaF W rv e1
  exact Ka pins s σ H _ us Q I r ⟨p, ys, rfl, sq, yI W l k⟩
end
end D
namespace D
open PySem PySem.Spec PyProof.Rows L2
def drf : Nat -> Hs -> DV -> Option DV
  | 0, _, _ => none
  | n + 1, hp, d => match d with
    | .ref i => match hp[i]? with
      | some (.lst ds) => (ds.mapM (drf n hp)).map .lst
      | _ => none
    | .tup ds => (ds.mapM (drf n hp)).map .tup
    | .lst ds => (ds.mapM (drf n hp)).map .lst
    | d => some d
theorem Vj {α β : Type} {f : α -> Option β} {x : α} {xs : List α} {ys : List β} (h : (x :: xs).mapM f = some ys) : ∃ y zs, f x = some y /\ xs.mapM f = some zs /\ ys = y :: zs := by
  rw [List.mapM_cons] at h
  cases q : f x with
  | none => rw [q] at h; cases h
  | some y =>
    cases q2 : xs.mapM f with
    | none => rw [q, q2] at h; cases h
    | some zs => rw [q, q2] at h; exact ⟨y, zs, rfl, rfl, (Option.some.inj h).symm⟩
section
variable {X : Cx} {pins : List (Addr × Obj)} {σ : St} {H : Hp} {s : Shared} {ρ : List Addr} {B : Addr -> Prop} {hp : Hs}
theorem qJ (I : Inv X pins σ H s) (W : WOk X.K ρ B hp H) : ∀ (n : Nat) (d d' : DV) (v : V) (u : Value), drf n hp d = some d' -> RepV X.K ρ B H d v -> RelV v u -> ∃ as, Reads s.heap u (toP d') as
  | 0, _, _, _, _, h, _, _ => by cases h
  | n + 1, d, d', v, u, h, r, ru => by
    have all : ∀ (ds ds' : List DV) (xs : List V) (us : List Value), ds.mapM (drf n hp) = some ds' -> RepL X.K ρ B H ds xs -> Vals xs us -> ∃ as, ReadsAll s.heap us (yq ds') as := by
      intro ds
      induction ds with
      | nil =>
        intro ds' xs us h r ru
        rw [List.mapM_nil] at h; cases h
        unfold RepL at r; subst r; cases ru
        exact ⟨[], by unfold yq; exact .nil⟩
      | cons x ds ih =>
        intro ds' xs us h r ru
        obtain ⟨y, zs, h1, h2, rfl⟩ := Vj h
        unfold RepL at r
        obtain ⟨z, t, rfl, r1, r2⟩ := r
        cases ru with
        | cons q1 q2 =>
          obtain ⟨as, a1⟩ := qJ I W n x y z _ h1 r1 q1
          obtain ⟨bs, a2⟩ := ih zs t _ h2 r2 q2
          exact ⟨_, by unfold yq; exact .cons a1 a2⟩
    have lst : ∀ (ds ds' : List DV) (a : Addr) (xs : List V), ds.mapM (drf n hp) = some ds' -> SqL X.K H a xs -> RepL X.K ρ B H ds xs -> ∃ as, Reads s.heap (.ref a) (toP (.lst ds')) as := by
      intro ds ds' a xs h sq rl
      obtain ⟨its, rv, ⟨o, k, e, hc, _, hd⟩, _⟩ := I.list sq
      obtain ⟨as, q⟩ := all ds ds' xs its h rl rv
      exact ⟨_, by unfold toP; exact reads_list_at e hc hd (by simpa using q)⟩
    unfold drf at h
    cases d with
    | non => cases h; obtain rfl := r.nonI; cases ru; exact ⟨[], by unfold toP; exact .none⟩
    | bl b => cases h; obtain rfl := r.blI; cases ru; exact ⟨[], by unfold toP; exact .bool b⟩
    | int i => cases h; obtain rfl := r.intI; obtain ⟨t, rfl⟩ := ru; exact ⟨[], by unfold toP; exact .int i t⟩
    | str x => cases h; obtain rfl := r.strI; obtain ⟨t, rfl⟩ := ru; exact ⟨[], by unfold toP; exact .str x t⟩
    | tup ds =>
      obtain ⟨ds', h1, rfl⟩ := Option.map_eq_some_iff.mp h
      obtain ⟨a, xs, rfl, _, sq, rl⟩ := r.tupI
      cases ru
      obtain ⟨its, rv, ⟨o, e, hc, k, hd⟩, _⟩ := I.tuple sq
      obtain ⟨as, q⟩ := all ds ds' xs its h1 rl rv
      exact ⟨_, by unfold toP; exact reads_tuple_at e hc hd (by simpa using q)⟩
    | lst ds =>
      obtain ⟨ds', h1, rfl⟩ := Option.map_eq_some_iff.mp h
      obtain ⟨a, xs, rfl, _, sq, rl⟩ := r.lstI
      cases ru
      exact lst ds ds' a xs h1 sq rl
    | ref i =>
      cases q : hp[i]? with
      | none => simp only [q] at h; cases h
      | some o =>
        simp only [q] at h
        cases o with
        | dic _ => cases h
        | ins _ _ => cases h
        | lst ds =>
          obtain ⟨ds', h1, rfl⟩ := Option.map_eq_some_iff.mp h
          obtain ⟨a, rfl, _, xs, h2, l⟩ := RepV.refW W r q
          cases ru
          exact lst ds ds' a xs h1 (SqL.of h2) l
end
def QaZ (d : DV) : M DV := fun hp => (drf 40 hp d).map fun x => (x, hp)
theorem Ue {d d' : DV} {hp hp' : Hs} (h : QaZ d hp = some (d', hp')) : drf 40 hp d = some d' /\ hp = hp' := by
  obtain ⟨x, h1, h2⟩ := Option.map_eq_some_iff.mp h
  cases h2; exact ⟨h1, rfl⟩
def V7 (x y : DV) : M Bool := do
  let x' <- QaZ x
  let y' <- QaZ y
  Qu (SeqAt.shaped (toP x') && SeqAt.shaped (toP y'))
  pure (PyData.eqv (toP x') (toP y'))
def eqG : DV -> DV -> M DV := fun x y => do let b <- V7 x y; pure (.bl b)
def neG : DV -> DV -> M DV := fun x y => do let b <- V7 x y; pure (.bl (!b))
section
variable {X : Cx} {e a b c : Expr} {f fa fb fc : DEx} {ca cb : DTx} {pos : Pos}
theorem Ud {x y : DV} {k : Bool} {hp hp' : Hs} (h : V7 x y hp = some (k, hp')) : ∃ x' y', drf 40 hp x = some x' /\ drf 40 hp y = some y' /\ SeqAt.shaped (toP x') = true /\ SeqAt.shaped (toP y') = true /\ k = PyData.eqv (toP x') (toP y') /\ hp = hp' := by
  obtain ⟨x', hp1, e1, h⟩ := Qf h
  obtain ⟨y', hp2, e2, h⟩ := Qf h
  obtain ⟨_, hp3, e3, h⟩ := Qf h
  obtain ⟨q1, rfl⟩ := Ue e1
  obtain ⟨q2, rfl⟩ := Ue e2
  obtain ⟨hs, rfl⟩ := QH e3
  obtain ⟨rfl, rfl⟩ := Qj h
  rw [Bool.and_eq_true] at hs
  exact ⟨x', y', q1, q2, hs.1, hs.2, rfl, rfl⟩
theorem y1 (hu : X.A.units + 64 < cLine) : P2 X (compareOp .Eq) eqG := by
  intro pins s σ H x y v u Q I rx ry h
  obtain ⟨ρ, B, hp, dx, dy, d, hp', W, r1, r2, e, k⟩ := h
  obtain ⟨b, hp1, e1, e2⟩ := Qf e
  obtain ⟨rfl, rfl⟩ := Qj e2
  obtain ⟨x', y', q1, q2, s1, s2, rfl, rfl⟩ := Ud e1
  obtain ⟨as, a1⟩ := qJ I W _ _ _ _ _ q1 r1 rx
  obtain ⟨bs, a2⟩ := qJ I W _ _ _ _ _ q2 r2 ry
  exact eq_dataH a1 a2 s1 s2 hu ⟨.bl _, H, I, rfl, k _ ρ B H Gr.refl W Yr⟩
theorem xf (hu : X.A.units + 64 < cLine) : P2 X (compareOp .NotEq) neG := by
  intro pins s σ H x y v u Q I rx ry h
  obtain ⟨ρ, B, hp, dx, dy, d, hp', W, r1, r2, e, k⟩ := h
  obtain ⟨b, hp1, e1, e2⟩ := Qf e
  obtain ⟨rfl, rfl⟩ := Qj e2
  obtain ⟨x', y', q1, q2, s1, s2, rfl, rfl⟩ := Ud e1
  obtain ⟨as, a1⟩ := qJ I W _ _ _ _ _ q1 r1 rx
  obtain ⟨bs, a2⟩ := qJ I W _ _ _ _ _ q2 r2 ry
  exact ne_dataH a1 a2 s1 s2 hu ⟨.bl _, H, I, rfl, k _ ρ B H Gr.refl W Yr⟩
def JK : DV -> Bool
  | .non => true
  | .bl _ => true
  | .int _ => true
  | .str _ => true
  | _ => false
def eqF : DV -> DV -> Bool
  | .non, .non => true
  | .bl a, .bl b => a == b
  | .bl a, .int b => (if a then 1 else 0) == b
  | .int a, .bl b => a == (if b then 1 else 0)
  | .int a, .int b => a == b
  | .str a, .str b => a == b
  | _, _ => false
def vOf : DV -> V
  | .non => .non
  | .bl b => .bl b
  | .int i => .int i
  | .str x => .str x
  | _ => .non
theorem uM {K : PySem.W.Frag} {ρ : List Addr} {B : Addr -> Prop} {H : Hp} {d : DV} {v : V} (h : JK d = true) (r : RepV K ρ B H d v) : v = vOf d := by
  cases d <;> simp [JK] at h
  . exact r.nonI
  . exact r.blI
  . exact r.intI
  . exact r.strI
theorem GR {d : DV} (h : JK d = true) : YZ (vOf d) = true := by cases d <;> simp [JK] at h <;> rfl
theorem Qck {d e : DV} (h : JK d = true) (h' : JK e = true) : eqV (vOf d) (vOf e) = eqF d e := by cases d <;> simp [JK] at h <;> cases e <;> simp [JK] at h' <;> rfl
theorem uf {K : PySem.W.Frag} {ρ : List Addr} {B : Addr -> Prop} {H : Hp} : ∀ {ds : List DV} {xs : List V}, ds.all JK = true -> RepL K ρ B H ds xs -> xs = ds.map vOf
  | [], _, _, r => by unfold RepL at r; exact r
  | d :: ds, _, h, r => by
    unfold RepL at r
    obtain ⟨x, t, rfl, r1, r2⟩ := r
    rw [List.all_cons, Bool.and_eq_true] at h
    rw [uM h.1 r1, uf h.2 r2]; rfl
def inB (d : DV) (ds : List DV) : Bool := ds.any fun y => eqF y d
theorem vR {d : DV} (h : JK d = true) : ∀ {ds : List DV}, ds.all JK = true -> inV (vOf d) (ds.map vOf) = inB d ds
  | [], _ => rfl
  | x :: ds, h' => by
    rw [List.all_cons, Bool.and_eq_true] at h'
    have ih := vR h h'.2
    unfold inV inB at ih ⊢
    rw [List.map_cons, List.any_cons, List.any_cons, ih, Qck h'.1 h]
theorem Gq : ∀ {ds : List DV}, ds.all JK = true -> (ds.map vOf).all YZ = true
  | [], _ => rfl
  | x :: ds, h => by
    rw [List.all_cons, Bool.and_eq_true] at h
    rw [List.map_cons, List.all_cons, GR h.1, Gq h.2]; rfl
def Qah (x : DV) : DV -> M Bool
  | .ref n => do
    match <- Jt n with
    | .lst ds => do Qu (JK x && ds.all JK); pure (inB x ds)
    | .dic kvs => do let k <- YF x; pure (YU kvs k).isSome
    | _ => failure
  | .tup ds => do Qu (JK x && ds.all JK); pure (inB x ds)
  | .lst ds => do Qu (JK x && ds.all JK); pure (inB x ds)
  | _ => failure
def inG : DV -> DV -> M DV := fun x y => do let b <- Qah x y; pure (.bl b)
def Qct : DV -> DV -> M DV := fun x y => do let b <- Qah x y; pure (.bl (!b))
theorem Vg {x y : DV} {k : Bool} {hp hp' : Hs} {K : PySem.W.Frag} {ρ : List Addr} {B : Addr -> Prop} {H : Hp} {vx vy : V} (W : WOk K ρ B hp H) (r1 : RepV K ρ B H x vx) (r2 : RepV K ρ B H y vy) (h : Qah x y hp = some (k, hp')) : hp = hp' /\
    ((∃ p xs, vy = .ref p /\ (SqL K H p xs ∨ SqT K H p xs) /\ YZ vx = true /\ xs.all YZ = true /\ k = inV vx xs) ∨ ∃ a kvs ky, vy = .ref a /\ vx = kV ky /\ H a = some (.dK kvs) /\ k = (qm kvs ky).isSome) := by
  have seq : ∀ (ds : List DV) (xs : List V) (p : Addr), (do Qu (JK x && ds.all JK); pure (inB x ds) : M Bool) hp = some (k, hp') -> RepL K ρ B H ds xs -> (SqL K H p xs ∨ SqT K H p xs) -> vy = .ref p -> hp = hp' /\ (∃ p xs, vy = .ref p /\ (SqL K H p xs ∨ SqT K H p xs) /\ YZ vx = true /\ xs.all YZ = true /\ k = inV vx xs) := by
    intro ds xs p h rl sq ev
    obtain ⟨_, hp1, e1, e2⟩ := Qf h
    obtain ⟨hs, rfl⟩ := QH e1
    obtain ⟨rfl, rfl⟩ := Qj e2
    rw [Bool.and_eq_true] at hs
    have ex := uf hs.2 rl
    have e0 := uM hs.1 r1
    subst ex e0
    exact ⟨rfl, p, _, ev, sq, GR hs.1, Gq hs.2, (vR hs.1 hs.2).symm⟩
  cases y with
  | tup ds =>
    obtain ⟨a, xs, rfl, _, sq, rl⟩ := r2.tupI
    exact (seq ds xs a h rl (.inr sq) rfl).imp id .inl
  | lst ds =>
    obtain ⟨a, xs, rfl, _, sq, rl⟩ := r2.lstI
    exact (seq ds xs a h rl (.inl sq) rfl).imp id .inl
  | ref n =>
    obtain ⟨o, hp1, e1, e2⟩ := Qf h
    obtain ⟨e3, rfl⟩ := Jl e1
    obtain ⟨a, rfl, _, ro⟩ := RepV.refW W r2 e3
    cases o with
    | lst ds =>
      obtain ⟨xs, h1, rl⟩ := ro
      exact (seq ds xs a e2 rl (.inl (SqL.of h1)) rfl).imp id .inl
    | dic kvs =>
      obtain ⟨ky, hp2, e4, e5⟩ := Qf e2
      obtain ⟨hk, rfl⟩ := qE e4
      obtain ⟨rfl, rfl⟩ := Qj e5
      obtain ⟨xs, h1, rk⟩ := ro.dic
      refine ⟨rfl, .inr ⟨a, xs, ky, rfl, zI hk r1, h1, ?_⟩⟩
      rcases rk.val ky with ⟨z1, z2⟩ | ⟨_, _, z1, z2, _⟩ <;> rw [z1, z2] <;> rfl
    | ins _ _ => cases e2
  | non => cases h
  | bl _ => cases h
  | int _ => cases h
  | str _ => cases h
theorem Qej (hu : X.A.units + 1 < cLine) : P2 X (compareOp .In) inG := by
  intro pins s σ H x y v u Q I rx ry h
  obtain ⟨ρ, B, hp, dx, dy, d, hp', W, r1, r2, e, k⟩ := h
  obtain ⟨b, hp1, e1, e2⟩ := Qf e
  obtain ⟨rfl, rfl⟩ := Qj e2
  obtain ⟨rfl, h⟩ := Vg W r1 r2 e1
  have fin := k _ ρ B H Gr.refl W (Yr (b := b))
  rcases h with ⟨p, xs, rfl, sq, f1, f2, rfl⟩ | ⟨a, kvs, ky, rfl, rfl, h1, rfl⟩
  . exact gT pins s σ H _ _ v u Q I rx ry ⟨p, xs, rfl, sq, f1, f2, fin⟩
  . exact vg hu pins s σ H _ _ v u Q I rx ry ⟨a, kvs, ky, rfl, rfl, h1, fin⟩
theorem QdY (hu : X.A.units + 1 < cLine) : P2 X (compareOp .NotIn) Qct := by
  intro pins s σ H x y v u Q I rx ry h
  obtain ⟨ρ, B, hp, dx, dy, d, hp', W, r1, r2, e, k⟩ := h
  obtain ⟨b, hp1, e1, e2⟩ := Qf e
  obtain ⟨rfl, rfl⟩ := Qj e2
  obtain ⟨rfl, h⟩ := Vg W r1 r2 e1
  have fin := k _ ρ B H Gr.refl W (Yr (b := !b))
  rcases h with ⟨p, xs, rfl, sq, f1, f2, rfl⟩ | ⟨a, kvs, ky, rfl, rfl, h1, rfl⟩
  . exact Kk pins s σ H _ _ v u Q I rx ry ⟨p, xs, rfl, sq, f1, f2, fin⟩
  . exact VS hu pins s σ H _ _ v u Q I rx ry ⟨a, kvs, ky, rfl, rfl, h1, fin⟩
def jR (o i d : DV) : M Unit := match o with
  | .ref n => do
    match <- Jt n with
    | .lst ds => do
      let k <- asI i
      match ixN ds.length k with
      | some j => jX n (.lst (ds.set j d))
      | none => failure
    | .dic kvs => do
      let k <- YF i
      Qu (decide (kvs.length < lim))
      jX n (.dic (jK kvs k d))
    | _ => failure
  | _ => failure
def tP3 (K : PySem.W.Frag) (g : DV -> DV -> DV -> M Unit) : QbA := fun o i v H Q => ∃ ρ B hp dO di dv hp', WOk K ρ B hp H /\ RepV K ρ B H dO o /\ RepV K ρ B H di i /\ RepV K ρ B H dv v /\ g dO di dv hp = some ((), hp') /\ ∀ ρ' B' H', Gr K ρ B H ρ' B' H' -> WOk K ρ' B' hp' H' -> Q H'
theorem RepL.set {K : PySem.W.Frag} {ρ : List Addr} {B : Addr -> Prop} {H : Hp} {d : DV} {x : V} (r : RepV K ρ B H d x) : ∀ {ds : List DV} {xs : List V} (i : Nat), RepL K ρ B H ds xs -> RepL K ρ B H (ds.set i d) (xs.set i x)
  | [], _, i, h => by unfold RepL at h; subst h; exact RepL.nil
  | _ :: ds, _, 0, h => by
    unfold RepL at h
    obtain ⟨y, t, rfl, _, h2⟩ := h
    exact RepL.cons r h2
  | _ :: ds, _, i + 1, h => by
    unfold RepL at h
    obtain ⟨y, t, rfl, h1, h2⟩ := h
    exact RepL.cons h1 (RepL.set r i h2)
theorem Qeh (hu : X.A.units + 1 < cLine) : QbO X (tP3 X.K jR) := by
  intro pins s σ H o i v ov iv u Q I ro ri rv h
  obtain ⟨ρ, B, hp, dO, di, dv, hp', W, r1, r2, r3, e, k⟩ := h
  cases dO with
  | ref n =>
    obtain ⟨ob, hp1, e1, e2⟩ := Qf e
    obtain ⟨e3, rfl⟩ := Jl e1
    obtain ⟨a, rfl, i1, rob⟩ := RepV.refW W r1 e3
    cases ob with
    | ins _ _ => cases e2
    | lst ds =>
      obtain ⟨j, hp2, e4, e5⟩ := Qf e2
      obtain ⟨rfl, rfl⟩ := VH e4
      obtain ⟨xs, h1, l1⟩ := rob
      cases q : ixN ds.length j with
      | none => simp only [q] at e5; cases e5
      | some m =>
        simp only [q] at e5
        cases e5
        obtain ⟨g, W'⟩ := y4 W i1 h1 (RepL.set r3 m l1)
        exact QaB pins s σ H _ _ v ov iv u Q I ro ri rv ⟨a, xs, j, m, rfl, r2.intI, h1, by rw [<- l1.length]; exact q, k ρ B _ g W'⟩
    | dic kvs =>
      obtain ⟨ky, hp2, e4, e5⟩ := Qf e2
      obtain ⟨hk, rfl⟩ := qE e4
      obtain ⟨_, hp3, e6, e7⟩ := Qf e5
      obtain ⟨hl, rfl⟩ := QH e6
      cases e7
      obtain ⟨xs, h1, rk⟩ := rob.dic
      obtain ⟨g, W'⟩ := Qa8 W i1 h1 (rk.put ky r3)
      exact kO hu pins s σ H _ _ v ov iv u Q I ro ri rv ⟨a, xs, ky, rfl, zI hk r2, h1, by rw [<- rk.len]; exact Nat.lt_of_lt_of_le (of_decide_eq_true hl) Kd, k ρ B _ g W'⟩
  | non => cases e
  | bl _ => cases e
  | int _ => cases e
  | str _ => cases e
  | tup _ => cases e
  | lst _ => cases e
def gSb (f g : DEx) : DGx := fun d env => do
  let o <- f env
  let i <- g env
  jR o i d
  pure env
theorem Vl {o i : Expr} {fo fi : DEx} (hu : X.A.units + 1 < cLine) (ho : DE X o fo) (hi : DE X i fi)
    (ha : ∀ v, assign (.Subscript o i pos) X.env v = (do
      let ov <- holding [v] (eval o X.env)
      let iv <- holding [v, ov] (eval i X.env)
      standAt pos
      holding [v, ov, iv] (setItem ov iv v)
      release [v, ov, iv] []) := by intro _; rfl) : PG X (.Subscript o i pos) (tDG X.K (gSb fo fi)) := by
  intro pins s σ H v u Q I r h
  refine Qdf ho hi (Qeh hu) ha pins s σ H v u Q I r ?_
  obtain ⟨Z, env, ρ, B, hp, d, env', hp', S, rd, e, k⟩ := h
  obtain ⟨x, hp1, e1, e⟩ := Qf e
  obtain ⟨y, hp2, e2, e⟩ := Qf e
  obtain ⟨z, hp3, e3, e⟩ := Qf e
  obtain ⟨rfl, rfl⟩ := Qj e
  refine tD.run S e1 fun vx ρ1 B1 H1 g1 S1 r1 => tD.run S1 e2 fun vy ρ2 B2 H2 g2 S2 r2 => ?_
  exact ⟨ρ2, B2, hp2, x, y, d, hp3, S2.wo, RepV.grow S1.wo.rb g2 _ _ r1, r2, RepV.grow S.wo.rb (g1.trans g2) _ _ rd, e3, fun ρ3 B3 H3 g3 W3 => k _ ρ3 B3 H3 ((g1.trans (g2.trans g3)).gs S.wo.rb) (S2.grow g3 W3)⟩
def Ys : String -> DV -> M Unit
  | "list", .lst _ => pure ()
  | "str", .str _ => pure ()
  | T, .ref n => do
    match <- Jt n with
    | .lst _ => Qu (T == "list")
    | .dic _ => Qu (T == "dict")
    | _ => failure
  | _, _ => failure
theorem QaJ {T : String} {d : DV} {hp hp' : Hs} {K : PySem.W.Frag} {ρ : List Addr} {B : Addr -> Prop} {H : Hp} {v : V} {u : Unit} (W : WOk K ρ B hp H) (r : RepV K ρ B H d v) (h : Ys T d hp = some (u, hp')) : hp = hp' /\ tyV K T v H := by
  unfold Ys at h
  split at h
  . obtain ⟨_, rfl⟩ := Qj h
    obtain ⟨a, xs, rfl, _, sq, _⟩ := r.lstI
    exact ⟨rfl, .inl ⟨rfl, xs, sq⟩⟩
  . obtain ⟨_, rfl⟩ := Qj h
    obtain rfl := r.strI
    exact ⟨rfl, rfl⟩
  . obtain ⟨o, hp1, e1, e2⟩ := Qf h
    obtain ⟨e3, rfl⟩ := Jl e1
    obtain ⟨a, rfl, _, ro⟩ := RepV.refW W r e3
    cases o with
    | lst ds =>
      obtain ⟨hT, rfl⟩ := QH e2
      obtain ⟨xs, h1, _⟩ := ro
      exact ⟨rfl, .inl ⟨by simpa using hT, xs, SqL.of h1⟩⟩
    | dic kvs =>
      obtain ⟨hT, rfl⟩ := QH e2
      obtain ⟨xs, h1, _⟩ := ro
      exact ⟨rfl, .inr (.inr (.inl ⟨by simpa using hT, .inl ⟨xs, h1⟩⟩))⟩
    | ins _ _ => cases e2
  . cases h
def tPm (K : PySem.W.Frag) (m : DV -> List DV -> M DV) : V -> List V -> Hp -> VK -> Prop := fun x vs H Q => ∃ ρ B hp dx ds d hp', WOk K ρ B hp H /\ RepV K ρ B H dx x /\ RepL K ρ B H ds vs /\ m dx ds hp = some (d, hp') /\ Fol K ρ B H d hp' Q
def Yv (T : String) (m : DV -> List DV -> M DV) (f : DEx) (a : DAx) : DEx := fun env => do
  let x <- f env
  Ys T x
  let ds <- a env
  m x ds
theorem yN {T id : String} {name : Str} {o : Expr} {es : List Expr} {fo : DEx} {fs : DAx} {m : DV -> List DV -> M DV} {apos cpos : Pos} (hm : MtR X id (tPm X.K m)) (pa : PlainAttrs T) (slot : Slot T name id) (hty : typeOf (.builtin id) = pure (.type "method_descriptor")) (ho : DE X o fo) (ha : DA X (e :: es) fs)
    (hbase : attributeBase o name X.env (eval o X.env) = eval o X.env := by rfl)
    (hfew : ((backTo cpos (starEach (e :: es) X.env)).all (fun x => !x.1) && (backToKw cpos (keywordEach [] X.env)).all (fun x => x.1.isSome)
      && decide ((e :: es).length + ([] : List Keyword).length + (if ([] : List Keyword).isEmpty then 0 else 1) < 30)) = true := by rfl)
    (hline : (apos.endLine == cpos.line) = true := by rfl) (hs : starEach (e :: es) X.env = (false, eval e X.env) :: starEach es X.env := by rfl) (hplain : (backTo cpos (starEach es X.env)).any (·.1) = false := by rfl) :
    DE X (.Call (.Attribute o name apos) (e :: es) [] cpos) (Yv T m fo fs) :=
  L2.PE.imp (Qez pa slot hty hm ho ha hbase hfew hline hs hplain) fun σ H Q ⟨Z, env, ρ, B, hp, d, hp', S, e, k⟩ => by
    obtain ⟨x, hp1, e1, ea⟩ := Qf e
    obtain ⟨_, hp2, e2, eb⟩ := Qf ea
    obtain ⟨ds, hp3, e3, ec⟩ := Qf eb
    refine tD.run S e1 fun v ρ1 B1 H1 g1 S1 r1 => ?_
    obtain ⟨z, ty⟩ := QaJ S1.wo r1 e2
    rw [<- z] at e3
    exact ⟨ty, tDA.run S1 e3 fun vs ρ2 B2 H2 g2 S2 r2 => ⟨ρ2, B2, hp3, x, ds, d, hp', S2.wo, RepV.grow S1.wo.rb g2 _ _ r1, r2, ec, k.after (g1.trans g2)⟩⟩
def onL (x : DV) (k : Nat -> List DV -> M DV) : M DV := match x with
  | .ref n => do
    match <- Jt n with
    | .lst ds => k n ds
    | _ => failure
  | _ => failure
def onD (x : DV) (k : Nat -> List (Key × DV) -> M DV) : M DV := match x with
  | .ref n => do
    match <- Jt n with
    | .dic ds => k n ds
    | _ => failure
  | _ => failure
theorem Vr {x d : DV} {k : Nat -> List DV -> M DV} {hp hp' : Hs} (h : onL x k hp = some (d, hp')) : ∃ n ds, x = .ref n /\ hp[n]? = some (.lst ds) /\ k n ds hp = some (d, hp') := by
  cases x with
  | ref n =>
    obtain ⟨o, hp1, e1, e2⟩ := Qf h
    obtain ⟨e3, rfl⟩ := Jl e1
    cases o with
    | lst ds => exact ⟨n, ds, rfl, e3, e2⟩
    | dic _ => cases e2
    | ins _ _ => cases e2
  | _ => cases h
theorem Gj {x d : DV} {k : Nat -> List (Key × DV) -> M DV} {hp hp' : Hs} (h : onD x k hp = some (d, hp')) : ∃ n ds, x = .ref n /\ hp[n]? = some (.dic ds) /\ k n ds hp = some (d, hp') := by
  cases x with
  | ref n =>
    obtain ⟨o, hp1, e1, e2⟩ := Qf h
    obtain ⟨e3, rfl⟩ := Jl e1
    cases o with
    | dic ds => exact ⟨n, ds, rfl, e3, e2⟩
    | lst _ => cases e2
    | ins _ _ => cases e2
  | _ => cases h
def Jw (x : DV) : List DV -> M DV
  | [d] => onL x fun n ds => do Qu (decide (ds.length < lim)); jX n (.lst (ds ++ [d])); pure .non
  | _ => failure
theorem yY : MtR X "list.append" (tPm X.K Jw) := by
  intro pins s σ H x vs v us Q I rx rv h
  obtain ⟨ρ, B, hp, dx, es, d, hp', W, r1, r2, e, k⟩ := h
  unfold Jw at e
  split at e
  . rename_i y
    obtain ⟨n, ds, rfl, h0, e⟩ := Vr e
    obtain ⟨_, hp1, e1, e2⟩ := Qf e
    obtain ⟨hl, rfl⟩ := QH e1
    cases e2
    obtain ⟨a, rfl, i1, xs, h1, l1⟩ := RepV.refW W r1 h0
    obtain ⟨w, rfl, rw'⟩ := r2.oneI
    obtain ⟨g, W'⟩ := y4 W i1 h1 (RepL.append l1 (RepL.one rw'))
    exact UA pins s σ H _ _ v us Q I rx rv ⟨a, xs, w, rfl, rfl, h1, by rw [<- l1.length]; exact Nat.lt_of_lt_of_le (of_decide_eq_true hl) Kd, k _ ρ B _ g W' zP⟩
  . cases e
def Yc (x : DV) : List DV -> M DV
  | [.int i, d] => onL x fun n ds => do Qu (decide (ds.length < lim) && qN i); jX n (.lst (ds.take (Qes ds.length i) ++ d :: ds.drop (Qes ds.length i))); pure .non
  | _ => failure
def ji (x : DV) : List DV -> M DV
  | [y] => onD x fun n kvs => do
    let k <- YF y
    let d <- zo (YU kvs k)
    jX n (.dic (QcD kvs k))
    pure d
  | [y, z] => onD x fun n kvs => do
    let k <- YF y
    match YU kvs k with
    | some d => do jX n (.dic (QcD kvs k)); pure d
    | none => pure z
  | _ => failure
def YE (x : DV) : List DV -> M DV
  | [y] => onD x fun n kvs => do
    let k <- YF y
    pure ((YU kvs k).getD .non)
  | [y, z] => onD x fun n kvs => do
    let k <- YF y
    pure ((YU kvs k).getD z)
  | _ => failure
theorem QdW (hu : X.A.units + 1 < cLine) : MtR X "dict.get" (tPm X.K YE) := by
  intro pins s σ H x vs v us Q I rx rv h
  obtain ⟨ρ, B, hp, dx, es, d, hp', W, r1, r2, e, k⟩ := h
  unfold YE at e
  split at e
  . rename_i y
    obtain ⟨n, kvs, rfl, h0, e⟩ := Gj e
    obtain ⟨ky, hp1, e1, e⟩ := Qf e
    obtain ⟨hk, rfl⟩ := qE e1
    obtain ⟨rfl, rfl⟩ := Qj e
    obtain ⟨a, rfl, i1, ro⟩ := RepV.refW W r1 h0
    obtain ⟨xs, h1, rk⟩ := ro.dic
    obtain ⟨w, rfl, rw'⟩ := r2.oneI
    obtain rfl := zI hk rw'
    refine uw hu pins s σ H _ _ v us Q I rx rv ⟨a, xs, ky, rfl, h1, .inl ⟨rfl, k _ ρ B H Gr.refl W ?_⟩⟩
    rcases rk.val ky with ⟨z1, zv⟩ | ⟨d'', v', z1, zv, rz⟩ <;> rw [z1, zv]
    . exact zP
    . exact rz
  . rename_i y z
    obtain ⟨n, kvs, rfl, h0, e⟩ := Gj e
    obtain ⟨ky, hp1, e1, e⟩ := Qf e
    obtain ⟨hk, rfl⟩ := qE e1
    obtain ⟨rfl, rfl⟩ := Qj e
    obtain ⟨a, rfl, i1, ro⟩ := RepV.refW W r1 h0
    obtain ⟨xs, h1, rk⟩ := ro.dic
    unfold RepL at r2
    obtain ⟨w, t, rfl, rw', r2⟩ := r2
    obtain rfl := zI hk rw'
    obtain ⟨w2, rfl, rw2⟩ := r2.oneI
    refine uw hu pins s σ H _ _ v us Q I rx rv ⟨a, xs, ky, rfl, h1, .inr ⟨w2, rfl, k _ ρ B H Gr.refl W ?_⟩⟩
    rcases rk.val ky with ⟨z1, zv⟩ | ⟨d'', v', z1, zv, rz⟩ <;> rw [z1, zv]
    . exact rw2
    . exact rz
  . cases e
end
end D
namespace L2
open PySem PySem.Spec PyProof.Rows
theorem Inv.kfresh {X : Cx} {pins : List (Addr × Obj)} {σ : St} {H : Hp} {s : Shared} (I : Inv X pins σ H s) : X.K.lookup s.heap.objs.size = none := by
  cases q : X.K.lookup s.heap.objs.size with
  | none => rfl
  | some o => exact absurd (Heap.lt_size (I.kIn _ o q)) (Nat.lt_irrefl _)
theorem gG {X : Cx} {pos : Pos} : PE X (.Dict [] [] pos) (fun _ H Q => ∀ p, H p = none -> X.K.lookup p = none -> Q (.ref p) (upd H p (.dK []))) := fun pins s σ H Q I h =>
  wpAny_Dict_empty ⟨.ref s.heap.objs.size, _, I.laid (a := s.heap.objs.size) (o := .dK []) (t' := s.toks) (fun _ _ q => Heap.get?_push_of_some _ q) (Nat.le_refl _) (kQ s.heap I.big), rfl, h _ (I.hok.fresh (Nat.le_refl _)) I.kfresh⟩
end L2
namespace D
open PySem PySem.Spec PyProof.Rows L2
section
variable {X : Cx} {e a b c : Expr} {f fa fb fc : DEx} {ca cb : DTx} {pos : Pos}
def evP : List (DEx × DEx) -> En -> M (List (Key × DV))
  | [], _ => pure []
  | (f, g) :: r, env => do
    let x <- f env
    let k <- YF x
    let y <- g env
    let ps <- evP r env
    pure ((k, y) :: ps)
def QdI (kvs more : List (Key × DV)) : List (Key × DV) := more.foldl (fun acc kv => jK acc kv.1 kv.2) kvs
def jc (ps : List (DEx × DEx)) : DEx := fun env => do
  let kvs <- evP ps env
  Qu (decide (kvs.length <= 15))
  qP (.dic (QdI [] kvs))
def JE : DEx := fun _ => qP (.dic [])
theorem j1 : DE X (.Dict [] [] pos) JE := L2.PE.imp gG fun σ H Q ⟨Z, env, ρ, B, hp, d, hp', S, e, k⟩ => by
  cases e
  intro p hn hk
  have g : Gr X.K ρ B H (ρ ++ [p]) (xJ B p) (upd H p (.dK [])) := Gr.wnew hn hk
  refine k _ _ _ _ g (S.wo.wnew hn hk (RepK.orep (xs := []) .nil Q8)) ?_
  unfold RepV
  exact ⟨p, rfl, by rw [<- S.wo.len]; simp⟩
abbrev NX := Nat -> M (Option DV)
def Qax (K : PySem.W.Frag) (ρ : List Addr) (B : Addr -> Prop) (H : Hp) (nxt : NX) (J : It) : Prop :=
  ∀ ρ1 B1 hp1 H1, Gs K ρ B H ρ1 B1 H1 -> WOk K ρ1 B1 hp1 H1 -> ∀ (i : Nat) (o : Option DV) (hp2 : Hs), nxt i hp1 = some (o, hp2) -> hp2 = hp1 /\ match o with
    | none => J.stop i H1
    | some d => J.go i H1 /\ ∀ x H', J.yld i H1 x H' -> RepV K ρ1 B1 H' d x /\ (H' = H1 ∨ ∃ p o, H1 p = none /\ H' = upd H1 p o)
abbrev DXx := En -> M NX
def tDX (K : PySem.W.Frag) (f : DXx) : TI := fun σ H R => ∃ Z env ρ B hp nxt hp', SOk K Z env σ ρ B hp H /\ f env hp = some (nxt, hp') /\ ∀ J ρ' B' H', Gr K ρ B H ρ' B' H' -> WOk K ρ' B' hp' H' -> Qax K ρ' B' H' nxt J -> R J H'
def DX (X : Cx) (tg iter : Expr) (f : DXx) : Prop := PI X tg iter (tDX X.K f)
def nxD (ds : List DV) : NX := fun i => if i <= ds.length then pure ds[i]? else failure
def nxW (n : Nat) : NX := fun i => do
  match <- Jt n with
  | .lst ds => pure ds[i]?
  | _ => failure
theorem Qac {K : PySem.W.Frag} {ρ : List Addr} {B : Addr -> Prop} {H : Hp} {ds : List DV} {J : It} (h : gM K ρ B H ds J) : Qax K ρ B H (nxD ds) J := fun ρ1 B1 hp1 H1 g W i o hp2 e => by
  unfold nxD at e
  by_cases hi : i <= ds.length
  . rw [if_pos hi] at e
    obtain ⟨rfl, rfl⟩ := Qj e
    obtain ⟨h1, h2⟩ := h ρ1 B1 H1 g W.rb W.bt
    refine ⟨rfl, ?_⟩
    cases q : ds[i]? with
    | none =>
      have : i = ds.length := by have := List.getElem?_eq_none_iff.mp q; omega
      subst this
      exact h2
    | some d => exact h1 i d q
  . rw [if_neg hi] at e; cases e
theorem Qc4 {K : PySem.W.Frag} {ρ : List Addr} {B : Addr -> Prop} {H : Hp} {n : Nat} {a : Addr} (ha : ρ[n]? = some a) (kf : ∀ H1 : Hp, ∀ xs ys, H1 a = some (.lst xs) -> SqL K H1 a ys -> ys = xs) : Qax K ρ B H (nxW n) (Itl K a) := fun ρ1 B1 hp1 H1 g W i o hp2 e => by
  obtain ⟨ob, hp3, e1, e2⟩ := Qf e
  obtain ⟨e3, rfl⟩ := Jl e1
  have ha1 := uy g.pre ha
  cases ob with
  | dic _ => cases e2
  | ins _ _ => cases e2
  | lst ds =>
    obtain ⟨rfl, rfl⟩ := Qj e2
    obtain ⟨xs, h1, l1⟩ := W.obj n a _ ha1 e3
    refine ⟨rfl, ?_⟩
    cases q : ds[i]? with
    | none => exact ⟨xs, SqL.of h1, by rw [<- l1.length]; exact List.getElem?_eq_none_iff.mp q⟩
    | some d =>
      obtain ⟨x, hx, rx⟩ := l1.get q
      refine ⟨⟨xs, x, SqL.of h1, hx⟩, fun y H' ⟨eH, hy⟩ => ?_⟩
      subst eH
      have := hy xs (SqL.of h1)
      rw [hx] at this; cases this
      exact ⟨rx, .inl rfl⟩
theorem Qaz {K : PySem.W.Frag} {a : Addr} (hk : K.lookup a = none) (H : Hp) (xs ys : List V) (h : H a = some (.lst xs)) (h' : SqL K H a ys) : ys = xs := by
  rcases h' with (h' | ⟨o, h'⟩) | ⟨o, _, _, h', _⟩
  . rw [h] at h'; cases h'; rfl
  . rw [h] at h'; cases h'
  . rw [hk] at h'; cases h'
def xOf (f : DIx) : DXx := fun env => do let ds <- f env; pure (nxD ds)
def xLs (f : DEx) : DXx := fun env => do
  match <- f env with
  | .lst ds => pure (nxD ds)
  | .ref n => do
    match <- Jt n with
    | .lst _ => pure (nxW n)
    | _ => failure
  | _ => failure
variable {tg iter : Expr}
theorem ur {g : DIx} (h : DI X tg iter g) : DX X tg iter (xOf g) := L2.PI.imp h fun σ H R ⟨Z, env, ρ, B, hp, nxt, hp', S, e, k⟩ => by
  obtain ⟨ds, hp1, e1, e2⟩ := Qf e
  obtain ⟨rfl, rfl⟩ := Qj e2
  exact ⟨Z, env, ρ, B, hp, ds, hp1, S, e1, fun J ρ' B' H' g W it => k J ρ' B' H' g W (Qac it)⟩
theorem vX (h : DE X iter f) : DX X tg iter (xLs f) := L2.PI.imp (QbP (L2.PE.kf h)) fun σ H R ⟨Z, env, ρ, B, hp, nxt, hp', S, e, k⟩ => by
  obtain ⟨d, hp1, e1, e2⟩ := Qf e
  refine tD.run S e1 fun v ρ1 B1 H1 g1 S1 r1 kf => ?_
  cases d with
  | lst ds =>
    obtain ⟨rfl, rfl⟩ := Qj e2
    obtain ⟨a, xs, rfl, nb, sq, rl⟩ := r1.lstI
    exact ⟨a, rfl, ⟨xs, sq⟩, k _ ρ1 B1 H1 g1 S1.wo (Qac (Qb1 nb sq rl))⟩
  | ref n =>
    obtain ⟨o, hp2, e3, e4⟩ := Qf (show (Jt n >>= fun o => (match o with | .lst _ => pure (nxW n) | _ => failure : M NX)) hp1 = some (nxt, hp') from e2)
    obtain ⟨e5, e6⟩ := Jl e3
    cases o with
    | lst ds =>
      obtain ⟨rfl, z⟩ := Qj e4
      rw [<- z, <- e6] at k
      obtain ⟨a, rfl, i1, xs, h1, _⟩ := RepV.refW S1.wo r1 e5
      exact ⟨a, rfl, ⟨xs, SqL.of h1⟩, k _ ρ1 B1 H1 g1 S1.wo (Qc4 i1 (Qaz (kf a _ h1)))⟩
    | dic _ => cases e4
    | ins _ _ => cases e4
  | non => cases e2
  | bl _ => cases e2
  | int _ => cases e2
  | str _ => cases e2
  | tup _ => cases e2
def xw (nxt : NX) (b : DV -> DSx) : Nat -> Nat -> DSx
  | 0, _, _ => failure
  | m + 1, i, env => do
    match <- nxt i with
    | none => pure (.nx, env)
    | some d => do
      let r <- b d env
      match r.1 with
      | .nx => xw nxt b m (i + 1) r.2
      | .ct => xw nxt b m (i + 1) r.2
      | .bk => pure (.nx, r.2)
      | .rt x => pure (.rt x, r.2)
def Ut (f : DXx) (g : DGx) (body : DSx) : DSx := fun env => do let nxt <- f env; xw nxt (fun d env => do let env' <- g d env; body env') 100000 0 env
theorem vP {body : List Stmt} {fi : DXx} {g : DGx} {sb : DSx} (hp : PassesOwn (model X.prog X.w) X.A X.env X.xe) (hc : X.calm = true) (hi : DX X tg iter fi) (hg : PG X tg (tDG X.K g)) (hb : DSs X body sb)
    (hs : ∀ x, foldedSetIterable iter X.env x = pure x := by intro _; rfl) : DS X (.For tg iter body [] pos) (Ut fi g sb) :=
  (kx hp hc hi hg hb hs).imp fun D σ H ⟨Z, env, ρ, B, hp, fl, env', hp', S, e, k⟩ => by
    obtain ⟨nxt, hp1, e1, e2⟩ := Qf e
    refine ⟨Z, env, ρ, B, hp, nxt, hp1, S, e1, fun J ρ1 B1 H1 g1 W1 it => ?_⟩
    have k1 := k.after (g1.gs S.wo.rb)
    refine ⟨fun i m σ H => ∃ env ρ B hp, SOk X.K Z env σ ρ B hp H /\ Gs X.K ρ1 B1 H1 ρ B H /\ xw nxt (fun d env => do let env' <- g d env; sb env') m i env hp = some ((fl, env'), hp'),
      ⟨100000, env, ρ1, B1, hp1, S.grow g1 W1, Gs.refl, e2⟩, ?_⟩
    rintro i m σ H ⟨env2, ρ2, B2, hp2, S2, g2, e3⟩
    cases m with
    | zero => cases e3
    | succ m =>
      obtain ⟨o, hpo, eo, e3⟩ := Qf e3
      obtain ⟨rfl, ito⟩ := it ρ2 B2 hp2 H g2 S2.wo i o hpo eo
      cases o with
      | none =>
        obtain ⟨z, rfl⟩ := Qj e3; cases z
        exact .inl ⟨ito, k1 σ ρ2 B2 H g2 S2⟩
      | some d =>
        obtain ⟨go, yl⟩ := ito
        obtain ⟨⟨f1, env4⟩, hp4, e4, e5⟩ := Qf e3
        obtain ⟨env3, hp3, e6, e7⟩ := Qf e4
        refine .inr ⟨go, fun σ' H' => ∃ env ρ B hp, SOk X.K Z env σ' ρ B hp H' /\ Gs X.K ρ1 B1 H1 ρ B H' /\ xw nxt (fun d env => do let env' <- g d env; sb env') m (i + 1) env hp = some ((fl, env'), hp'),
          fun σ' H' q => ⟨m, Nat.lt_succ_self m, q⟩, fun x H' y => ?_⟩
        obtain ⟨rx, hx⟩ := yl x H' y
        have S3 : SOk X.K Z env2 σ ρ2 B2 hpo H' /\ Gs X.K ρ2 B2 H ρ2 B2 H' := by
          rcases hx with rfl | ⟨p, o, hn, rfl⟩
          . exact ⟨S2, Gs.refl⟩
          . exact ⟨S2.grow (Gr.laid hn) (S2.wo.laid hn), G1 S2.wo.rb hn⟩
        refine ⟨Z, env2, ρ2, B2, hpo, d, env3, hp3, S3.1, rx, e6, fun σ5 ρ5 B5 H5 g5 S5 => ⟨Z, env3, ρ5, B5, hp3, f1, env4, hp4, S5, e7, fun σ6 ρ6 B6 H6 g6 S6 => ?_⟩⟩
        have G6 := g2.trans (S3.2.trans (g5.trans g6))
        cases f1 with
        | nx => exact ⟨env4, ρ6, B6, hp4, S6, G6, e5⟩
        | ct => exact ⟨env4, ρ6, B6, hp4, S6, G6, e5⟩
        | bk => obtain ⟨z, rfl⟩ := Qj e5; cases z; exact k1 σ6 ρ6 B6 H6 G6 S6
        | rt d => obtain ⟨z, rfl⟩ := Qj e5; cases z; exact k1 σ6 ρ6 B6 H6 G6 S6
def Xf (nxt : NX) (g : DV -> M Bool) (f : DV -> M DV) : Nat -> Nat -> M (List DV)
  | 0, _ => failure
  | m + 1, i => do
    match <- nxt i with
    | none => pure []
    | some d => do
      if <- g d then
        let y <- f d
        let ys <- Xf nxt g f m (i + 1)
        pure (y :: ys)
      else Xf nxt g f m (i + 1)
def YD (nw : Bool) (src : DXx) (idx : List Nat) (t : DTx) (f : DEx) : DEx := fun env => do
  let nxt <- src env
  let out <- Xf nxt (fun d => t (cE idx env d)) (fun d => f (cE idx env d)) lim 0
  if nw then qP (.lst out) else pure (.lst out)
variable {elt : Expr} {x : Str} {px : Pos} {ifs : List Expr} {scope : Scope} {cl : List (Str × Addr)} {caps : List Str} {idx : List Nat} {src : DXx} {te : DTx} {nw : Bool}
theorem yZ {K : PySem.W.Frag} {σ : St} {H : Hp} {Q : VK} (h : tD K (YD nw src idx te f) σ H Q) : Gi K (tDX K src) (tDT K te) (tD K f) idx σ H Q := by
  obtain ⟨Z, env, ρ, B, hp, d, hp', S, e, k⟩ := h
  obtain ⟨nxt, hp1, e1, e2⟩ := Qf e
  obtain ⟨out, hp3, e5, e6⟩ := Qf e2
  refine ⟨Z, env, ρ, B, hp, nxt, hp1, S, e1, fun J ρ1 B1 H1 g1 W1 it D hD hK => ?_⟩
  have g1s := g1.gs S.wo.rb
  refine ⟨fun i m ys H2 => H2 D = some (.lst ys) /\ i + m = lim /\ ∃ ρ2 B2 hp2 don rst, Gr K ρ1 B1 H1 ρ2 B2 H2 /\ WOk K ρ2 B2 hp2 H2 /\ B2 D /\ D ∉ ρ2 /\ RepL K ρ2 B2 H2 don ys /\ don.length <= i /\
    Xf nxt (fun d => te (cE idx env d)) (fun d => f (cE idx env d)) m i hp2 = some (rst, hp3) /\ don ++ rst = out, ?_, ?_⟩
  . exact ⟨lim, Q8, Nat.zero_add _, ρ1, xJ B1 D, hp1, [], out, Gr.banned hD hK, W1.banned hD hK, .inr rfl, fun z => W1.bt D (W1.rb D z) hD, RepL.nil, Nat.le_refl _, e5, rfl⟩
  . rintro i m ys H2 ⟨hDs, him, ρ2, B2, hp2, don, rst, g2, W2, bD, nD, rd, dn, e7, e8⟩
    refine ⟨hDs, ?_⟩
    cases m with
    | zero => cases e7
    | succ m =>
      obtain ⟨o, hpo, eo, e7⟩ := Qf e7
      obtain ⟨rfl, ito⟩ := it ρ2 B2 hp2 H2 (g2.gs W1.rb) W2 i o hpo eo
      cases o with
      | some d0 =>
        obtain ⟨go, yl⟩ := ito
        obtain ⟨b, hp4, e9, e10⟩ := Qf e7
        refine .inr ⟨go, fun x H3 y => ?_⟩
        obtain ⟨rx, hx⟩ := yl x H3 y
        have S3 : Gr K ρ2 B2 H2 ρ2 B2 H3 /\ WOk K ρ2 B2 hpo H3 := by
          rcases hx with rfl | ⟨p, o, hn, rfl⟩
          . exact ⟨Gr.refl, W2⟩
          . exact ⟨Gr.laid hn, W2.laid hn⟩
        have g3 := g2.trans S3.1
        have C3 := cσ_ok (idx := idx) S (g1s.trans (g3.gs W1.rb)) S3.2 rx
        refine tDT.run C3 e9 fun ρ4 B4 H4 g4 S4 => ?_
        have hD4 : H4 D = some (.lst ys) := g4.keep D _ nD (S3.1.keep D _ nD hDs)
        have nD4 : D ∉ ρ4 := fun z => (g4.rnew D z).elim nD fun q => by rw [S3.1.keep D _ nD hDs] at q; cases q
        cases b with
        | false =>
          exact Kq ⟨m, Nat.lt_succ_self m, hD4, by omega, ρ4, B4, hp4, don, rst, g3.trans g4, S4.wo, g4.ban D bD, nD4, RepL.grow W2.rb (S3.1.trans g4) _ _ rd, by omega, e10, e8⟩
        | true =>
          obtain ⟨z, hp5, e11, e12⟩ := Qf e10
          obtain ⟨zs, hp6, e13, e14⟩ := Qf e12
          obtain ⟨rfl, rfl⟩ := Qj e14
          refine UT (tD.run S4 e11 fun v ρ5 B5 H5 g5 S5 r5 => ?_)
          have hD5 : H5 D = some (.lst ys) := g5.keep D _ nD4 hD4
          have nD5 : D ∉ ρ5 := fun z => (g5.rnew D z).elim nD4 fun q => by rw [hD4] at q; cases q
          have bD5 : B5 D := g5.ban D (g4.ban D bD)
          have G5 := g3.trans (g4.trans g5)
          have rd5 := RepL.grow W2.rb (S3.1.trans (g4.trans g5)) _ _ rd
          have trk : ∀ b, (upd H5 D (.lst (ys ++ [v]))) b = none -> H5 b = none := fun b q => by
            by_cases e : b = D
            . subst e; rw [Q8] at q; cases q
            . rw [QS e] at q; exact q
          have g6 : Gs K ρ5 B5 H5 ρ5 B5 (upd H5 D (.lst (ys ++ [v]))) := ⟨List.prefix_rfl, fun _ h => .inl h, fun b o nb h => by rw [QS (show b ≠ D from fun z => nb (by rw [z]; exact bD5))]; exact h, trk⟩
          refine ⟨hD5, ?_, m, Nat.lt_succ_self m, Q8, by omega, ρ5, B5, hp5, don ++ [z], zs, ?_, ?_, bD5, nD5, RepL.gs g6 _ _ (RepL.append rd5 (RepL.one r5)), by simp; omega, e13, by rw [<- e8]; simp⟩
          . have h1 := rd5.length
            have h2 : lim < sizeLine := by decide
            omega
          . exact ⟨G5.pre, G5.ban, G5.new, G5.rnew, fun b o nb h => by rw [QS (show b ≠ D from fun q => by rw [q, hD] at h; cases h)]; exact G5.keep b o nb h, fun b q => G5.trk b (trk b q)⟩
          . exact ⟨S5.wo.len, S5.wo.nd, fun j b o q1 q2 => ORep.gs g6 (QS (show b ≠ D from fun z => nD5 (by rw [<- z]; exact List.mem_of_getElem? q1))) (S5.wo.obj j b o q1 q2), S5.wo.rb, fun b z q => S5.wo.bt b z (trk b q), S5.wo.bk⟩
      | none =>
        obtain ⟨z, z'⟩ := Qj e7
        subst z
        subst z'
        refine .inl ⟨ito, ?_⟩
        rw [List.append_nil] at e8
        subst e8
        cases nw with
        | false =>
          obtain ⟨rfl, rfl⟩ := Qj (show (pure (.lst don) : M DV) hpo = some (d, hp') from e6)
          have gU : Gs K ρ2 B2 H2 ρ2 (fun b => B2 b /\ b ≠ D) H2 := ⟨List.prefix_rfl, fun _ h => .inl h.1, fun _ _ _ h => h, fun _ h => h⟩
          refine k (.ref D) ρ2 (fun b => B2 b /\ b ≠ D) H2 (g1.trans ⟨g2.pre, fun b z => ⟨g2.ban b z, fun q => W1.bt b z (q ▸ hD)⟩, fun b z => g2.new b z.1, g2.rnew, g2.keep, g2.trk⟩)
            ⟨W2.len, W2.nd, fun j b o q1 q2 => ORep.gs gU rfl (W2.obj j b o q1 q2), fun b z => ⟨W2.rb b z, fun q => nD (q ▸ z)⟩, fun b z => W2.bt b z.1, fun b z => W2.bk b z.1⟩ (yD (fun z => z.2 rfl) (SqL.of hDs) (RepL.gs gU _ _ rd))
        | true =>
          cases (show some (DV.ref hpo.length, hpo ++ [OV.lst don]) = some (d, hp') from e6)
          have gU : Gs K ρ2 B2 H2 (ρ2 ++ [D]) B2 H2 := ⟨List.prefix_append _ _, fun _ h => .inl h, fun _ _ _ h => h, fun _ h => h⟩
          refine k (.ref D) (ρ2 ++ [D]) B2 H2 (g1.trans ⟨g2.pre.trans (List.prefix_append _ _), g2.ban, g2.new, fun a z => (List.mem_append.mp z).elim (g2.rnew a) fun q => .inr (by rw [List.mem_singleton.mp q]; exact hD), g2.keep, g2.trk⟩)
            ⟨by simp [W2.len], List.nodup_append.mpr ⟨W2.nd, by simp, fun a ha b hb => by rw [List.mem_singleton.mp hb]; exact fun z => nD (z ▸ ha)⟩, fun j b o q1 q2 => ?_, fun b z => (List.mem_append.mp z).elim (W2.rb b) fun q => by rw [List.mem_singleton.mp q]; exact bD, W2.bt, W2.bk⟩ ?_
          . by_cases hi : j < ρ2.length
            . rw [List.getElem?_append_left hi] at q1
              rw [List.getElem?_append_left (by rw [<- W2.len]; exact hi)] at q2
              exact ORep.gs gU rfl (W2.obj j b o q1 q2)
            . rw [List.getElem?_append_right (by omega)] at q1
              rw [List.getElem?_append_right (by rw [<- W2.len]; omega)] at q2
              have hi0 : j - ρ2.length = 0 := by
                have := (List.getElem?_eq_some_iff.mp q1).1
                simp at this; omega
              rw [hi0] at q1
              rw [<- W2.len, hi0] at q2
              simp at q1 q2
              subst q1 q2
              exact ⟨ys, hDs, RepL.gs gU _ _ rd⟩
          . unfold RepV
            exact ⟨D, rfl, by rw [<- W2.len]; simp⟩
theorem QaT (S : Ui X x scope cl caps idx) (hc : X.calm = true) (hi : DX X (.Name x px) iter src)
    (ht : ∀ C s₀ H₀ ex, DTs (XN X scope cl C (x :: caps) s₀ H₀ ex) ifs te) (he : ∀ C s₀ H₀ ex, DE (XN X scope cl C (x :: caps) s₀ H₀ ex) elt f)
    (hs : ∀ x, foldedSetIterable iter X.env x = pure x := by intro _; rfl) : DE X (.ListComp elt [⟨.Name x px, iter, ifs, 0⟩] scope pos) (YD nw src idx te f) :=
  L2.PE.imp (ug (tt := tDT X.K te) (te := tD X.K f) S hc hi ht he hs) fun _ _ _ h => yZ h
theorem Ve (i : Nat) {y : Str} {py spos : Pos} (hN : X.N.Nodup) (S : Ui X x scope cl caps idx) (hc : X.calm = true) (hi : DX X (.Name x px) iter src)
    (ht : ∀ C s₀ H₀ ex, DTs (XN X scope cl C (x :: caps) s₀ H₀ ex) ifs te) (he : ∀ C s₀ H₀ ex, DE (XN X scope cl C (x :: caps) s₀ H₀ ex) elt f)
    (hy : X.N[i]? = some y := by rfl) (hx : Loc X.env.scope y := by first | exact Or.inl rfl | exact Or.inr rfl)
    (hsw : swapsWith (.ListComp elt [⟨.Name x px, iter, ifs, 0⟩] scope pos) (some (.Name y py)) spos.line X.env = pure true := by with_unfolding_all rfl)
    (hf : X.fn y = true ∨ X.env.scope.names.lookup y = some .local := by first | exact .inl rfl | exact .inr rfl | assumption)
    (hs : ∀ x, foldedSetIterable iter X.env x = pure x := by intro _; rfl) : DS X (.Assign [.Name y py] (.ListComp elt [⟨.Name x px, iter, ifs, 0⟩] scope pos) spos) (QC i (YD nw src idx te f)) :=
  L2.PS.imp (Qcu (tt := tDT X.K te) (te := tD X.K f) S hc hi ht he hN hy hx hsw hf hs) fun _ _ _ h => K8 (fun _ _ _ q => yZ q) h
end
end D
namespace D
open PySem PySem.Spec PyProof.Rows L2
def WP {α : Type} (m : M α) (hp : Hs) (Q : α -> Hs -> Prop) : Prop := ∃ x hp', m hp = some (x, hp') /\ Q x hp'
section
variable {α β : Type} {m : M α} {k : α -> M β} {hp : Hs} {Q : α -> Hs -> Prop} {R : β -> Hs -> Prop}
theorem WP_pure {x : α} : WP (pure x) hp Q ↔ Q x hp := ⟨fun ⟨y, h, e, q⟩ => by obtain ⟨rfl, rfl⟩ := Qj e; exact q, fun q => ⟨x, hp, rfl, q⟩⟩
theorem yJ : WP (m >>= k) hp R ↔ WP m hp fun x h => WP (k x) h R := ⟨fun ⟨y, h, e, q⟩ => by obtain ⟨x, h1, e1, e2⟩ := Qf e; exact ⟨x, h1, e1, y, h, e2, q⟩, fun ⟨x, h1, e1, y, h, e2, q⟩ => ⟨y, h, (Qi e1).trans e2, q⟩⟩
theorem WP.mono {Q' : α -> Hs -> Prop} (h : WP m hp Q) (hq : ∀ x h, Q x h -> Q' x h) : WP m hp Q' := let ⟨x, h1, e, q⟩ := h; ⟨x, h1, e, hq x h1 q⟩
theorem WP.of {x : α} {hp' : Hs} (e : m hp = some (x, hp')) (q : Q x hp') : WP m hp Q := ⟨x, hp', e, q⟩
end
section
variable {hp : Hs} {env : En} {Q : Fl × En -> Hs -> Prop}
theorem jJ {b : DV -> DSx} (I : Nat -> En -> Hs -> Prop) (ds : List DV) (h0 : I 0 env hp) (hs : ∀ (i : Nat) d, ds[i]? = some d -> ∀ env hp, I i env hp -> WP (b d env) hp fun r h => match r.1 with
    | .nx => I (i + 1) r.2 h
    | .ct => I (i + 1) r.2 h
    | .bk => Q (.nx, r.2) h
    | .rt x => Q (.rt x, r.2) h) (he : ∀ env hp, I ds.length env hp -> Q (.nx, env) hp) : WP (jV b ds env) hp Q := by
  suffices h : ∀ (m i : Nat) env hp, m + i = ds.length -> I i env hp -> WP (jV b (ds.drop i) env) hp Q by simpa using h ds.length 0 env hp rfl h0
  intro m
  induction m with
  | zero =>
    intro i env hp e hI
    have : i = ds.length := by omega
    subst this
    rw [List.drop_length]
    exact WP_pure.mpr (he env hp hI)
  | succ m ih =>
    intro i env hp e hI
    have hlt : i < ds.length := by omega
    rw [List.drop_eq_getElem_cons hlt, jV, yJ]
    refine (hs i ds[i] (List.getElem?_eq_getElem hlt) env hp hI).mono fun r h q => ?_
    obtain ⟨fl, env1⟩ := r
    cases fl with
    | nx => exact ih (i + 1) env1 h (by omega) q
    | ct => exact ih (i + 1) env1 h (by omega) q
    | bk => exact WP_pure.mpr q
    | rt x => exact WP_pure.mpr q
theorem uP {nxt : NX} {b : DV -> DSx} (ds : List DV) (I : Nat -> En -> Hs -> Prop) (hl : ds.length < 100000) (hn : ∀ (i : Nat) env hp, i <= ds.length -> I i env hp -> nxt i hp = some (ds[i]?, hp)) (h0 : I 0 env hp) (hs : ∀ (i : Nat) d, ds[i]? = some d -> ∀ env hp, I i env hp -> WP (b d env) hp fun r h => match r.1 with
    | .nx => I (i + 1) r.2 h
    | .ct => I (i + 1) r.2 h
    | .bk => Q (.nx, r.2) h
    | .rt x => Q (.rt x, r.2) h) (he : ∀ env hp, I ds.length env hp -> Q (.nx, env) hp) : WP (xw nxt b 100000 0 env) hp Q := by
  suffices h : ∀ (m i n : Nat) env hp, m + i = ds.length -> m < n -> I i env hp -> WP (xw nxt b n i env) hp Q from h ds.length 0 100000 env hp rfl hl h0
  intro m
  induction m with
  | zero =>
    intro i n env hp e hn' hI
    have : i = ds.length := by omega
    subst this
    obtain ⟨n, rfl⟩ : ∃ k, n = k + 1 := ⟨n - 1, by omega⟩
    rw [xw, yJ]
    refine WP.of (hn _ env hp (Nat.le_refl _) hI) ?_
    rw [show ds[ds.length]? = none by simp]
    exact WP_pure.mpr (he env hp hI)
  | succ m ih =>
    intro i n env hp e hn' hI
    have hlt : i < ds.length := by omega
    obtain ⟨n, rfl⟩ : ∃ k, n = k + 1 := ⟨n - 1, by omega⟩
    rw [xw, yJ]
    refine WP.of (hn i env hp (by omega) hI) ?_
    simp only [List.getElem?_eq_getElem hlt]
    rw [yJ]
    refine (hs i ds[i] (List.getElem?_eq_getElem hlt) env hp hI).mono fun r h q => ?_
    obtain ⟨fl, env1⟩ := r
    cases fl with
    | nx => exact ih (i + 1) n env1 h (by omega) (by omega) q
    | ct => exact ih (i + 1) n env1 h (by omega) (by omega) q
    | bk => exact WP_pure.mpr q
    | rt x => exact WP_pure.mpr q
theorem zg (ds : List DV) (i : Nat) (h : i <= ds.length) (hp : Hs) : nxD ds i hp = some (ds[i]?, hp) := by unfold nxD; rw [if_pos h]; rfl
theorem QdS {n : Nat} {ds : List DV} {hp : Hs} (h : hp[n]? = some (.lst ds)) (i : Nat) : nxW n i hp = some (ds[i]?, hp) := by
  unfold nxW
  have : Jt n hp = some (.lst ds, hp) := by unfold Jt; rw [h]
  rw [Qi this]; rfl
theorem kM {b : DV -> DSx} (ds : List DV) (I : Nat -> En -> Hs -> Prop) (hl : ds.length < 100000) (h0 : I 0 env hp) (hs : ∀ (i : Nat) d, ds[i]? = some d -> ∀ env hp, I i env hp -> WP (b d env) hp fun r h => match r.1 with
    | .nx => I (i + 1) r.2 h
    | .ct => I (i + 1) r.2 h
    | .bk => Q (.nx, r.2) h
    | .rt x => Q (.rt x, r.2) h) (he : ∀ env hp, I ds.length env hp -> Q (.nx, env) hp) : WP (xw (nxD ds) b 100000 0 env) hp Q :=
  uP ds I hl (fun i env hp h _ => zg ds i h hp) h0 hs he
end
theorem uA (n : Nat) (hp : Hs) (i : Int) : drf (n + 1) hp (.int i) = some (.int i) := rfl
theorem Qae (n : Nat) (hp : Hs) (b : Bool) : drf (n + 1) hp (.bl b) = some (.bl b) := rfl
theorem vZ (n : Nat) (hp : Hs) (b : Str) : drf (n + 1) hp (.str b) = some (.str b) := rfl
theorem Uy {α : Type} {f : α -> Option α} : ∀ {xs : List α}, (∀ x ∈ xs, f x = some x) -> xs.mapM f = some xs
  | [], _ => rfl
  | x :: xs, h => by
    rw [List.mapM_cons, h x (by simp), Uy fun y hy => h y (List.mem_cons_of_mem _ hy)]; rfl
theorem kL (n : Nat) (hp : Hs) (ns : List Int) : (ns.map DV.int).mapM (drf (n + 1) hp) = some (ns.map .int) := Uy fun x hx => by
  obtain ⟨i, _, rfl⟩ := List.mem_map.mp hx; rfl
theorem Qbc (n : Nat) (hp : Hs) (ns : List Int) : drf (n + 2) hp (.lst (ns.map .int)) = some (.lst (ns.map .int)) := by
  show ((ns.map DV.int).mapM (drf (n + 1) hp)).map DV.lst = _
  rw [kL]; rfl
theorem vO {d d' : DV} {hp : Hs} (h : drf 40 hp d = some d') : QaZ d hp = some (d', hp) := by unfold QaZ; rw [h]; rfl
theorem xj {x y x' y' : DV} {hp : Hs} (hx : drf 40 hp x = some x') (hy : drf 40 hp y = some y') (s1 : okP x' = true) (s2 : okP y' = true) : V7 x y hp = some (PyData.eqv (toP x') (toP y'), hp) := by
  unfold V7
  simp only [okP, Bool.and_eq_true] at s1 s2
  rw [Qi (vO hx), Qi (vO hy)]
  simp only [s1.2, s2.2, Bool.and_self, Qu, if_true, pure_bind]
  rfl
theorem KY (i j : Int) (hp : Hs) : V7 (.int i) (.int j) hp = some (i == j, hp) := xj (uA 39 hp i) (uA 39 hp j) (yH i) (yH j)
theorem QaD (a b : Option Int) (hp : Hs) : V7 (opt a) (opt b) hp = some (decide (a = b), hp) := by
  have e : ∀ c : Option Int, drf 40 hp (opt c) = some (opt c) := fun c => by cases c <;> rfl
  have s : ∀ c : Option Int, okP (opt c) = true := fun c => by cases c <;> rfl
  rw [xj (e a) (e b) (s a) (s b)]
  cases a with
  | none => cases b <;> simp [opt, toP, PyData.eqv]
  | some i =>
    cases b with
    | none => simp [opt, toP, PyData.eqv]
    | some j => simp only [opt, toP, PyData.eqv, Option.some.injEq]; congr 1
end D
namespace D
open PySem PySem.Spec PyProof.Rows L2
theorem Ur (p : Key × DV) (r : List (Key × DV)) (j : Key) : YU (p :: r) j = if p.1 = j then some p.2 else YU r j := by
  by_cases e : p.1 = j
  . simp [YU, List.find?_cons, e]
  . simp [YU, List.find?_cons, e]
theorem QaR (kvs : List (Key × DV)) (k : Key) (d : DV) : (jK kvs k d).length <= kvs.length + 1 := by
  unfold jK; split <;> simp
theorem Z3 {n : Nat} {o : OV} {hp : Hs} (h : hp[n]? = some o) : Jt n hp = some (o, hp) := by unfold Jt; rw [h]
theorem Vf {n : Nat} {kvs : List (Key × DV)} {hp : Hs} {i d : DV} {k : Key} (h : hp[n]? = some (.dic kvs)) (hk : qO i = some k) (hl : kvs.length < 100000) : jR (.ref n) i d hp = some ((), hp.set n (.dic (jK kvs k d))) := by
  show (Jt n >>= _) hp = _
  rw [Qi (Z3 h)]
  have e1 : YF i hp = some (k, hp) := by unfold YF; rw [hk]; rfl
  have e2 : Qu (decide (kvs.length < lim)) hp = some ((), hp) := by rw [show decide (kvs.length < lim) = true from decide_eq_true hl]; rfl
  show (YF i >>= fun k => Qu (decide (kvs.length < lim)) >>= fun _ => jX n (.dic (jK kvs k d))) hp = _
  rw [Qi e1, Qi e2]; rfl
theorem yE {f : DEx} {g : DGx} {env env' : En} {d : DV} {hp hp1 hp2 : Hs} (h : f env hp = some (d, hp1)) (h' : g d env hp1 = some (env', hp2)) : Yw f g env hp = some ((.nx, env'), hp2) := by
  unfold Yw
  rw [Qi h, Qi h']; rfl
theorem Xl {α : Type} {m : M α} {x : α} (h : m = pure x) (hp : Hs) : m hp = some (x, hp) := by rw [h]; rfl
theorem Qat {c : DTx} {f g : DSx} {env : En} {b : Bool} {hp hp1 : Hs} (h : c env hp = some (b, hp1)) : sIf c f g env hp = if b = true then f env hp1 else g env hp1 := by
  unfold sIf
  rw [Qi h]
  cases b <;> rfl
theorem QU {f : DEx} {env : En} {b : Bool} {hp hp1 : Hs} (h : f env hp = some (.bl b, hp1)) : eB f env hp = some (b, hp1) := by
  unfold eB
  rw [Qi h]; rfl
theorem Ql {g : DV -> DV -> M DV} {f f' : DEx} {env : En} {x y d : DV} {hp hp1 hp2 hp3 : Hs} (h : f env hp = some (x, hp1)) (h' : f' env hp1 = some (y, hp2)) (hg : g x y hp2 = some (d, hp3)) : Qh g f f' env hp = some (d, hp3) := by
  unfold Qh
  rw [Qi h, Qi h', hg]
theorem Q7 {f : DEx} {env : En} {d : DV} {hp hp1 : Hs} (h : f env hp = some (d, hp1)) : QF f env hp = some ((.rt d, env), hp1) := by
  unfold QF
  rw [Qi h]; rfl
theorem ZQ {f g : DSx} {env env1 : En} {d : DV} {hp hp1 : Hs} (h : f env hp = some ((.rt d, env1), hp1)) : Qr f g env hp = some ((.rt d, env1), hp1) := by
  unfold Qr
  rw [Qi h]; rfl
theorem XR {f : DEx} {env : En} {d : DV} {hp hp1 : Hs} (h : f env hp = some (d, hp1)) : Jo f env hp = some ((.nx, env), hp1) := by
  unfold Jo
  rw [Qi h]; rfl
theorem QY {n : Nat} {body : DSx} {ds : List DV} {d : DV} {env : En} {hp hp1 : Hs} (h : body (ds.map .val ++ List.replicate (n - ds.length) .un) hp = some ((.rt d, env), hp1)) : Q1 n body ds hp = some (d, hp1) := by
  unfold Q1
  rw [Qi h]; rfl
theorem zd {c : DTx} {env : En} {b : Bool} {hp hp1 : Hs} (h : c env hp = some (b, hp1)) : JT c env hp = some (!b, hp1) := by
  unfold JT
  rw [Qi h]; rfl
end D
namespace D
open PySem PySem.Spec PyProof.Rows L2
abbrev ClsN (K : PySem.W.Frag) (c : Str) (C : Addr) : Prop := PySem.W.nsIn K mainGlobals c = some (some (.ref C))
theorem ClsN.uniq {K : PySem.W.Frag} {c : Str} {C C' : Addr} (h : ClsN K c C) (h' : ClsN K c C') : C = C' := by
  have e := h.symm.trans h'; cases e; rfl
structure QZ (K : PySem.W.Frag) (c f : Str) : Prop where
  ex : ∃ C, ClsN K c C /\ Cls K C /\ NoAttr K C f
structure ZP (P : Program) (w : World) (K : PySem.W.Frag) (mg : Str -> Option Value) (base : Heap) (c m : Str) (k n : Nat) (F : List DV -> M DV) : Prop where
  ex : ∃ (C f : Addr) (fd : FuncData) (ps : List Str), ClsN K c C /\ Cls K C /\ Ym K C m f /\ zF P w K mg base CX0 k f fd ps (spD K n F) /\ Binds K fd ps []
structure G3 (P : Program) (w : World) (K : PySem.W.Frag) (mg : Str -> Option Value) (base : Heap) (c : Str) (k n : Nat) (F : List DV -> M DV) : Prop where
  ex : ∃ (C f : Addr) (fd : FuncData) (ps : List Str), ClsN K c C /\ mg c = some (.ref C) /\ Mk K C f /\ zF P w K mg base CX0 k f fd ps (spD K n F) /\ Binds K fd ps []
section
variable {K : PySem.W.Frag} {ρ : List Addr} {B : Addr -> Prop} {H : Hp} {hp : Hs}
abbrev RepF (K : PySem.W.Frag) (ρ : List Addr) (B : Addr -> Prop) (H : Hp) : List (Str × DV) -> List (Str × V) -> Prop := Paired fun p q => p.1 = q.1 /\ RepV K ρ B H p.2 q.2
theorem ud : ∀ {fs : List (Str × DV)} {xs : List (Str × V)}, xs.map (·.1) = fs.map (·.1) -> RepL K ρ B H (fs.map (·.2)) (xs.map (·.2)) -> RepF K ρ B H fs xs
  | [], [], _, _ => .nil
  | [], _ :: _, e, _ => by simp at e
  | _ :: _, [], e, _ => by simp at e
  | p :: fs, q :: xs, e, r => by
    simp only [List.map_cons, List.cons.injEq] at e
    simp only [List.map_cons] at r
    unfold RepL at r
    obtain ⟨x, t, e2, h1, h2⟩ := r
    simp only [List.cons.injEq] at e2
    obtain ⟨rfl, rfl⟩ := e2
    exact .cons ⟨e.1.symm, h1⟩ (ud e.2 h2)
theorem RepF.to {fs : List (Str × DV)} {xs : List (Str × V)} (r : RepF K ρ B H fs xs) : xs.map (·.1) = fs.map (·.1) /\ RepL K ρ B H (fs.map (·.2)) (xs.map (·.2)) := by
  induction r with
  | nil => exact ⟨rfl, RepL.nil⟩
  | cons h _ ih => exact ⟨by simp [ih.1, h.1], by simpa using RepL.cons h.2 ih.2⟩
theorem RepF.look {fs : List (Str × DV)} {xs : List (Str × V)} (r : RepF K ρ B H fs xs) (f : Str) : (fs.lookup f = none /\ xs.lookup f = none) ∨ ∃ d v, fs.lookup f = some d /\ xs.lookup f = some v /\ RepV K ρ B H d v := by
  induction r with
  | nil => exact .inl ⟨rfl, rfl⟩
  | @cons p q _ _ h _ ih =>
    obtain ⟨p1, p2⟩ := p
    obtain ⟨q1, q2⟩ := q
    obtain ⟨h1, h2⟩ := h
    have h1 : p1 = q1 := h1
    subst h1
    cases e : f == p1 with
    | true => exact .inr ⟨p2, q2, by simp [List.lookup, e], by simp [List.lookup, e], h2⟩
    | false => simpa [List.lookup, e] using ih
def XH (f : Str) (d : DV) : List (Str × DV) -> List (Str × DV)
  | [] => [(f, d)]
  | (g, x) :: r => if g = f then (g, d) :: r else (g, x) :: XH f d r
theorem RepF.put {fs : List (Str × DV)} {xs : List (Str × V)} (r : RepF K ρ B H fs xs) (f : Str) {d : DV} {v : V} (rd : RepV K ρ B H d v) : RepF K ρ B H (XH f d fs) (qt f v xs) := by
  induction r with
  | nil => exact .cons ⟨rfl, rd⟩ .nil
  | @cons p q _ _ h t ih =>
    obtain ⟨p1, p2⟩ := p
    obtain ⟨q1, q2⟩ := q
    obtain ⟨h1, h2⟩ := h
    have h1 : p1 = q1 := h1
    subst h1
    unfold XH qt
    by_cases e : p1 = f
    . rw [if_pos e, if_pos e]; exact .cons ⟨rfl, rd⟩ t
    . rw [if_neg e, if_neg e]; exact .cons ⟨rfl, h2⟩ ih
theorem RepF.len {fs : List (Str × DV)} {xs : List (Str × V)} (r : RepF K ρ B H fs xs) : fs.length = xs.length := Paired.length r
theorem RepF.gs {ρ' : List Addr} {B' : Addr -> Prop} {H' : Hp} {fs : List (Str × DV)} {xs : List (Str × V)} (g : Gs K ρ B H ρ' B' H') (r : RepF K ρ B H fs xs) : RepF K ρ' B' H' fs xs := L2.Paired.mapP r fun _ _ h => ⟨h.1, RepV.gs g _ _ h.2⟩
theorem ORep.ins {a : Addr} {c : Str} {fs : List (Str × DV)} (h : ORep K ρ B H a (.ins c fs)) : ∃ C dx xs, ClsN K c C /\ H a = some (.ins C dx xs) /\ RepF K ρ B H fs xs := by
  obtain ⟨C, dx, xs, nc, e, ek, rl⟩ := h
  exact ⟨C, dx, xs, nc, e, ud ek rl⟩
theorem RepF.orep {a C dx : Addr} {c : Str} {fs : List (Str × DV)} {xs : List (Str × V)} (nc : ClsN K c C) (r : RepF K ρ B H fs xs) (e : H a = some (.ins C dx xs)) : ORep K ρ B H a (.ins c fs) := ⟨C, dx, xs, nc, e, r.to.1, r.to.2⟩
theorem kZ {n : Nat} {a C dx : Addr} {c : Str} {xs xs' : List (Str × V)} {fs' : List (Str × DV)} (W : WOk K ρ B hp H) (i : ρ[n]? = some a) (nc : ClsN K c C) (e : H a = some (.ins C dx xs)) (r : RepF K ρ B H fs' xs') : Gr K ρ B H ρ B (upd H a (.ins C dx xs')) /\ WOk K ρ B (hp.set n (.ins c fs')) (upd H a (.ins C dx xs')) := by
  have g : Gr K ρ B H ρ B (upd H a (.ins C dx xs')) := Gr.wset i e
  exact ⟨g, W.wset (o' := .ins C dx xs') (v := .ins c fs') i e ((r.gs (g.gs W.rb)).orep nc Q8)⟩
end
def onI {α : Type} (c : Str) (x : DV) (k : Nat -> List (Str × DV) -> M α) : M α := match x with
  | .ref n => do
    match <- Jt n with
    | .ins c' fs => do Qu (decide (c' = c)); k n fs
    | _ => failure
  | _ => failure
theorem jO {α : Type} {c : Str} {x : DV} {d : α} {k : Nat -> List (Str × DV) -> M α} {hp hp' : Hs} (h : onI c x k hp = some (d, hp')) : ∃ n fs, x = .ref n /\ hp[n]? = some (.ins c fs) /\ k n fs hp = some (d, hp') := by
  cases x with
  | ref n =>
    obtain ⟨o, hp1, e1, e2⟩ := Qf (show (Jt n >>= fun o => (match o with | .ins c' fs => do Qu (decide (c' = c)); k n fs | _ => failure : M α)) hp = some (d, hp') from h)
    obtain ⟨e3, rfl⟩ := Jl e1
    cases o with
    | ins c' fs =>
      obtain ⟨_, hp2, e4, e5⟩ := Qf e2
      obtain ⟨hl, rfl⟩ := QH e4
      obtain rfl := of_decide_eq_true hl
      exact ⟨n, fs, rfl, e3, e5⟩
    | lst _ => cases e2
    | dic _ => cases e2
  | non => cases h
  | bl _ => cases h
  | int _ => cases h
  | str _ => cases h
  | tup _ => cases h
  | lst _ => cases h
def jC (c f : Str) (x : DV) : M DV := onI c x fun _ fs => zo (fs.lookup f)
def xa (c f : Str) (x d : DV) : M Unit := onI c x fun n fs => do Qu (decide (fs.length < 1000)); jX n (.ins c (XH f d fs))
def QJ (c f : Str) (g : DEx) : DEx := fun env => do let x <- g env; jC c f x
def Zc (c f : Str) (fo fv : DEx) : DSx := fun env => do let y <- fv env; let x <- fo env; xa c f x y; pure (.nx, env)
def Y4 (c f : Str) (op : DV -> DV -> M DV) (fo fv : DEx) : DSx := fun env => do let x <- fo env; let v <- jC c f x; let y <- fv env; let z <- op v y; xa c f x z; pure (.nx, env)
def jw : DV -> DV -> M DV
  | .int i, .int j => pure (.int (i + j))
  | _, _ => failure
def VR : DV -> DV -> M DV
  | .int i, .int j => pure (.int (i - j))
  | _, _ => failure
def QK (c m : Str) (n : Nat) (F : List DV -> M DV) (fo : DEx) (fa : DAx) : DEx := fun env => do
  let x <- fo env
  onI c x fun _ fs => Qu (fs.lookup m).isNone
  let ds <- fa env
  Qu (decide (ds.length + 1 = n))
  F (x :: ds)
def Xy (c : Str) (n : Nat) (F : List DV -> M DV) (fa : DAx) : DEx := fun env => do
  let ds <- fa env
  Qu (decide (ds.length + 1 = n))
  let x <- qP (.ins c [])
  let r <- F (x :: ds)
  match r with
  | .non => pure x
  | _ => failure
section
variable {X : Cx} {o e value : Expr} {c f m : Str} {pos pos' tpos apos : Pos} {fo fv : DEx}
theorem GA {K : PySem.W.Frag} {ρ : List Addr} {B : Addr -> Prop} {H : Hp} {hp hp' : Hs} {x d : DV} {v : V} (W : WOk K ρ B hp H) (r : RepV K ρ B H x v) (h : jC c f x hp = some (d, hp')) : hp = hp' /\ ∃ a C dx xs u, v = .ref a /\ ClsN K c C /\ H a = some (.ins C dx xs) /\ xs.lookup f = some u /\ RepV K ρ B H d u := by
  obtain ⟨n, fs, rfl, e1, e2⟩ := jO h
  obtain ⟨hl, rfl⟩ := xK e2
  obtain ⟨a, rfl, i, ro⟩ := RepV.refW W r e1
  obtain ⟨C, dx, xs, nc, e, rf⟩ := ro.ins
  rcases rf.look f with ⟨z, _⟩ | ⟨d', u, z, zu, ru⟩
  . rw [hl] at z; cases z
  . rw [hl] at z; cases z
    exact ⟨rfl, a, C, dx, xs, u, rfl, nc, e, zu, ru⟩
theorem K3 {K : PySem.W.Frag} {ρ : List Addr} {B : Addr -> Prop} {H : Hp} {hp hp' : Hs} {x d : DV} {v y : V} {z : Unit} (W : WOk K ρ B hp H) (r : RepV K ρ B H x v) (rd : RepV K ρ B H d y) (h : xa c f x d hp = some (z, hp')) : ∃ a C dx xs, v = .ref a /\ ClsN K c C /\ H a = some (.ins C dx xs) /\ xs.length < 1000 /\ Gr K ρ B H ρ B (upd H a (.ins C dx (qt f y xs))) /\ WOk K ρ B hp' (upd H a (.ins C dx (qt f y xs))) := by
  obtain ⟨n, fs, rfl, e1, e2⟩ := jO h
  obtain ⟨_, hp1, e3, e4⟩ := Qf e2
  obtain ⟨hl, rfl⟩ := QH e3
  cases e4
  obtain ⟨a, rfl, i, ro⟩ := RepV.refW W r e1
  obtain ⟨C, dx, xs, nc, e, rf⟩ := ro.ins
  obtain ⟨g, W'⟩ := kZ W i nc e (rf.put f rd)
  exact ⟨a, C, dx, xs, rfl, nc, e, by rw [<- rf.len]; exact of_decide_eq_true hl, g, W'⟩
theorem QG (hk : QZ X.K c f) (ho : DE X o fo) (hb : attributeBase o f X.env (eval o X.env) = eval o X.env := by rfl) : DE X (.Attribute o f pos) (QJ c f fo) :=
  L2.PE.imp (Qdx ho hb) fun σ H Q ⟨Z, env, ρ, B, hp, d, hp', S, e, k⟩ => by
    obtain ⟨x, hp1, e1, e2⟩ := Qf e
    refine tD.run S e1 fun v ρ1 B1 H1 g1 S1 r1 => ?_
    obtain ⟨rfl, a, C, dx, xs, u, rfl, nc, ea, hl, ru⟩ := GA S1.wo r1 e2
    obtain ⟨C', nc', cl, na⟩ := hk.ex
    obtain rfl := nc.uniq nc'
    exact ⟨a, C, dx, xs, u, rfl, ea, cl, na, hl, k u ρ1 B1 H1 g1 S1.wo ru⟩
theorem Zs (hk : QZ X.K c f) (ho : DE X o fo) (hv : DE X value fv) (hs : swapsWith value (some (.Attribute o f pos')) pos.line X.env = pure false := by rfl) : DS X (.Assign [.Attribute o f pos'] value pos) (Zc c f fo fv) :=
  L2.PS.imp (QdA ho hv hs) fun D σ H ⟨Z, env, ρ, B, hp, fl, env', hp', S, e, k⟩ => by
    obtain ⟨y, hp1, e1, e⟩ := Qf e
    obtain ⟨x, hp2, e2, e⟩ := Qf e
    obtain ⟨z, hp3, e3, e⟩ := Qf e
    obtain ⟨q, rfl⟩ := Qj e
    cases q
    refine tD.run S e1 fun u ρ1 B1 H1 g1 S1 r1 => tD.run S1 e2 fun v ρ2 B2 H2 g2 S2 r2 => ?_
    obtain ⟨a, C, dx, xs, rfl, nc, ea, hl, g, W⟩ := K3 S2.wo r2 (RepV.grow S1.wo.rb g2 _ _ r1) e3
    obtain ⟨C', nc', cl, na⟩ := hk.ex
    obtain rfl := nc.uniq nc'
    exact ⟨a, C, dx, xs, rfl, ea, cl, na, hl, k σ ρ2 B2 _ ((g1.trans (g2.trans g)).gs S.wo.rb) (S2.grow g W)⟩
theorem xI (hk : QZ X.K c f) (ho : DE X o fo) (hv : DE X value fv) : DS X (.AugAssign (.Attribute o f tpos) .Add value pos) (Y4 c f jw fo fv) :=
  L2.PS.imp (gS ho hv Qc8) fun D σ H ⟨Z, env, ρ, B, hp, fl, env', hp', S, e, k⟩ => by
    obtain ⟨x, hp1, e1, e⟩ := Qf e
    obtain ⟨v, hp2, e2, e⟩ := Qf e
    obtain ⟨y, hp3, e3, e⟩ := Qf e
    obtain ⟨z, hp4, e4, e⟩ := Qf e
    obtain ⟨_, hp5, e5, e⟩ := Qf e
    obtain ⟨q, rfl⟩ := Qj e
    cases q
    refine tD.run S e1 fun vx ρ1 B1 H1 g1 S1 r1 => ?_
    obtain ⟨rfl, a, C, dx, xs, u, rfl, nc, ea, hl, ru⟩ := GA S1.wo r1 e2
    obtain ⟨C', nc', cl, na⟩ := hk.ex
    obtain rfl := nc.uniq nc'
    refine ⟨a, C, dx, xs, u, rfl, ea, cl, na, hl, tD.run S1 e3 fun w ρ2 B2 H2 g2 S2 r2 => ?_⟩
    have ru2 := RepV.grow S1.wo.rb g2 _ _ ru
    have r12 := RepV.grow S1.wo.rb g2 _ _ r1
    unfold jw at e4
    split at e4
    . obtain ⟨rfl, rfl⟩ := Qj e4
      refine ⟨_, _, ru2.intI, r2.intI, ?_⟩
      obtain ⟨a', C2, dx', xs', q1, nc2, ea', hl', g, W⟩ := K3 S2.wo r12 JY e5
      cases q1
      obtain rfl := nc2.uniq nc
      exact ⟨dx', xs', ea', hl', k σ ρ2 B2 _ ((g1.trans (g2.trans g)).gs S.wo.rb) (S2.grow g W)⟩
    . cases e4
theorem QaI {C : Addr} {n : Nat} {F : List DV -> M DV} {fa : DAx} {σ : St} {H : Hp} {Q : VK} (nc : ClsN X.K c C) (h : tD X.K (QK c m n F fo fa) σ H Q) : Qba C m (spD X.K n F) [] E0 (tD X.K fo) (tDA X.K fa) σ H Q := by
  obtain ⟨Z, env, ρ, B, hp, d, hp', S, e, k⟩ := h
  obtain ⟨x, hp1, e1, e⟩ := Qf e
  obtain ⟨_, hp2, e2, e⟩ := Qf e
  obtain ⟨ds, hp3, e3, e⟩ := Qf e
  obtain ⟨_, hp4, e4, ef⟩ := Qf e
  obtain ⟨hl, rfl⟩ := QH e4
  refine tD.run S e1 fun v ρ1 B1 H1 g1 S1 r1 => ?_
  obtain ⟨i, fs, rfl, w1, w2⟩ := jO e2
  obtain ⟨hn, rfl⟩ := QH w2
  obtain ⟨a, rfl, _, ro⟩ := RepV.refW S1.wo r1 w1
  obtain ⟨C', dx, xs, nc', ea, rf⟩ := ro.ins
  obtain rfl := nc'.uniq nc
  have hx : xs.lookup m = none := by
    rcases rf.look m with ⟨_, z⟩ | ⟨_, _, z, _, _⟩
    . exact z
    . rw [z] at hn; cases hn
  refine ⟨a, dx, xs, rfl, ea, hx, tDA.run S1 e3 fun vs ρ2 B2 H2 g2 S2 r2 => ?_⟩
  refine ⟨?_, ρ2, B2, hp3, _, d, hp', S2.wo, ?_, ef, k.after (g1.trans g2)⟩
  . rw [List.append_nil, List.length_cons, <- r2.length]; exact of_decide_eq_true hl
  . rw [List.append_nil]; exact RepL.cons (RepV.grow S1.wo.rb g2 _ _ r1) r2
theorem ZI {k j n : Nat} {F : List DV -> M DV} {es : List Expr} {fa : DAx} {pl : Sem Bool} (h : ZP X.prog X.w X.K X.mg X.base c m j n F) (hr : Room k X.A) (hj : j <= k) (hx : qj CX0 X E0) (ho : DE X o fo) (ha : DA X (e :: es) fa)
    (hst : starEach (e :: es) X.env = (false, eval e X.env) :: starEach es X.env := by rfl) (hpl : (backTo pos (starEach es X.env)).any (·.1) = false := by rfl)
    (ht : eval (.Call (.Attribute o m apos) (e :: es) [] pos) X.env = (do
      let ov <- eval o X.env
      standAt apos.atName
      let (f, first) <- holding [ov] (getMethod ov m pl)
      callWith pos f first (backTo pos (starEach (e :: es) X.env)) (backToKw pos (keywordEach [] X.env))) := by rfl) : DE X (.Call (.Attribute o m apos) (e :: es) [] pos) (QK c m n F fo fa) := by
  obtain ⟨C, g, fd, ps, nc, cl, hm, F', hb⟩ := h.ex
  exact L2.PE.imp (QbB (pl := pl) ho cl hm F' (hr.mono hj) hb .nil hx ha hst hpl ht) fun σ H Q q => QaI nc q
theorem JI {k j n : Nat} {F : List DV -> M DV} {pl : Sem Bool} (h : ZP X.prog X.w X.K X.mg X.base c m j n F) (hr : Room k X.A) (hj : j <= k) (hx : qj CX0 X E0) (ho : DE X o fo)
    (ht : eval (.Call (.Attribute o m apos) [] [] pos) X.env = (do
      let ov <- eval o X.env
      standAt apos.atName
      let (f, first) <- holding [ov] (getMethod ov m pl)
      callWith pos f first (backTo pos (starEach [] X.env)) (backToKw pos (keywordEach [] X.env))) := by rfl) : DE X (.Call (.Attribute o m apos) [] [] pos) (QK c m n F fo Qm) := by
  obtain ⟨C, g, fd, ps, nc, cl, hm, F', hb⟩ := h.ex
  refine L2.PE.imp (kF (pl := pl) ho cl hm F' (hr.mono hj) hb .nil hx ht) fun σ H Q q => ?_
  obtain ⟨Z, env, ρ, B, hp, d, hp', S, e, k⟩ := q
  obtain ⟨x, hp1, e1, e⟩ := Qf e
  obtain ⟨_, hp2, e2, e⟩ := Qf e
  obtain ⟨ds, hp3, e3, e⟩ := Qf e
  obtain ⟨_, hp4, e4, ef⟩ := Qf e
  obtain ⟨hl, rfl⟩ := QH e4
  obtain ⟨rfl, rfl⟩ := Qj e3
  refine tD.run S e1 fun v ρ1 B1 H1 g1 S1 r1 => ?_
  obtain ⟨i, fs, rfl, w1, w2⟩ := jO e2
  obtain ⟨hn, rfl⟩ := QH w2
  obtain ⟨a, rfl, _, ro⟩ := RepV.refW S1.wo r1 w1
  obtain ⟨C', dx, xs, nc', ea, rf⟩ := ro.ins
  obtain rfl := nc'.uniq nc
  have hx : xs.lookup m = none := by
    rcases rf.look m with ⟨_, z⟩ | ⟨_, _, z, _, _⟩
    . exact z
    . rw [z] at hn; cases hn
  exact ⟨a, dx, xs, rfl, ea, hx, of_decide_eq_true hl, ρ1, B1, hp1, _, d, hp', S1.wo, RepL.cons r1 RepL.nil, ef, k.after g1⟩
theorem gj {k : Nat} {C g : Addr} {fd : FuncData} {ps : List Str} {sp : Sp} {pins : List (Addr × Obj)} {σ : St} {H : Hp} {s : Shared} {Q : VK} {us : List Value} {vs : List V} (M : Mk X.K C g) (F : zF X.prog X.w X.K X.mg X.base CX0 k g fd ps sp) (hr : Room (k + 1) X.A) (hb : Binds X.K fd ps [])
    (hx : qj CX0 X E0) (I : Inv X pins σ H s) (r : Vals vs us)
    (h : ∀ x dx, H x = none -> H dx = none -> dx ≠ x -> X.K.lookup x = none -> sp (.ref x :: vs) (upd (upd H dx (.own x)) x (.ins C dx [])) (fun v H2 => v = .non /\ Q (.ref x) H2) E0) :
    wpAny (model X.prog X.w) X.A (call (.ref C) us) (EP X pins σ Q) X.xe s := by
  have kf : X.K.lookup (s.heap.objs.size + 1) = none := by
    cases q : X.K.lookup (s.heap.objs.size + 1) with
    | none => rfl
    | some o => exact absurd (Heap.lt_size (I.kIn _ _ q)) (Nat.not_lt.mpr (Nat.le_succ _))
  have hq := h _ _ (I.hok.fresh (Nat.le_succ _)) (I.hok.fresh (Nat.le_refl _)) (Nat.ne_of_lt (Nat.lt_succ_self _)) kf
  have J := Inv.made (C := C) I
  have rr : Vals (V.ref (s.heap.objs.size + 1) :: vs) (Value.ref (s.heap.objs.size + 1) :: us) := .cons rfl r
  have ll : ((Value.ref (s.heap.objs.size + 1) :: us) ++ []).length = ps.length := by
    rw [List.append_nil, <- rr.length]; exact F.len _ _ _ _ hq
  have bb := hb _ (Value.ref (s.heap.objs.size + 1) :: us) J.kIn ll
  rw [List.append_nil] at bb
  refine wpAny_call (Qab (f := g) I.kIn M.makes M.init (beq_iff_eq.mp M.fn) (codeAny_mono (F.run _ X.stack _ _ ⟨Value.ref (s.heap.objs.size + 1) :: us, []⟩ _ _ _ E0 (hr.make C us []) (J.env0.make C us []) bb rr hq) fun q s' z => ?_))
  cases q with
  | error e => exact hx pins σ _ _ e s' J z
  | ok fl =>
    cases fl with
    | ret u =>
      obtain ⟨v, H', I3, rv, ev, q3⟩ := J.after z
      subst ev
      exact ⟨rv, ⟨V.ref (s.heap.objs.size + 1), H', I3, rfl, q3⟩⟩
    | next => exact z.elim
    | brk => exact z.elim
    | cont => exact z.elim
theorem Qam {C : Addr} {n : Nat} {F : List DV -> M DV} {vs : List V} {K : PySem.W.Frag} {ρ : List Addr} {B : Addr -> Prop} {hp hp' : Hs} {H : Hp} {ds : List DV} {d : DV} {Q : VK} (nc : ClsN K c C) (hl : ds.length + 1 = n) (W : WOk K ρ B hp H) (r : RepL K ρ B H ds vs)
    (e : (do let x <- qP (.ins c []); let r <- F (x :: ds); match r with | .non => pure x | _ => failure : M DV) hp = some (d, hp')) (k : Fol K ρ B H d hp' Q) :
    ∀ x dx, H x = none -> H dx = none -> dx ≠ x -> K.lookup x = none -> spD K n F (.ref x :: vs) (upd (upd H dx (.own x)) x (.ins C dx [])) (fun v H2 => v = .non /\ Q (.ref x) H2) E0 := by
  intro x dx hx hdx ne kf
  have e1 : F (.ref hp.length :: ds) (hp ++ [.ins c []]) = some (.non, hp') /\ d = .ref hp.length := by
    obtain ⟨y, hp1, a1, a2⟩ := Qf e
    cases a1
    obtain ⟨y, hp2, a3, a4⟩ := Qf a2
    cases y with
    | non => obtain ⟨rfl, rfl⟩ := Qj a4; exact ⟨a3, rfl⟩
    | bl _ => cases a4
    | int _ => cases a4
    | str _ => cases a4
    | tup _ => cases a4
    | lst _ => cases a4
    | ref _ => cases a4
  obtain ⟨e1, rfl⟩ := e1
  have hx' : upd H dx (.own x) x = none := by rw [QS (Ne.symm ne)]; exact hx
  have g0 : Gr K ρ B H ρ B (upd H dx (.own x)) := Gr.laid hdx
  have g1 : Gr K ρ B (upd H dx (.own x)) (ρ ++ [x]) (xJ B x) (upd (upd H dx (.own x)) x (.ins C dx [])) := Gr.wnew hx' kf
  have W1 : WOk K (ρ ++ [x]) (xJ B x) (hp ++ [.ins c []]) (upd (upd H dx (.own x)) x (.ins C dx [])) := (W.laid hdx).wnew hx' kf (RepF.orep nc .nil Q8)
  have rx : RepV K (ρ ++ [x]) (xJ B x) (upd (upd H dx (.own x)) x (.ins C dx [])) (.ref hp.length) (.ref x) := by
    unfold RepV
    exact ⟨x, rfl, by rw [<- W.len]; simp⟩
  refine ⟨?_, ρ ++ [x], xJ B x, hp ++ [.ins c []], .ref hp.length :: ds, .non, hp', W1, RepL.cons rx (RepL.grow W.rb (g0.trans g1) _ _ r), e1, fun v ρ' B' H' g' W' r' => ?_⟩
  . rw [List.length_cons, <- r.length]; exact hl
  . exact ⟨r'.nonI, k _ ρ' B' H' ((g0.trans g1).trans g') W' (RepV.grow W1.rb g' _ _ rx)⟩
theorem KC {k j n : Nat} {F : List DV -> M DV} {es : List Expr} {fa : DAx} {p : Pos} (h : G3 X.prog X.w X.K X.mg X.base c j n F) (hr : Room k X.A) (hj : j + 1 <= k) (hx : qj CX0 X E0) (ha : DA X (e :: es) fa) (hg : Gl X c := by rfl)
    (hdb : (c == ("__debug__" : Str)) = false := by decide) (he : starEach (e :: es) X.env = (false, eval e X.env) :: starEach es X.env := by rfl) (hpl : (backTo pos (starEach es X.env)).any (·.1) = false := by rfl) : DE X (.Call (.Name c p) (e :: es) [] pos) (Xy c n F fa) := by
  obtain ⟨C, g, fd, ps, nc, hm, M, F', hb⟩ := h.ex
  intro pins s σ H Q I q
  obtain ⟨Z, env, ρ, B, hp, d, hp', S, e, k⟩ := q
  obtain ⟨ds, hp1, e1, e2⟩ := Qf e
  obtain ⟨_, hp2, e3, e4⟩ := Qf e2
  obtain ⟨hl, rfl⟩ := QH e3
  refine wpAny_Call_Name_kw (Ku I hg hm ?_ hdb)
  refine PySem.W.callWith_K (h₀ := X.base) I.ok.mod.kin M.kp (thn (ha pos pins s σ H _ I (tDA.run S e1 fun vs ρ1 B1 H1 g1 S1 r1 => Qam (Q := Q) nc (of_decide_eq_true hl) S1.wo r1 e4 (k.after g1))) fun us s1 ⟨vs, H1, I1, r, q⟩ => ⟨I1.kIn, ?_⟩) he hpl
  exact gj M F' (hr.mono hj) hb hx I1 r q
end
theorem Qa5 {P : Program} {w : World} {K : PySem.W.Frag} {mg : Str -> Option Value} {base : Heap} {x qual : Str} {stm : Stmt} {g : Addr} {fd : FuncData} {N ps : List Str} {k : Nat} {body : DSx} (F : Fun K x qual stm g fd) (Sc : Qx N ps (Qk stm))
    (h : ∀ (cdv : Value) (A : Around) (outer : List Env) (s : Shared) (H : Hp) (E : XK), Room k (A.deeper (envOfC qual (Qk stm) s.heap.objs.size g cdv)) -> DSs (Vd CX0 P w K mg base N qual (Qk stm) g cdv A outer s H E).nox (Qt stm) body) :
    zF P w K mg base CX0 (k + 1) g fd ps (spD K ps.length (Q1 N.length body)) := by
  refine F.ok Sc (fun vs H Q E h => h.1) (fun cdv A outer s H vs Q E hr sp => ?_)
  obtain ⟨hn, ρ, B, hp, ds, d, hp', W, r, e, k⟩ := sp
  obtain ⟨⟨fl, env'⟩, hp1, e1, e2⟩ := Qf e
  refine ⟨_, h cdv A outer s H E hr, ⟨ρ, B, H⟩, _, ρ, B, hp, fl, env', hp1, xN W r, e1, fun σ' ρ' B' H' g' S' => ?_⟩
  cases fl with
  | nx => obtain ⟨rfl, rfl⟩ := Qj e2; exact k .non ρ' B' H' S'.gr S'.wo zP
  | rt x => obtain ⟨rfl, rfl⟩ := Qj e2; exact fun v rv => k v ρ' B' H' S'.gr S'.wo rv
  | bk => cases e2
  | ct => cases e2
theorem Zt {P : Program} {w : World} {K : PySem.W.Frag} {mg : Str -> Option Value} {base : Heap} {c m qual : Str} {stm : Stmt} {C g : Addr} {fd : FuncData} {N ps : List Str} {k : Nat} {body : DSx} (nc : ClsN K c C) (cl : Cls K C) (me : Ym K C m g) (F : Fun K m qual stm g fd) (Sc : Qx N ps (Qk stm))
    (hb : ∀ (kV doc pm : Value) (an : Option Addr) (cdv ct : Value) (us : List Value), us.length = ps.length -> bindArgs (PySem.W.fnOf m qual (Qz stm) (Qt stm) (Qk stm) .none kV doc pm an cdv ct) ⟨us, []⟩ = pure (ps.zip us))
    (h : ∀ (cdv : Value) (A : Around) (outer : List Env) (s : Shared) (H : Hp) (E : XK), Room k (A.deeper (envOfC qual (Qk stm) s.heap.objs.size g cdv)) -> DSs (Vd CX0 P w K mg base N qual (Qk stm) g cdv A outer s H E).nox (Qt stm) body) :
    ZP P w K mg base c m (k + 1) ps.length (Q1 N.length body) := ⟨C, g, fd, ps, nc, cl, me, Qa5 F Sc h, F.binds hb⟩
theorem Gz {P : Program} {w : World} {K : PySem.W.Frag} {mg : Str -> Option Value} {base : Heap} {c qual : Str} {stm : Stmt} {C g : Addr} {fd : FuncData} {N ps : List Str} {k : Nat} {body : DSx} (nc : ClsN K c C) (hm : mg c = some (.ref C)) (me : Mk K C g) (F : Fun K "__init__" qual stm g fd) (Sc : Qx N ps (Qk stm))
    (hb : ∀ (kV doc pm : Value) (an : Option Addr) (cdv ct : Value) (us : List Value), us.length = ps.length -> bindArgs (PySem.W.fnOf "__init__" qual (Qz stm) (Qt stm) (Qk stm) .none kV doc pm an cdv ct) ⟨us, []⟩ = pure (ps.zip us))
    (h : ∀ (cdv : Value) (A : Around) (outer : List Env) (s : Shared) (H : Hp) (E : XK), Room k (A.deeper (envOfC qual (Qk stm) s.heap.objs.size g cdv)) -> DSs (Vd CX0 P w K mg base N qual (Qk stm) g cdv A outer s H E).nox (Qt stm) body) :
    G3 P w K mg base c (k + 1) ps.length (Q1 N.length body) := ⟨C, g, fd, ps, nc, hm, me, Qa5 F Sc h, F.binds hb⟩
section
variable {X : Cx}
def QcE : DSx := fun _ => failure
theorem Qbz {st : Stmt} : DS X st QcE := L2.PS.imp kK fun D σ H ⟨Z, env, ρ, B, hp, fl, env', hp', S, e, k⟩ => by cases e
def VV (i : Nat) (op : DV -> DV -> M DV) (fe : DEx) : DSx := fun env => do let v <- Qb i env; let y <- fe env; let z <- op v y; pure (.nx, env.set i (.val z))
end
end D
namespace D
open PySem PySem.Spec PyProof.Rows L2
theorem ZR {α β : Type} (m : M α) (k : α -> M β) (hp : Hs) : (m >>= k) hp = (m hp).bind fun p => k p.1 p.2 := by
  show (StateT.bind m k hp) = _
  unfold StateT.bind
  cases m hp with
  | none => rfl
  | some p => obtain ⟨a, h⟩ := p; rfl
theorem Ye {α β : Type} (f : α -> β) (m : M α) (hp : Hs) : (f <$> m) hp = (m hp).map fun p => (f p.1, p.2) := by
  show (StateT.map f m hp) = _
  unfold StateT.map
  cases m hp with
  | none => rfl
  | some p => obtain ⟨a, h⟩ := p; rfl
theorem JJ {α : Type} (a : α) (hp : Hs) : (pure a : M α) hp = some (a, hp) := rfl
theorem Xm {α : Type} (hp : Hs) : (failure : M α) hp = none := rfl
theorem JM (b : Bool) (hp : Hs) : Qu b hp = if b = true then some ((), hp) else none := by cases b <;> rfl
theorem Yf (n : Nat) (hp : Hs) : Jt n hp = (hp[n]?).map fun o => (o, hp) := by unfold Jt; cases hp[n]? <;> rfl
theorem Yh (n : Nat) (o : OV) (hp : Hs) : jX n o hp = some ((), hp.set n o) := rfl
theorem Yb (o : OV) (hp : Hs) : qP o hp = some (.ref hp.length, hp ++ [o]) := rfl
theorem Zj (hp : Hs) (k : Nat) (X : OV) (h : (hp[k]?).isSome = true) : (hp.set k X)[k]? = some X := by
  have : k < hp.length := by
    rcases Nat.lt_or_ge k hp.length with q | q
    . exact q
    . rw [List.getElem?_eq_none q] at h; cases h
  rw [List.getElem?_set_self this]
theorem QT (hp : Hs) (k n : Nat) (X : OV) (h : k ≠ n) : (hp.set k X)[n]? = hp[n]? := List.getElem?_set_ne h
theorem Ju (hp : Hs) (X : OV) : (hp ++ [X])[hp.length]? = some X := by simp
end D
namespace D
open PySem PySem.Spec PyProof.Rows L2
mutual
def KRep (K : PySem.W.Frag) : DV -> V -> Prop
  | .non, v => v = .non
  | .bl b, v => v = .bl b
  | .int i, v => v = .int i
  | .str x, v => v = .str x
  | .tup ds, v => ∃ (a : Addr) (o : Obj) (its : Array Value) (n : Nat) (xs : List V), v = .ref a /\ K.lookup a = some o /\ o.cls = .type "tuple" /\ o.data = .seq its n /\ its.size <= sizeLine /\ Vals xs its.toList /\ KRepL K ds xs
  | _, _ => False
def KRepL (K : PySem.W.Frag) : List DV -> List V -> Prop
  | [], xs => xs = []
  | d :: ds, xs => ∃ x r, xs = x :: r /\ KRep K d x /\ KRepL K ds r
end
mutual
theorem KRep.rep {K : PySem.W.Frag} {ρ : List Addr} {B : Addr -> Prop} {H : Hp} (hb : ∀ a, B a -> K.lookup a = none) : ∀ (d : DV) (v : V), KRep K d v -> RepV K ρ B H d v
  | .non, _, h => by unfold KRep at h; unfold RepV; exact h
  | .bl _, _, h => by unfold KRep at h; unfold RepV; exact h
  | .int _, _, h => by unfold KRep at h; unfold RepV; exact h
  | .str _, _, h => by unfold KRep at h; unfold RepV; exact h
  | .lst _, _, h => by unfold KRep at h; exact h.elim
  | .ref _, _, h => by unfold KRep at h; exact h.elim
  | .tup ds, _, h => by
    unfold KRep at h; unfold RepV
    obtain ⟨a, o, its, n, xs, rfl, h1, h2, h3, h4, h5, h6⟩ := h
    exact ⟨a, xs, rfl, fun z => (by rw [hb a z] at h1; cases h1), .inr ⟨o, its, n, h1, h2, h3, h4, h5⟩, KRepL.rep hb ds xs h6⟩
theorem KRepL.rep {K : PySem.W.Frag} {ρ : List Addr} {B : Addr -> Prop} {H : Hp} (hb : ∀ a, B a -> K.lookup a = none) : ∀ (ds : List DV) (xs : List V), KRepL K ds xs -> RepL K ρ B H ds xs
  | [], _, h => by unfold KRepL at h; unfold RepL; exact h
  | d :: ds, _, h => by
    unfold KRepL at h; unfold RepL
    obtain ⟨x, r, e, h1, h2⟩ := h
    exact ⟨x, r, e, KRep.rep hb d x h1, KRepL.rep hb ds r h2⟩
end
theorem vj {K : PySem.W.Frag} {ds : List DV} {a : Addr} {od : Option Addr} {its : Array Value} {n : Nat} {sl : Array (Option Value)} {xs : List V} (h : K.lookup a = some ⟨.type "tuple", od, .seq its n, sl⟩) (hs : its.size <= sizeLine) (hv : Vals xs its.toList) (hl : KRepL K ds xs) : KRep K (.tup ds) (.ref a) := by
  unfold KRep; exact ⟨a, _, its, n, xs, rfl, h, rfl, rfl, hs, hv, hl⟩
theorem kc {K : PySem.W.Frag} : KRep K .non .non := by unfold KRep; rfl
theorem QdQ {K : PySem.W.Frag} {i : Int} : KRep K (.int i) (.int i) := by unfold KRep; rfl
theorem Kx {K : PySem.W.Frag} : KRepL K [] [] := by unfold KRepL; rfl
theorem zK {K : PySem.W.Frag} {d : DV} {ds : List DV} {x : V} {r : List V} (h : KRep K d x) (h' : KRepL K ds r) : KRepL K (d :: ds) (x :: r) := by unfold KRepL; exact ⟨x, r, rfl, h, h'⟩
theorem Qcn {X : Cx} {x : Str} {ds : List DV} {a : Addr} {pos : Pos} (hg : Gl X x) (hm : X.mg x = some (.ref a)) (hk : KRep X.K (.tup ds) (.ref a)) (hd : (x == ("__debug__" : Str)) = false := by decide) : DE X (.Name x pos) (eC (.tup ds)) :=
  (uO (v := .ref a) hg hm rfl hd).imp fun σ H Q ⟨Z, env, ρ, B, hp, d', hp', S, e, k⟩ => by
    obtain ⟨rfl, rfl⟩ := Qj e
    exact k _ ρ B H Gr.refl S.wo (KRep.rep S.wo.bk _ _ hk)
end D
namespace D
open PySem PySem.Spec PyProof.Rows L2
theorem Qap (hp : Hs) (x : OV) (t : Hs) : (hp ++ x :: t)[hp.length]? = some x := by simp
theorem QaP (hp : Hs) (x y : OV) (t : Hs) : (hp ++ x :: t).set hp.length y = hp ++ y :: t := by
  rw [List.set_append_right _ _ (Nat.le_refl _)]; simp
theorem uu {hp : Hs} {n : Nat} {x : OV} (h : hp[n]? = some x) : hp.set n x = hp := by
  obtain ⟨hl, rfl⟩ := List.getElem?_eq_some_iff.mp h
  exact List.set_getElem_self hl
theorem zV {n i : Nat} {d : DV} (h : (Zd 0 n)[i]? = some d) : i < n /\ d = .int (i : Int) := by
  obtain ⟨h1, h2⟩ := Vt h
  exact ⟨h1, by rw [h2]; simp⟩
theorem xG {n : Nat} (h : n <= 1000000) : qN (n : Int) = true := Qaf (by omega) (by omega)
theorem Vb {i : Int} (h : 0 <= i) : ∃ j : Nat, i = j := ⟨i.toNat, by omega⟩
theorem uF {n i : Nat} (h : i < n) : ixN n (i : Int) = some i := by unfold ixN; rw [if_pos (by omega), if_pos (by omega)]; simp
theorem vr {f : DXx} {g : DGx} {body : DSx} {env : En} {hp hp1 : Hs} {ds : List DV} {r : (Fl × En) × Hs} (h : f env hp = some (nxD ds, hp1)) (h' : xw (nxD ds) (fun d env => do let env' <- g d env; body env') 100000 0 env hp1 = some r) : Ut f g body env hp = some r := by
  unfold Ut
  rw [Qi h]; exact h'
theorem qy {f : DIx} {g : DGx} {body : DSx} {env : En} {hp hp1 : Hs} {ds : List DV} {r : (Fl × En) × Hs} (h : f env hp = some (ds, hp1)) (h' : jV (fun d env => do let env' <- g d env; body env') ds env hp1 = some r) : GM f g body env hp = some r := by
  unfold GM
  rw [Qi h]; exact h'
theorem Qbl {m : Nat} (h : m <= 1000000) (hp : Hs) : gP [.int (m : Int)] hp = some (Zd 0 m, hp) := by
  have e : gP [.int (m : Int)] = pure (Zd 0 (m : Int).toNat) := by
    simp only [gP, xG h, Qu, if_true, pure_bind]
  rw [e, Int.toNat_natCast]; rfl
theorem qS {f : DAx} {env : En} {hp hp1 : Hs} {m : Nat} (h : f env hp = some ([.int (m : Int)], hp1)) (hm : m <= 1000000) : yA f env hp = some (Zd 0 m, hp1) := by
  unfold yA
  rw [Qi h]; exact Qbl hm hp1
theorem QaK {f : DEx} {env : En} {hp hp1 : Hs} {ds : List DV} (h : f env hp = some (.lst ds, hp1)) : xLs f env hp = some (nxD ds, hp1) := by
  unfold xLs
  rw [Qi h]; rfl
end D
namespace D
open PySem PySem.Spec PyProof.Rows L2
section
variable {X : Cx}
def jS (x : DV) : List DV -> M DV
  | [y] => onL x fun n ds => onL y fun _ es => do Qu (decide (ds.length + es.length <= lim)); jX n (.lst (ds ++ es)); pure .non
  | _ => failure
theorem kG : MtR X "list.extend" (tPm X.K jS) := by
  intro pins s σ H x vs v us Q I rx rv h
  obtain ⟨ρ, B, hp, dx, es, d, hp', W, r1, r2, e, k⟩ := h
  unfold jS at e
  split at e
  . rename_i y
    obtain ⟨n, ds, rfl, h0, e⟩ := Vr e
    obtain ⟨m, zs, rfl, h0', e⟩ := Vr e
    obtain ⟨_, hp1, e1, e2⟩ := Qf e
    obtain ⟨hl, rfl⟩ := QH e1
    cases e2
    obtain ⟨a, rfl, i1, xs, h1, l1⟩ := RepV.refW W r1 h0
    obtain ⟨w, rfl, rw'⟩ := r2.oneI
    obtain ⟨b, rfl, i2, ys, h2, l2⟩ := RepV.refW W rw' h0'
    obtain ⟨g, W'⟩ := y4 W i1 h1 (RepL.append l1 l2)
    exact u7 pins s σ H _ _ v us Q I rx rv ⟨a, b, xs, ys, rfl, rfl, h1, h2, by rw [<- l1.length, <- l2.length]; exact Nat.le_trans (of_decide_eq_true hl) Kd, k _ ρ B _ g W' zP⟩
  . cases e
end
end D
namespace L2
open PySem PySem.Spec PyProof.Rows
abbrev Yq (h : Heap) (z p o : Addr) (f : Value) (b : Bool) : Prop := h.get? z = some { cls := Value.type "zip", data := Data.fields #[f, Value.bool b, Value.bool false, Value.ref p, Value.ref o] }
structure ZU (h : Heap) (z p o i j a b : Addr) (n : Nat) : Prop where
  zz : ∃ f fl, Yq h z p o f fl /\ (f = .none ∨ ∃ T : Nat, f = rawInt T)
  pp : IsPair h p (.ref i) (.ref j)
  oo : ∃ x y, IsPair h o x y
  ii : h.IsTupleIter i a n
  jj : h.IsTupleIter j b n
section
variable {prog : Program} {w : World} {A : Around} {E : Value -> Shared -> Prop} {s : Shared}
theorem KZ {a : Addr} {Q : Option Obj -> Shared -> Prop} (h : Q (s.heap.get? a) s) : wpAny (model prog w) A (loadIfAlive a) Q E s := by
  intro Γ p hΓ
  unfold loadIfAlive
  rw [Sem.wp_loadIfAlive]
  exact wpAny_pure (M := model prog w) (A := A) (E := E) h Γ p hΓ
theorem uI {z p o : Addr} {f : Value} {fl : Bool} {Q : Bool -> Shared -> Prop} (zz : Yq s.heap z p o f fl) (hf : f = .none ∨ ∃ T : Nat, f = rawInt T) (q1 : Q true s) (q2 : ∀ g, Yq g z p o f true -> Heap.ExtBut z s.heap g -> g.objs.size = s.heap.objs.size -> Q false { s with heap := g }) :
    wpAny (model prog w) A (Builtin.SmallTypes.ownedTupleIsFree (.ref z)) Q E s := by
  unfold Builtin.SmallTypes.ownedTupleIsFree
  rcases hf with rfl | ⟨T, rfl⟩
  . exact wpAny_bind (wpAny_field zz rfl (x := .none) rfl (wpAny_pure q1))
  . refine wpAny_bind (wpAny_field zz rfl (x := rawInt T) rfl ?_)
    show wpAny _ _ (loadIfAlive (T : Int).toNat >>= _) _ _ _
    refine wpAny_bind (KZ ?_)
    cases hT : s.heap.get? (T : Int).toNat with
    | none => exact wpAny_pure q1
    | some ob =>
      show wpAny _ _ (field (.ref z) 1 >>= _) _ _ _
      refine wpAny_bind (wpAny_field zz rfl (x := .bool fl) rfl ?_)
      cases fl with
      | true => exact wpAny_pure (q2 _ zz (fun _ _ _ e => e) rfl)
      | false =>
        show wpAny _ _ (setField (.ref z) 1 (.bool true) >>= _) _ _ _
        exact wpAny_bind (wpAny_setField_rec zz (by simp) fun g z1 k1 => wpAny_pure (q2 g z1 k1.extBut k1.1))
theorem Qci {z p o i j a b : Addr} {n : Nat} {xs ys : Array Value} {x y : Value} {Q : Value -> Shared -> Prop} (D : ZA z p o i j a b) (S : ZU s.heap z p o i j a b n) (ha : s.heap.IsTuple a xs) (hb : s.heap.IsTuple b ys) (hx : xs[n]? = some x) (hy : ys[n]? = some y)
    (k : ∀ g, ZU g z p o i j a b (n + 1) -> IsPair g s.heap.objs.size x y -> g.objs.size = s.heap.objs.size + 1 -> (∀ c u, c ≠ z -> c ≠ o -> c ≠ i -> c ≠ j -> s.heap.get? c = some u -> g.get? c = some u) -> Q (.ref s.heap.objs.size) { s with heap := g }) :
    wpAny (model prog w) A (Builtin.«zip.__next__» ⟨[.ref z], []⟩) (fun fin s' => ∃ v, fin = .done (.ret v) /\ Q v s') E s := by
  obtain ⟨⟨f, fl, zz, hf⟩, pp, ⟨u1, u2, oo⟩, ii, jj⟩ := S
  have ht : ∀ {g g' : Heap} {q c : Addr} {vs : Array Value}, Heap.SameBut q g g' -> c ≠ q -> g.IsTuple c vs -> g'.IsTuple c vs := fun {g g' q c vs} sb hc ⟨ob, e, r⟩ => ⟨ob, sb.extBut _ _ hc e, r⟩
  show wpAny _ _ (field (.ref z) 2 >>= _) _ _ _
  refine wpAny_bind (wpAny_field zz rfl (x := .bool false) rfl ?_)
  show wpAny _ _ (field (.ref z) 3 >>= _) _ _ _
  refine wpAny_bind (wpAny_field zz rfl (x := .ref p) rfl ?_)
  refine wpAny_bind (wpAny_seqItems pp rfl ?_)
  show wpAny _ _ (Builtin.SmallTypes.ownedTupleIsFree (.ref z) >>= _) _ _ _
  refine wpAny_bind (uI zz hf ?_ ?_)
  . simp only [if_true]
    refine wpAny_bind (wpAny_rule ?_)
    refine wpAny_bind (wpAny_field zz rfl (x := .ref o) rfl ?_)
    refine wpAny_bind (wpAny_setField_rec zz (by simp) fun g1 z1 k1 => ?_)
    replace z1 : Yq g1 z p o .ellipsis fl := z1
    refine wpAny_bind ?_
    simp only [List.zipIdx_cons, List.zipIdx_nil, List.forIn_cons, List.forIn_nil]
    refine wpAny_bind (wpAny_bind (wpAny_onRaise ?_))
    show wpAny _ _ (Builtin.SmallTypes.nextOf (.ref i) >>= _) _ _ _
    refine wpAny_bind (zR (ii.extBut k1.extBut D.iz) (ht k1 D.az ha) hx fun g2 i2 k2 => wpAny_pure ?_)
    have o2 : IsPair g2 o u1 u2 := k2.extBut _ _ D.oi (k1.extBut _ _ D.oz oo)
    refine wpAny_bind (wpAny_seqItems o2 rfl ?_)
    refine wpAny_bind (wpAny_updateSeq_pair o2 fun g3 o3 k3 => ?_)
    replace o3 : IsPair g3 o x u2 := o3
    refine wpAny_bind (wpAny_letGo (wpAny_pure ?_))
    refine wpAny_bind (wpAny_bind (wpAny_onRaise ?_))
    show wpAny _ _ (Builtin.SmallTypes.nextOf (.ref j) >>= _) _ _ _
    refine wpAny_bind (zR (((jj.extBut k1.extBut D.jz).extBut k2.extBut D.ij.symm).extBut k3.extBut D.oj.symm) (ht k3 D.bo (ht k2 D.bi (ht k1 D.bz hb))) hy fun g4 j4 k4 => wpAny_pure ?_)
    have o4 : IsPair g4 o x u2 := k4.extBut _ _ D.oj o3
    refine wpAny_bind (wpAny_seqItems o4 rfl ?_)
    refine wpAny_bind (wpAny_updateSeq_pair o4 fun g5 o5 k5 => ?_)
    replace o5 : IsPair g5 o x y := o5
    refine wpAny_bind (wpAny_letGo (wpAny_pure (wpAny_pure ?_)))
    refine wpAny_bind (wpAny_seqItems o5 rfl ?_)
    refine wpAny_bind (wpAny_newTuple ?_)
    have sz : g5.objs.size = s.heap.objs.size := by rw [k5.1, k4.1, k3.1, k2.1, k1.1]
    have z5 : Yq g5 z p o .ellipsis fl := k5.extBut _ _ D.oz.symm (k4.extBut _ _ D.jz.symm (k3.extBut _ _ D.oz.symm (k2.extBut _ _ D.iz.symm z1)))
    have kk : ∀ c u, c ≠ z -> c ≠ o -> c ≠ i -> c ≠ j -> s.heap.get? c = some u -> g5.get? c = some u := fun c u c1 c2 c3 c4 e => k5.extBut _ _ c2 (k4.extBut _ _ c4 (k3.extBut _ _ c2 (k2.extBut _ _ c3 (k1.extBut _ _ c1 e))))
    have i5 : g5.IsTupleIter i a (n + 1) := ((i2.extBut k3.extBut D.oi.symm).extBut k4.extBut D.ij).extBut k5.extBut D.oi.symm
    have j5 : g5.IsTupleIter j b (n + 1) := j4.extBut k5.extBut D.oj.symm
    have zl : z < g5.objs.size := Heap.lt_size z5
    show wpAny _ _ (Builtin.SmallTypes.ownedTupleHandOut (.ref z) (.ref g5.objs.size) >>= _) _ _ _
    refine wpAny_bind ?_
    unfold Builtin.SmallTypes.ownedTupleHandOut
    have z6 : Yq (g5.push { cls := .type "tuple", data := .seq #[x, y] }) z p o .ellipsis fl := Heap.get?_push_of_some _ z5
    refine wpAny_bind (wpAny_setField_rec z6 (by simp) fun g7 z7 k7 => ?_)
    replace z7 : Yq g7 z p o (rawInt g5.objs.size) fl := z7
    refine wpAny_setField_rec z7 (by simp) fun g8 z8 k8 => ?_
    replace z8 : Yq g8 z p o (rawInt g5.objs.size) false := z8
    have up : ∀ c u, c ≠ z -> g5.get? c = some u -> g8.get? c = some u := fun c u c1 e => k8.extBut _ _ c1 (k7.extBut _ _ c1 (Heap.get?_push_of_some _ e))
    have t8 : IsPair g8 g5.objs.size x y := k8.extBut _ _ (Nat.ne_of_gt zl) (k7.extBut _ _ (Nat.ne_of_gt zl) (Heap.get?_push_size _ rfl))
    have s8 : g8.objs.size = g5.objs.size + 1 := by rw [k8.1, k7.1, Heap.size_push]
    refine wpAny_pure ⟨_, rfl, ?_⟩
    show Q (.ref g5.objs.size) _
    rw [sz] at z8 t8 s8
    rw [sz]
    exact k g8 ⟨⟨_, _, z8, .inr ⟨_, rfl⟩⟩, up _ _ D.pz (kk _ _ D.pz D.po D.pi D.pj pp), ⟨x, y, up _ _ D.oz o5⟩, i5.at fun u e => up _ u D.iz e, j5.at fun u e => up _ u D.jz e⟩ t8 s8 fun c u c1 c2 c3 c4 e => up c u c1 (kk c u c1 c2 c3 c4 e)
  . intro g1 z1 k1 sz1
    simp only [Bool.false_eq_true, if_false]
    refine wpAny_bind ?_
    have ia1 : g1.IsTuple a xs := let ⟨ob, e, r⟩ := ha; ⟨ob, k1 _ _ D.az e, r⟩
    have ib1 : g1.IsTuple b ys := let ⟨ob, e, r⟩ := hb; ⟨ob, k1 _ _ D.bz e, r⟩
    simp only [List.forIn_toArray, List.forIn_cons, List.forIn_nil]
    refine wpAny_bind (wpAny_bind (wpAny_holding ?_))
    show wpAny _ _ (Builtin.SmallTypes.nextOf (.ref i) >>= _) _ _ _
    refine wpAny_bind (zR (s := { s with heap := g1 }) (ii.extBut k1 D.iz) ia1 hx fun g2 i2 k2 => wpAny_pure (wpAny_pure ?_))
    refine wpAny_bind (wpAny_bind (wpAny_holding ?_))
    show wpAny _ _ (Builtin.SmallTypes.nextOf (.ref j) >>= _) _ _ _
    refine wpAny_bind (zR (s := { s with heap := g2 }) ((jj.extBut k1 D.jz).extBut k2.extBut D.ij.symm) (ht k2 D.bi ib1) hy fun g3 j3 k3 => wpAny_pure (wpAny_pure ?_))
    refine wpAny_pure ?_
    refine wpAny_bind (wpAny_newTuple ?_ (show (2 : Nat) <= sizeLine by decide))
    have sz : g3.objs.size = s.heap.objs.size := by rw [k3.1, k2.1, sz1]
    have kk : ∀ c u, c ≠ z -> c ≠ i -> c ≠ j -> s.heap.get? c = some u -> (g3.push { cls := .type "tuple", data := .seq #[x, y] }).get? c = some u := fun c u c1 c3 c4 e => Heap.get?_push_of_some _ (k3.extBut _ _ c4 (k2.extBut _ _ c3 (k1 _ _ c1 e)))
    have z3 : Yq (g3.push { cls := .type "tuple", data := .seq #[x, y] }) z p o f true := Heap.get?_push_of_some _ (k3.extBut _ _ D.jz.symm (k2.extBut _ _ D.iz.symm z1))
    refine wpAny_pure ⟨_, rfl, ?_⟩
    show Q (.ref g3.objs.size) _
    rw [sz]
    refine k _ ⟨⟨f, true, z3, hf⟩, kk _ _ D.pz D.pi D.pj pp, ⟨u1, u2, kk _ _ D.oz D.oi D.oj oo⟩, (i2.extBut k3.extBut D.ij).at fun u e => Heap.get?_push_of_some _ e, j3.at fun u e => Heap.get?_push_of_some _ e⟩ ?_ (by rw [Heap.size_push, sz]) fun c u c1 _ c3 c4 e => kk c u c1 c3 c4 e
    rw [<- sz]; exact Heap.get?_push_size _ rfl
theorem Qb9 {z p o i j a b : Addr} {n : Nat} {xs ys : Array Value} {Q : PySem.Fin -> Shared -> Prop} (hh : A.handled = none) (D : ZA z p o i j a b) (S : ZU s.heap z p o i j a b n) (ha : s.heap.IsTuple a xs) (hb : s.heap.IsTuple b ys) (he : xs[n]? = none ∨ ys[n]? = none)
    (k : ∀ g x, (∀ c u, c ≠ z -> c ≠ o -> c ≠ i -> c ≠ j -> s.heap.get? c = some u -> g.get? c = some u) -> (∃ u, g.get? x = some u /\ u.cls = .type "StopIteration") -> E (.ref x) { s with heap := g }) :
    wpAny (model prog w) A (Builtin.«zip.__next__» ⟨[.ref z], []⟩) Q E s := by
  obtain ⟨⟨f, fl, zz, hf⟩, pp, ⟨u1, u2, oo⟩, ii, jj⟩ := S
  have ht : ∀ {g g' : Heap} {q c : Addr} {vs : Array Value}, Heap.SameBut q g g' -> c ≠ q -> g.IsTuple c vs -> g'.IsTuple c vs := fun {g g' q c vs} sb hc ⟨ob, e, r⟩ => ⟨ob, sb.extBut _ _ hc e, r⟩
  show wpAny _ _ (field (.ref z) 2 >>= _) _ _ _
  refine wpAny_bind (wpAny_field zz rfl (x := .bool false) rfl ?_)
  show wpAny _ _ (field (.ref z) 3 >>= _) _ _ _
  refine wpAny_bind (wpAny_field zz rfl (x := .ref p) rfl ?_)
  refine wpAny_bind (wpAny_seqItems pp rfl ?_)
  show wpAny _ _ (Builtin.SmallTypes.ownedTupleIsFree (.ref z) >>= _) _ _ _
  refine wpAny_bind (uI zz hf ?_ ?_)
  . simp only [if_true]
    refine wpAny_bind (wpAny_rule ?_)
    refine wpAny_bind (wpAny_field zz rfl (x := .ref o) rfl ?_)
    refine wpAny_bind (wpAny_setField_rec zz (by simp) fun g1 z1 k1 => ?_)
    replace z1 : Yq g1 z p o .ellipsis fl := z1
    refine wpAny_bind ?_
    simp only [List.zipIdx_cons, List.zipIdx_nil, List.forIn_cons, List.forIn_nil]
    refine wpAny_bind (wpAny_bind (wpAny_onRaise ?_))
    show wpAny _ _ (Builtin.SmallTypes.nextOf (.ref i) >>= _) _ _ _
    cases hx : xs[n]? with
    | none =>
      refine wpAny_bind (Kf hh (ii.extBut k1.extBut D.iz) (ht k1 D.az ha) hx fun g2 x k2 h2 => ?_)
      obtain ⟨oe, h3, h4⟩ := h2
      have z2 : Yq g2 z p o .ellipsis fl := k2 _ _ D.iz.symm z1
      have xz : x ≠ z := fun q => by subst q; rw [z2] at h3; cases h3; simp at h4
      exact wpAny_setField_rec z2 (by simp) fun g3 _ k3 => k g3 x (fun c u c1 _ c3 _ e => k3.extBut _ _ c1 (k2 _ _ c3 (k1.extBut _ _ c1 e))) ⟨oe, k3.extBut _ _ xz h3, h4⟩
    | some x0 =>
      have hy : ys[n]? = none := by rcases he with h | h; rw [hx] at h; cases h; exact h
      refine wpAny_bind (zR (ii.extBut k1.extBut D.iz) (ht k1 D.az ha) hx fun g2 i2 k2 => wpAny_pure ?_)
      have o2 : IsPair g2 o u1 u2 := k2.extBut _ _ D.oi (k1.extBut _ _ D.oz oo)
      refine wpAny_bind (wpAny_seqItems o2 rfl ?_)
      refine wpAny_bind (wpAny_updateSeq_pair o2 fun g3 o3 k3 => ?_)
      refine wpAny_bind (wpAny_letGo (wpAny_pure ?_))
      refine wpAny_bind (wpAny_bind (wpAny_onRaise ?_))
      show wpAny _ _ (Builtin.SmallTypes.nextOf (.ref j) >>= _) _ _ _
      refine wpAny_bind (Kf hh (((jj.extBut k1.extBut D.jz).extBut k2.extBut D.ij.symm).extBut k3.extBut D.oj.symm) (ht k3 D.bo (ht k2 D.bi (ht k1 D.bz hb))) hy fun g4 x k4 h2 => ?_)
      obtain ⟨oe, h3, h4⟩ := h2
      have z4 : Yq g4 z p o .ellipsis fl := k4 _ _ D.jz.symm (k3.extBut _ _ D.oz.symm (k2.extBut _ _ D.iz.symm z1))
      have xz : x ≠ z := fun q => by subst q; rw [z4] at h3; cases h3; simp at h4
      exact wpAny_setField_rec z4 (by simp) fun g5 _ k5 => k g5 x (fun c u c1 c2 c3 c4 e => k5.extBut _ _ c1 (k4 _ _ c4 (k3.extBut _ _ c2 (k2.extBut _ _ c3 (k1.extBut _ _ c1 e))))) ⟨oe, k5.extBut _ _ xz h3, h4⟩
  . intro g1 z1 k1 sz1
    simp only [Bool.false_eq_true, if_false]
    refine wpAny_bind ?_
    have ia1 : g1.IsTuple a xs := let ⟨ob, e, r⟩ := ha; ⟨ob, k1 _ _ D.az e, r⟩
    have ib1 : g1.IsTuple b ys := let ⟨ob, e, r⟩ := hb; ⟨ob, k1 _ _ D.bz e, r⟩
    simp only [List.forIn_toArray, List.forIn_cons, List.forIn_nil]
    refine wpAny_bind (wpAny_bind (wpAny_holding ?_))
    show wpAny _ _ (Builtin.SmallTypes.nextOf (.ref i) >>= _) _ _ _
    cases hx : xs[n]? with
    | none =>
      exact wpAny_bind (Kf (s := { s with heap := g1 }) hh (ii.extBut k1 D.iz) ia1 hx fun g2 x k2 h2 => k g2 x (fun c u c1 _ c3 _ e => k2 _ _ c3 (k1 _ _ c1 e)) h2)
    | some x0 =>
      have hy : ys[n]? = none := by rcases he with h | h; rw [hx] at h; cases h; exact h
      refine wpAny_bind (zR (s := { s with heap := g1 }) (ii.extBut k1 D.iz) ia1 hx fun g2 i2 k2 => wpAny_pure (wpAny_pure ?_))
      refine wpAny_bind (wpAny_bind (wpAny_holding ?_))
      show wpAny _ _ (Builtin.SmallTypes.nextOf (.ref j) >>= _) _ _ _
      exact wpAny_bind (Kf (s := { s with heap := g2 }) hh ((jj.extBut k1 D.jz).extBut k2.extBut D.ij.symm) (ht k2 D.bi ib1) hy fun g3 x k3 h2 => k g3 x (fun c u c1 _ c3 c4 e => k3 _ _ c4 (k2.extBut _ _ c3 (k1 _ _ c1 e))) h2)
end
theorem ZU.at {h h' : Heap} {z p o i j a b : Addr} {n : Nat} (S : ZU h z p o i j a b n) (k : ∀ c ∈ [z, p, o, i, j], ∀ u, h.get? c = some u -> h'.get? c = some u) : ZU h' z p o i j a b n := by
  obtain ⟨⟨f, fl, zz, hf⟩, pp, ⟨u1, u2, oo⟩, ii, jj⟩ := S
  exact ⟨⟨f, fl, k z (by simp) _ zz, hf⟩, k p (by simp) _ pp, ⟨u1, u2, k o (by simp) _ oo⟩, ii.at fun u e => k i (by simp) u e, jj.at fun u e => k j (by simp) u e⟩
theorem uX {P : Program} {w : World} {K : PySem.W.Frag} {xn : Str} {pos : Pos} {z p o i j a b : Addr} (D : ZA z p o i j a b) : kY P w K (.Name xn pos) (Itz K a b) [z, p, o, i, j] z (fun n h => ZU h z p o i j a b n) where
  mem := by simp
  obj := fun n h S c hc => by
    obtain ⟨⟨f, fl, zz, hf⟩, pp, ⟨u1, u2, oo⟩, ⟨oi, ei, ci, di⟩, ⟨oj, ej, cj, dj⟩⟩ := S
    simp only [List.mem_cons, List.not_mem_nil, or_false] at hc
    rcases hc with rfl | rfl | rfl | rfl | rfl
    . exact ⟨_, zz, fun v q => by have q' : Data.fields _ = Data.cell v := q; cases q'⟩
    . exact ⟨_, pp, fun v q => by have q' : Data.seq _ _ = Data.cell v := q; cases q'⟩
    . exact ⟨_, oo, fun v q => by have q' : Data.seq _ _ = Data.cell v := q; cases q'⟩
    . exact ⟨oi, ei, fun v q => by rw [di] at q; cases q⟩
    . exact ⟨oj, ej, fun v q => by rw [dj] at q; cases q⟩
  keep := fun n h h' S k => S.at k
  item := by
    intro X hP hw hK hc n pins s σ H E I hf S hg
    subst hP hw hK
    obtain ⟨xs, ys, x, y, qa, qb, hx, hy⟩ := hg
    obtain ⟨ia, ra, pa, _⟩ := I.tuple qa
    obtain ⟨ib, rb, pb, _⟩ := I.tuple qb
    obtain ⟨u, hu, ru⟩ := ra.get hx
    obtain ⟨v, hv, rv⟩ := rb.get hy
    obtain ⟨f0, fl0, zz0, hf0⟩ := S.zz
    have hT : s.TypeIs (.ref z) "zip" := ⟨_, zz0, rfl⟩
    unfold pyNext
    refine wpAny_bind (wpAny_attempt (wpAny_callSpecial?_slot (name := Str.ofString "__next__") hT F.slot_zip_next (wpAny_call_entry F.slot_zip_next hT F.entry_zip_next
      (Qci D S (show s.heap.IsTuple a ia.toArray from pa) (show s.heap.IsTuple b ib.toArray from pb) (by simpa using hu) (by simpa using hv) fun g' S' tp sz kp => wpAny_pure ?_) (F.args_zip_next_1 _))))
    refine ⟨_, rfl, wpAny_pure ?_⟩
    have kp' : ∀ c q, c ∉ [z, p, o, i, j] -> s.heap.get? c = some q -> g'.get? c = some q := fun c q hc e => by
      simp only [List.mem_cons, List.not_mem_nil, or_false, not_or] at hc
      exact kp c q hc.1 hc.2.2.1 hc.2.2.2.1 hc.2.2.2.2 e
    have ne : ∀ c ∈ [z, p, o, i, j], c ≠ s.heap.objs.size := fun c hc e => by
      obtain ⟨_, pp, ⟨u1, u2, oo⟩, ⟨oi, ei, _⟩, ⟨oj, ej, _⟩⟩ := S
      simp only [List.mem_cons, List.not_mem_nil, or_false] at hc
      rcases hc with rfl | rfl | rfl | rfl | rfl
      . exact Nat.ne_of_lt (Heap.lt_size zz0) e
      . exact Nat.ne_of_lt (Heap.lt_size pp) e
      . exact Nat.ne_of_lt (Heap.lt_size oo) e
      . exact Nat.ne_of_lt (Heap.lt_size ei) e
      . exact Nat.ne_of_lt (Heap.lt_size ej) e
    refine ⟨.ref s.heap.objs.size, upd H s.heap.objs.size (.tup [x, y]), I.turnNew (t' := s.toks) hf kp' (us := [u, v]) (.cons ru (.cons rv .nil)) (show 2 <= sizeLine by decide) ⟨_, tp, rfl, _, rfl⟩, rfl,
      ⟨_, x, y, I.hok.fresh (Nat.le_refl _), fun xs' h => by rw [I.tuple_inj h qa]; exact hx, fun ys' h => by rw [I.tuple_inj h qb]; exact hy, rfl, rfl⟩, S', fun c hc => ?_⟩
    rw [QS (ne c hc)]; exact (hf c hc).1
  done := by
    intro X hP hw hK hc n pins s σ H E I hf S hg
    subst hP hw hK
    obtain ⟨xs, ys, qa, qb, hs⟩ := hg
    obtain ⟨ia, ra, pa, _⟩ := I.tuple qa
    obtain ⟨ib, rb, pb, _⟩ := I.tuple qb
    have l1 := ra.length
    have l2 := rb.length
    obtain ⟨f0, fl0, zz0, hf0⟩ := S.zz
    have hT : s.TypeIs (.ref z) "zip" := ⟨_, zz0, rfl⟩
    unfold pyNext
    refine wpAny_bind (wpAny_attempt (wpAny_callSpecial?_slot (name := Str.ofString "__next__") hT F.slot_zip_next (wpAny_call_entry F.slot_zip_next hT F.entry_zip_next
      (Qb9 (I.ok.hd hc) D S (show s.heap.IsTuple a ia.toArray from pa) (show s.heap.IsTuple b ib.toArray from pb) (by rcases hs with q | q; exact .inl (by simp; omega); exact .inr (by simp; omega)) fun g x kp hx => ?_) (F.args_zip_next_1 _))))
    obtain ⟨ox, h1, h2⟩ := hx
    refine wpAny_bind (wpAny_isInstance (T := "StopIteration") (b := true) ⟨ox, h1, h2⟩ isSubtype_stop ?_)
    refine wpAny_pure ⟨rfl, I.turnL (t' := s.toks) hf fun c q hc e => ?_⟩
    simp only [List.mem_cons, List.not_mem_nil, or_false, not_or] at hc
    exact kp c q hc.1 hc.2.2.1 hc.2.2.2.1 hc.2.2.2.2 e
  self := fun _ _ _ _ _ S h => by
    obtain ⟨f0, fl0, zz0, hf0⟩ := S.zz
    have hT : Shared.TypeIs _ (Value.ref z) "zip" := ⟨_, zz0, rfl⟩
    refine wpAny_pyIter_slot hT F.slot_zip_iter (wpAny_call_entry F.slot_zip_iter hT F.entry_zip_iter ?_ (F.args_zip_iter_1 _))
    exact wpAny_pure ⟨_, rfl, "zip", _, hT, (F.slot_zip_next).1, h⟩
section
variable {X : Cx} {xn : Str} {p2 : Pos}
theorem QbV {pins : List (Addr × Obj)} {σ : L2.St} {H : Hp} {s : Shared} {R : It -> Hp -> Prop} {E : Value -> Shared -> Prop} {a b : Addr} {xs ys : List V} (I : Inv X pins σ H s) (qa : SqT X.K H a xs) (qb : SqT X.K H b ys) (q : R (Itz X.K a b) H) :
    wpAny (model X.prog X.w) X.A (call (.type "zip") [.ref a, .ref b]) (fun v s1 => wpAny (model X.prog X.w) X.A (pyIter v) (PIE X pins σ (.Name xn p2) R) E s1) E s := by
  obtain ⟨ia, ra, pa, _⟩ := I.tuple qa
  obtain ⟨ib, rb, pb, _⟩ := I.tuple qb
  refine callType_new F.called_zip (by decide) (F.typeCall_zip_2 _ _) (F.newCall_zip_2 _ _) (fun obj => F.args_object_init_3 obj _ _) F.entry_zip_new (Qcb a b ia.toArray ib.toArray) ⟨show s.heap.IsTuple a ia.toArray from pa, show s.heap.IsTuple b ib.toArray from pb, ?_⟩
  have z1 : (zt1 s.heap a).objs.size = s.heap.objs.size + 1 := Heap.size_push ..
  have z2 : (zt2 s.heap a b).objs.size = s.heap.objs.size + 2 := by rw [Heap.size_push, z1]
  have z3 : (zt3 s.heap a b).objs.size = s.heap.objs.size + 3 := by rw [Heap.size_push, z2]
  have z4 : (zt4 s.heap a b).objs.size = s.heap.objs.size + 4 := by rw [Heap.size_push, z3]
  have g5 : (zt5 s.heap a b).get? (zt4 s.heap a b).objs.size = some _ := Heap.get?_push_size _ rfl
  have g4 : (zt5 s.heap a b).get? (zt3 s.heap a b).objs.size = some _ := Heap.get?_push_of_some _ (Heap.get?_push_size _ rfl)
  have g3 : (zt5 s.heap a b).get? (zt2 s.heap a b).objs.size = some _ := Heap.get?_push_of_some _ (Heap.get?_push_of_some _ (Heap.get?_push_size _ rfl))
  have g2 : (zt5 s.heap a b).get? (zt1 s.heap a).objs.size = some _ := Heap.get?_push_of_some _ (Heap.get?_push_of_some _ (Heap.get?_push_of_some _ (Heap.get?_push_size _ rfl)))
  have g1 : (zt5 s.heap a b).get? s.heap.objs.size = some _ := Heap.get?_push_of_some _ (Heap.get?_push_of_some _ (Heap.get?_push_of_some _ (Heap.get?_push_of_some _ (Heap.get?_push_size _ rfl))))
  show _ /\ _
  have kp : ∀ c o, s.heap.get? c = some o -> (zt5 s.heap a b).get? c = some o := fun c o e => Heap.get?_push_of_some _ (Heap.get?_push_of_some _ (Heap.get?_push_of_some _ (Heap.get?_push_of_some _ (Heap.get?_push_of_some _ e))))
  refine ⟨⟨_, g5, rfl⟩, ?_⟩
  rw [z2, z3, z4] at g5
  rw [z1, z2] at g3
  rw [z3] at g4
  rw [z1] at g2
  rw [z4]
  have la : a < s.heap.objs.size := by obtain ⟨o, e, _⟩ := pa; exact Heap.lt_size e
  have lb : b < s.heap.objs.size := by obtain ⟨o, e, _⟩ := pb; exact Heap.lt_size e
  have D : ZA (s.heap.objs.size + 4) (s.heap.objs.size + 2) (s.heap.objs.size + 3) s.heap.objs.size (s.heap.objs.size + 1) a b := by constructor <;> first | exact Nat.ne_of_lt la | exact Nat.ne_of_lt lb | exact Nat.ne_of_lt (Nat.lt_of_lt_of_le la (Nat.le_add_right _ _)) | exact Nat.ne_of_lt (Nat.lt_of_lt_of_le lb (Nat.le_add_right _ _)) | exact Nat.ne_of_lt (by omega) | exact Nat.ne_of_gt (by omega)
  have I1 : Inv X pins σ H { s with heap := zt5 s.heap a b } := I.kept (t' := s.toks) kp
  have S : ZU (zt5 s.heap a b) (s.heap.objs.size + 4) (s.heap.objs.size + 2) (s.heap.objs.size + 3) s.heap.objs.size (s.heap.objs.size + 1) a b 0 := ⟨⟨_, _, g5, .inl rfl⟩, g3, ⟨_, _, g4⟩, ⟨_, g1, rfl, rfl⟩, ⟨_, g2, rfl, rfl⟩⟩
  refine wpAny_pyIter_zip (s := { s with heap := zt5 s.heap a b }) g5 ⟨_, [s.heap.objs.size + 4, s.heap.objs.size + 2, s.heap.objs.size + 3, s.heap.objs.size, s.heap.objs.size + 1], _, Itz X.K a b, H, rfl, I1, uX D, S, fun c hc => ?_, q⟩
  have hc' : s.heap.objs.size <= c := by
    simp only [List.mem_cons, List.not_mem_nil, or_false] at hc
    rcases hc with rfl | rfl | rfl | rfl | rfl <;> first | exact Nat.le_refl _ | exact Nat.le_add_right _ _
  exact I.fpOk hc' (I.hok.fresh hc')
theorem Qcg {x y : Expr} {ta : TA} {p pos : Pos} (hg : Gl X "zip") (hm : X.mg "zip" = none) (ha : PA X [x, y] ta) (hs : starEach [x, y] X.env = [(false, eval x X.env), (false, eval y X.env)] := by rfl) (hs2 : starEach [y] X.env = [(false, eval y X.env)] := by rfl) :
    PI X (.Name xn p2) (.Call (.Name "zip" p) [x, y] [] pos) (QeS X.K ta) := by
  intro pins s σ H R I h
  refine Call_ (yV I hg hm boot_zip (PyProof.Rows.callWith_type1 (thn (ha pos pins s σ H _ I h) fun us s1 ⟨vs, H1, I1, r1, q1⟩ => ?_) (by rw [hs, hs2]) (by rw [hs2]; rfl)))
  obtain ⟨a, b, xs, ys, e, qa, qb, q⟩ := q1
  subst e
  cases r1 with
  | cons r rr =>
    cases rr with
    | cons r' rr =>
      cases rr
      cases r
      cases r'
      exact QbV I1 qa qb q
end
end L2
namespace D
open PySem PySem.Spec PyProof.Rows L2
section
variable {X : Cx} {xn : Str} {p2 : Pos} {f g : DEx}
theorem QbI {x y : Expr} {p pos : Pos} (hg : Gl X "zip") (hm : X.mg "zip" = none) (hx : DE X x f) (hy : DE X y g) (hs : starEach [x, y] X.env = [(false, eval x X.env), (false, eval y X.env)] := by rfl) (hs2 : starEach [y] X.env = [(false, eval y X.env)] := by rfl) :
    DI X (.Name xn p2) (.Call (.Name "zip" p) [x, y] [] pos) (QaW f g) :=
  L2.PI.imp (Qcg hg hm (Kl hx (Kl hy pa_nil (by rw [hs2]; rfl)) (by rw [hs, hs2])) hs hs2) fun σ H R ⟨Z, env, ρ, B, hp, ds, hp', S, e, k⟩ => by
    obtain ⟨d1, hp1, e1, e⟩ := Qf e
    obtain ⟨xs, hp2, e2, e⟩ := Qf e
    obtain ⟨rfl, rfl⟩ := xS e2
    obtain ⟨d2, hp3, e3, e⟩ := Qf e
    obtain ⟨ys, hp4, e4, e⟩ := Qf e
    obtain ⟨rfl, rfl⟩ := xS e4
    obtain ⟨rfl, rfl⟩ := Qj e
    refine tD.run S e1 fun v ρ1 B1 H1 g1 S1 r1 => tD.run S1 e3 fun u ρ2 B2 H2 g2 S2 r2 => ?_
    obtain ⟨a, vs, rfl, na, qa, la⟩ := (RepV.grow S1.wo.rb g2 _ _ r1).tupI
    obtain ⟨b, us, rfl, nb, qb, lb⟩ := r2.tupI
    exact ⟨a, b, vs, us, rfl, qa, qb, k _ ρ2 B2 H2 (g1.trans g2) S2.wo (Qc9 na qa la nb qb lb)⟩
end
end D
namespace TR
structure Pg where
  lv : Nat
  ks : List Int
  ps : List Int
  hi : Option Int
  sd : Option Nat
structure Sh where
  room : Nat
  pg : List Pg
  top : Nat
  rd : Int
  wr : Int
inductive Deed where
  | find (k : Int) | put (k w : Int) | cut (k : Int) | stretch (l h : Int)
def Deed.key : Deed -> Int
  | .find k => k
  | .put k _ => k
  | .cut k => k
  | .stretch l _ => l
structure Wk where
  deed : Deed
  aim : Int
  goal : Nat
  place : Option Nat
  forks : List (Nat × Nat)
  newp : Option Nat
  worth : Option Int
  pairs : List (Int × Int)
  ended : Bool
inductive Row where
  | non
  | side (n t : Nat)
  | down (n t : Nat)
  | found (n : Nat) (w : Option Int)
  | put (n : Nat) (w : Option Int) (k : Option Nat)
  | cut (n : Nat) (w : Option Int)
  | read (n : Nat) (ps : List (Int × Int)) (t : Option (Nat × Int))
  | told (n : Nat) (k : Option Nat)
  | raised (n t : Nat)
def cLe (ks : List Int) (k : Int) : Nat := (ks.filter fun x => decide (x <= k)).length
def cLt (ks : List Int) (k : Int) : Nat := (ks.filter fun x => decide (x < k)).length
def X7 (fs : List (Nat × Nat)) (k : Nat) : Option Nat := (fs.find? fun p => decide (p.1 = k)).map (·.2)
def yB (fs : List (Nat × Nat)) (k v : Nat) : List (Nat × Nat) := if (fs.any fun p => decide (p.1 = k)) = true then fs.map (fun p => if p.1 = k then (p.1, v) else p) else fs ++ [(k, v)]
def Yi (p : Pg) (k : Int) : Bool := match p.hi with
  | none => false
  | some h => decide (h <= k)
def Q0 (p : Pg) (k : Int) : Option Int := if cLt p.ks k = cLe p.ks k then none else p.ps[cLt p.ks k]?
def Q2 (p : Pg) (k w : Int) : Pg := { p with ks := p.ks.take (cLt p.ks k) ++ k :: p.ks.drop (cLe p.ks k), ps := p.ps.take (cLt p.ks k) ++ w :: p.ps.drop (cLe p.ks k) }
def without (p : Pg) (k : Int) : Pg := { p with ks := p.ks.take (cLt p.ks k) ++ p.ks.drop (cLe p.ks k), ps := p.ps.take (cLt p.ks k) ++ p.ps.drop (cLe p.ks k) }
def ZY (p : Pg) (k : Int) (c : Nat) : Pg := { p with ks := p.ks.take (cLe p.ks k) ++ k :: p.ks.drop (cLe p.ks k), ps := p.ps.take (cLe p.ks k + 1) ++ (c : Int) :: p.ps.drop (cLe p.ks k + 1) }
def mid (p : Pg) : Nat := p.ks.length / 2
def ZE (p : Pg) : Nat := if p.lv = 0 then mid p else mid p + 1
def Xs (p : Pg) : Int := p.ks.getD (mid p) 0
def Zk (p : Pg) (n : Nat) : Pg := ⟨p.lv, p.ks.take (mid p), p.ps.take (ZE p), some (Xs p), some n⟩
def Q3 (p : Pg) : Pg := ⟨p.lv, p.ks.drop (ZE p), p.ps.drop (ZE p), p.hi, p.sd⟩
def Zf (S : Sh) (w : Wk) (n : Nat) (p : Pg) : Option Nat × Sh × Wk :=
  if p.ks.length <= S.room then (none, { S with pg := S.pg.set n p, wr := S.wr + 1 }, { w with ended := true })
  else (some S.pg.length, { S with pg := (S.pg ++ [Q3 p]).set n (Zk p S.pg.length), wr := S.wr + 1 + 1 }, { w with newp := some S.pg.length, aim := Xs p, goal := p.lv + 1, place := X7 w.forks (p.lv + 1) })
def QV (p : Pg) (l h : Int) : List (Int × Int) := (p.ks.zip p.ps).filter fun q => decide (l <= q.1) && decide (q.1 < h)
def Xq (S : Sh) (w : Wk) (n : Nat) (p : Pg) : Row × Sh × Wk := match w.deed with
  | .find _ => (.found n (Q0 p w.aim), S, { w with worth := Q0 p w.aim, ended := true })
  | .put _ x => match Zf S { w with worth := Q0 p w.aim } n (Q2 p w.aim x) with
    | (r, S2, w2) => (.put n (Q0 p w.aim) r, S2, w2)
  | .cut _ => (.cut n (Q0 p w.aim), if (Q0 p w.aim).isSome = true then { S with pg := S.pg.set n (without p w.aim), wr := S.wr + 1 } else S, { w with worth := Q0 p w.aim, ended := true })
  | .stretch l h => match p.hi, p.sd with
    | some x, some s => if h <= x then (.read n (QV p l h) none, S, { w with pairs := w.pairs ++ QV p l h, ended := true })
        else (.read n (QV p l h) (some (s, x)), S, { w with pairs := w.pairs ++ QV p l h, aim := x, place := some s })
    | _, _ => (.read n (QV p l h) none, S, { w with pairs := w.pairs ++ QV p l h, ended := true })
def Vn (S : Sh) (w : Wk) : Option (Row × Sh × Wk) :=
  if w.ended = true then some (.non, S, w) else
  match S.pg[w.place.getD S.top]? with
  | none => none
  | some p =>
    if w.place = none /\ p.lv < w.goal then
      match w.newp with
      | none => none
      | some k => some (.raised S.top S.pg.length, { S with rd := S.rd + 1, pg := S.pg ++ [⟨p.lv + 1, [w.aim], [(S.top : Int), (k : Int)], none, none⟩], top := S.pg.length, wr := S.wr + 1 }, { w with ended := true })
    else if Yi p w.aim = true then
      match p.sd with
      | none => none
      | some s => some (.side (w.place.getD S.top) s, { S with rd := S.rd + 1 }, { w with place := some s })
    else if w.goal < p.lv then
      match p.ps[cLe p.ks w.aim]? with
      | none => none
      | some c => some (.down (w.place.getD S.top) c.toNat, { S with rd := S.rd + 1 }, { w with forks := yB w.forks p.lv (w.place.getD S.top), place := some c.toNat })
    else if 0 < w.goal then
      match w.newp with
      | none => none
      | some k => match Zf { S with rd := S.rd + 1 } w (w.place.getD S.top) (ZY p w.aim k) with
        | (r, S2, w2) => some (.told (w.place.getD S.top) r, S2, w2)
    else some (Xq { S with rd := S.rd + 1 } w (w.place.getD S.top) p)
theorem zL {ks : List Int} (h : ks.Pairwise (· < ·)) (k : Int) : ks.take (cLe ks k) = ks.filter (fun x => decide (x <= k)) /\ ks.drop (cLe ks k) = ks.filter (fun x => decide (k < x)) := by
  unfold cLe
  induction ks with
  | nil => simp
  | cons x xs ih =>
    obtain ⟨h1, h2⟩ := List.pairwise_cons.mp h
    by_cases q : x <= k
    . obtain ⟨i1, i2⟩ := ih h2
      have q' : ¬ k < x := by omega
      simp [List.filter_cons, q, q', i1, i2]
    . have e : xs.filter (fun y => decide (y <= k)) = [] := by
        rw [List.filter_eq_nil_iff]
        intro y hy; have := h1 y hy; simp; omega
      have e2 : xs.filter (fun y => decide (k < y)) = xs := by
        rw [List.filter_eq_self]
        intro y hy; have := h1 y hy; simp; omega
      have q' : k < x := by omega
      simp [List.filter_cons, q, q', e, e2]
theorem jW {ks : List Int} (h : ks.Pairwise (· < ·)) (k : Int) : ks.take (cLt ks k) = ks.filter (fun x => decide (x < k)) /\ ks.drop (cLt ks k) = ks.filter (fun x => decide (k <= x)) := by
  unfold cLt
  induction ks with
  | nil => simp
  | cons x xs ih =>
    obtain ⟨h1, h2⟩ := List.pairwise_cons.mp h
    by_cases q : x < k
    . obtain ⟨i1, i2⟩ := ih h2
      have q' : ¬ k <= x := by omega
      simp [List.filter_cons, q, q', i1, i2]
    . have e : xs.filter (fun y => decide (y < k)) = [] := by
        rw [List.filter_eq_nil_iff]
        intro y hy; have := h1 y hy; simp; omega
      have e2 : xs.filter (fun y => decide (k <= y)) = xs := by
        rw [List.filter_eq_self]
        intro y hy; have := h1 y hy; simp; omega
      have q' : k <= x := by omega
      simp [List.filter_cons, q, q', e, e2]
theorem X4 (ks : List Int) (k : Int) : cLe ks k <= ks.length := List.length_filter_le _ _
theorem xT (ks : List Int) (k : Int) : cLt ks k <= ks.length := List.length_filter_le _ _
theorem UJ (ks : List Int) (k : Int) : cLt ks k <= cLe ks k := by
  unfold cLt cLe
  induction ks with
  | nil => simp
  | cons x xs ih =>
    by_cases q : x < k
    . have : x <= k := by omega
      simp [List.filter_cons, q, this, ih]
    . by_cases q2 : x <= k
      . simp [List.filter_cons, q, q2]; omega
      . simp [List.filter_cons, q, q2, ih]
theorem QeV {ks : List Int} (h : ks.Pairwise (· < ·)) (k : Int) : cLe ks k <= cLt ks k + 1 := by
  unfold cLt cLe
  induction ks with
  | nil => simp
  | cons x xs ih =>
    obtain ⟨h1, h2⟩ := List.pairwise_cons.mp h
    by_cases q : x < k
    . have : x <= k := by omega
      have := ih h2
      simp [List.filter_cons, q, *]
    . have e : xs.filter (fun y => decide (y <= k)) = [] := by
        rw [List.filter_eq_nil_iff]
        intro y hy; have := h1 y hy; simp; omega
      by_cases q2 : x <= k <;> simp [List.filter_cons, q, q2, e]
theorem VF {ks : List Int} (h : ks.Pairwise (· < ·)) (k : Int) : (ks.take (cLt ks k) ++ k :: ks.drop (cLe ks k)).Pairwise (· < ·) := by
  rw [(jW h k).1, (zL h k).2]
  rw [List.pairwise_append]
  refine ⟨h.filter _, List.pairwise_cons.mpr ⟨fun y hy => ?_, h.filter _⟩, fun x hx y hy => ?_⟩
  . simpa using (List.mem_filter.mp hy).2
  . have h1 : x < k := by simpa using (List.mem_filter.mp hx).2
    rcases List.mem_cons.mp hy with rfl | hy
    . exact h1
    . have h2 : k < y := by simpa using (List.mem_filter.mp hy).2
      omega
theorem xc {ks : List Int} (h : ks.Pairwise (· < ·)) {k x : Int} (hx : x ∈ ks.take (cLt ks k) ++ k :: ks.drop (cLe ks k)) : x = k ∨ x ∈ ks := by
  rcases List.mem_append.mp hx with hx | hx
  . exact .inr (List.mem_of_mem_take hx)
  . rcases List.mem_cons.mp hx with rfl | hx
    . exact .inl rfl
    . exact .inr (List.mem_of_mem_drop hx)
theorem vD {ks : List Int} (h : ks.Pairwise (· < ·)) (k : Int) : (ks.take (cLt ks k) ++ ks.drop (cLe ks k)).Pairwise (· < ·) := by
  rw [(jW h k).1, (zL h k).2]
  rw [List.pairwise_append]
  refine ⟨h.filter _, h.filter _, fun x hx y hy => ?_⟩
  have h1 : x < k := by simpa using (List.mem_filter.mp hx).2
  have h2 : k < y := by simpa using (List.mem_filter.mp hy).2
  omega
theorem ut {ks : List Int} {k x : Int} (hx : x ∈ ks.take (cLt ks k) ++ ks.drop (cLe ks k)) : x ∈ ks := by
  rcases List.mem_append.mp hx with hx | hx
  . exact List.mem_of_mem_take hx
  . exact List.mem_of_mem_drop hx
theorem Qdr {ks : List Int} (h : k ∉ ks) : cLt ks k = cLe ks k := by
  unfold cLt cLe
  congr 1
  apply List.filter_congr
  intro x hx
  have : x ≠ k := fun e => h (e ▸ hx)
  by_cases q : x < k
  . have : x <= k := by omega
    simp [q, this]
  . have : ¬ x <= k := by omega
    simp [q, this]
theorem VN (fs : List (Nat × Nat)) (k v j : Nat) : X7 (yB fs k v) j = if j = k then some v else X7 fs j := by
  unfold yB X7
  by_cases h : (fs.any fun p => decide (p.1 = k)) = true
  . rw [if_pos h]
    induction fs with
    | nil => simp at h
    | cons p fs ih =>
      simp only [List.map_cons, List.find?_cons]
      by_cases q : p.1 = k
      . by_cases e : j = k
        . subst e; simp [q]
        . have : ¬ k = j := fun z => e z.symm
          simp only [q, if_true, this, decide_false]
          by_cases h2 : (fs.any fun p => decide (p.1 = k)) = true
          . have := ih h2; simpa [e] using this
          . have hid : fs.map (fun p => if p.1 = k then (p.1, v) else p) = fs := by
              conv => rhs; rw [<- List.map_id fs]
              apply List.map_congr_left
              intro x hx
              have : ¬ x.1 = k := fun z => h2 (by rw [List.any_eq_true]; exact ⟨x, hx, by simpa using z⟩)
              simp [this]
            rw [hid, if_neg e]
      . have h2 : (fs.any fun p => decide (p.1 = k)) = true := by simpa [List.any_cons, q] using h
        have := ih h2
        simp only [q, if_false]
        by_cases e : p.1 = j
        . have : ¬ j = k := fun z => q (e.trans z)
          simp [e, this]
        . simpa [e] using this
  . rw [if_neg h, List.find?_append]
    have hn : ∀ p ∈ fs, ¬ p.1 = k := fun p hp z => h (by rw [List.any_eq_true]; exact ⟨p, hp, by simpa using z⟩)
    by_cases e : j = k
    . subst e
      have : fs.find? (fun p => decide (p.1 = j)) = none := by
        rw [List.find?_eq_none]; intro p hp; simpa using hn p hp
      simp [this]
    . have : ¬ k = j := fun z => e z.symm
      simp [this, e]
end TR
namespace TR
abbrev Bg := Nat -> Option Int
def leB (b : Option Int) (x : Int) : Prop := ∀ v, b = some v -> v <= x
def ltB (b : Option Int) (x : Int) : Prop := ∀ v, b = some v -> v < x
def ltH (x : Int) (h : Option Int) : Prop := ∀ v, h = some v -> x < v
def leBB (b c : Option Int) : Prop := ∀ v, b = some v -> ∃ u, c = some u /\ v <= u
theorem leBB.refl (b : Option Int) : leBB b b := fun v h => ⟨v, h, Int.le_refl _⟩
theorem leBB.trans {a b c : Option Int} (h : leBB a b) (g : leBB b c) : leBB a c := fun v e => by
  obtain ⟨u, e1, l1⟩ := h v e
  obtain ⟨x, e2, l2⟩ := g u e1
  exact ⟨x, e2, by omega⟩
def JH (b : Option Int) (ks : List Int) : Nat -> Option Int
  | 0 => b
  | j + 1 => ks[j]?
structure JU (room : Nat) (b : Option Int) (p : Pg) : Prop where
  sorted : p.ks.Pairwise (· < ·)
  few : p.ks.length <= room
  parts : p.ps.length = p.ks.length + (if p.lv = 0 then 0 else 1)
  low : ∀ k ∈ p.ks, leB b k
  lowF : 0 < p.lv -> ∀ k ∈ p.ks, ltB b k
  high : ∀ k ∈ p.ks, ltH k p.hi
  wide : ∀ h, p.hi = some h -> ltB b h
structure Tree (S : Sh) (bg : Bg) : Prop where
  room2 : 2 <= S.room
  root : ∃ r : Pg, S.pg[S.top]? = some r /\ ∀ (n : Nat) (p : Pg), S.pg[n]? = some p -> p.lv <= r.lv
  rbg : bg S.top = none
  page : ∀ (n : Nat) (p : Pg), S.pg[n]? = some p -> JU S.room (bg n) p
  link : ∀ (n : Nat) (p : Pg), S.pg[n]? = some p -> (p.hi = none /\ p.sd = none) ∨ ∃ (h : Int) (s : Nat) (q : Pg), p.hi = some h /\ p.sd = some s /\ S.pg[s]? = some q /\ q.lv = p.lv /\ bg s = some h
  kid : ∀ (n : Nat) (p : Pg), S.pg[n]? = some p -> 0 < p.lv -> ∀ j k, p.ps[j]? = some k -> ∃ (c : Nat) (q : Pg), k = (c : Int) /\ S.pg[c]? = some q /\ q.lv + 1 = p.lv /\ bg c = JH (bg n) p.ks j
  dis : ∀ (n m : Nat) (p q : Pg), S.pg[n]? = some p -> S.pg[m]? = some q -> p.lv = q.lv -> n ≠ m -> (∃ h v, p.hi = some h /\ bg m = some v /\ h <= v) ∨ (∃ h v, q.hi = some h /\ bg n = some v /\ h <= v)
  pred : ∀ (n : Nat) (p : Pg), S.pg[n]? = some p -> ∀ v, bg n = some v -> ∃ (m : Nat) (q : Pg), S.pg[m]? = some q /\ q.lv = p.lv /\ q.hi = some v
theorem Tree.uniq {S : Sh} {bg : Bg} (T : Tree S bg) {n m : Nat} {p q : Pg} (hn : S.pg[n]? = some p) (hm : S.pg[m]? = some q) (hl : p.lv = q.lv) (hb : bg n = bg m) : n = m := by
  rcases Nat.decEq n m with h | h
  . exfalso
    rcases T.dis n m p q hn hm hl h with ⟨x, v, h1, h2, h3⟩ | ⟨x, v, h1, h2, h3⟩
    . have := (T.page n p hn).wide x h1 v (hb.trans h2); omega
    . have := (T.page m q hm).wide x h1 v (hb.symm.trans h2); omega
  . exact h
structure QaH (S : Sh) (bg : Bg) (S' : Sh) (bg' : Bg) : Prop where
  old : ∀ (n : Nat) (p : Pg), S.pg[n]? = some p -> bg' n = bg n /\ ∃ p' : Pg, S'.pg[n]? = some p' /\ p'.lv = p.lv
def Untold (S : Sh) (k : Nat) : Prop := ∀ (n : Nat) (p : Pg), S.pg[n]? = some p -> 0 < p.lv -> (k : Int) ∉ p.ps
structure WOk (S : Sh) (bg : Bg) (w : Wk) : Prop where
  at_ : ∀ n : Nat, w.place = some n -> ∃ p : Pg, S.pg[n]? = some p /\ w.goal <= p.lv /\ leB (bg n) w.aim
  none_ : w.place = none -> ∀ l f, X7 w.forks l = some f -> l < w.goal
  kept : ∀ l f, X7 w.forks l = some f -> ∃ p : Pg, S.pg[f]? = some p /\ p.lv = l
  above : ∀ (n : Nat) (p : Pg), w.place = some n -> S.pg[n]? = some p -> ∀ l f, X7 w.forks l = some f -> p.lv < l -> leBB (bg f) (bg n)
  chain : ∀ l f l' f', X7 w.forks l = some f -> X7 w.forks l' = some f' -> w.goal <= l -> l < l' -> leBB (bg f') (bg f)
  gap : ∀ (n : Nat) (p : Pg), w.place = some n -> S.pg[n]? = some p -> w.goal < p.lv -> ∀ l f, X7 w.forks l = some f -> l < w.goal ∨ p.lv < l
  full : ∀ (n : Nat) (p : Pg), w.place = some n -> S.pg[n]? = some p -> ∀ l' f', X7 w.forks l' = some f' -> ∀ l, p.lv < l -> l <= l' -> ∃ f, X7 w.forks l = some f
  tell : 0 < w.goal -> ∃ (k : Nat) (q : Pg), w.newp = some k /\ S.pg[k]? = some q /\ q.lv + 1 = w.goal /\ bg k = some w.aim
theorem WOk.grow {S S' : Sh} {bg bg' : Bg} {w : Wk} (W : WOk S bg w) (g : QaH S bg S' bg') : WOk S' bg' w where
  at_ := fun n h => by
    obtain ⟨p, h1, h2, h3⟩ := W.at_ n h
    obtain ⟨e, p', h4, h5⟩ := g.old n p h1
    exact ⟨p', h4, by omega, by rw [e]; exact h3⟩
  none_ := W.none_
  kept := fun l f h => by
    obtain ⟨p, h1, h2⟩ := W.kept l f h
    obtain ⟨e, p', h4, h5⟩ := g.old f p h1
    exact ⟨p', h4, by omega⟩
  above := fun n p' hp hn l f hf hl => by
    obtain ⟨p, h1, _⟩ := W.at_ n hp
    obtain ⟨e, p2, h4, h5⟩ := g.old n p h1
    rw [h4] at hn; cases hn
    obtain ⟨pf, h6, _⟩ := W.kept l f hf
    rw [e, (g.old f pf h6).1]
    exact W.above n p hp h1 l f hf (by omega)
  chain := fun l f l' f' h h' a b => by
    obtain ⟨p, h1, _⟩ := W.kept l f h
    obtain ⟨p', h1', _⟩ := W.kept l' f' h'
    rw [(g.old f p h1).1, (g.old f' p' h1').1]
    exact W.chain l f l' f' h h' a b
  gap := fun n p' hp hn a l f hf => by
    obtain ⟨p, h1, _⟩ := W.at_ n hp
    obtain ⟨e, p2, h4, h5⟩ := g.old n p h1
    rw [h4] at hn; cases hn
    rw [h5]
    exact W.gap n p hp h1 (by omega) l f hf
  full := fun n p' hp hn l' f' hf l a b => by
    obtain ⟨p, h1, _⟩ := W.at_ n hp
    obtain ⟨e, p2, h4, h5⟩ := g.old n p h1
    rw [h4] at hn; cases hn
    exact W.full n p hp h1 l' f' hf l (by omega) b
  tell := fun h => by
    obtain ⟨k, q, h1, h2, h3, h4⟩ := W.tell h
    obtain ⟨e, p', h5, h6⟩ := g.old k q h2
    exact ⟨k, p', h1, h5, by omega, by rw [e]; exact h4⟩
theorem WOk.fresh {S : Sh} {bg : Bg} {w : Wk} (h1 : w.place = none) (h2 : w.forks = []) (h3 : w.goal = 0) : WOk S bg w where
  at_ := fun n h => by rw [h1] at h; cases h
  none_ := fun _ l f h => by rw [h2] at h; cases h
  kept := fun l f h => by rw [h2] at h; cases h
  above := fun n p h => by rw [h1] at h; cases h
  chain := fun l f l' f' h => by rw [h2] at h; cases h
  gap := fun n p h => by rw [h1] at h; cases h
  full := fun n p h => by rw [h1] at h; cases h
  tell := fun h => by omega
theorem Z4 {α : Type} {xs : List α} {n m : Nat} {x y : α} (h : (xs.set n x)[m]? = some y) : (m = n /\ y = x /\ n < xs.length) ∨ (m ≠ n /\ xs[m]? = some y) := by
  by_cases e : m = n
  . subst e
    by_cases hl : m < xs.length
    . rw [List.getElem?_set_self hl] at h; cases h; exact .inl ⟨rfl, rfl, hl⟩
    . rw [List.getElem?_eq_none (by simpa using hl)] at h; cases h
  . rw [List.getElem?_set_ne (Ne.symm e)] at h; exact .inr ⟨e, h⟩
theorem um {α : Type} {xs : List α} {n m : Nat} {x y : α} (h : xs[m]? = some y) : (xs.set n x)[m]? = some (if m = n then x else y) := by
  have hl := (List.getElem?_eq_some_iff.mp h).1
  by_cases e : m = n
  . subst e; rw [List.getElem?_set_self hl, if_pos rfl]
  . rw [List.getElem?_set_ne (Ne.symm e), h, if_neg e]
theorem Tree.write {S : Sh} {bg : Bg} (T : Tree S bg) {n : Nat} {p p' : Pg} {x y : Int} (hn : S.pg[n]? = some p) (hl : p'.lv = p.lv) (hh : p'.hi = p.hi) (hs : p'.sd = p.sd) (ok : JU S.room (bg n) p')
    (hk : 0 < p.lv -> ∀ j k, p'.ps[j]? = some k -> ∃ (c : Nat) (q : Pg), k = (c : Int) /\ S.pg[c]? = some q /\ q.lv + 1 = p.lv /\ bg c = JH (bg n) p'.ks j) :
    Tree { S with pg := S.pg.set n p', rd := x, wr := y } bg /\ QaH S bg { S with pg := S.pg.set n p', rd := x, wr := y } bg := by
  have old : ∀ (m : Nat) (q : Pg), S.pg[m]? = some q -> ∃ q' : Pg, (S.pg.set n p')[m]? = some q' /\ q'.lv = q.lv /\ q'.hi = q.hi /\ q'.sd = q.sd := fun m q h => by
    refine ⟨_, um h, ?_⟩
    by_cases e : m = n
    . subst e; rw [hn] at h; cases h; simp [hl, hh, hs]
    . simp [e]
  have new : ∀ (m : Nat) (q' : Pg), (S.pg.set n p')[m]? = some q' -> ∃ q : Pg, S.pg[m]? = some q /\ q'.lv = q.lv /\ q'.hi = q.hi /\ q'.sd = q.sd := fun m q' h => by
    rcases Z4 h with ⟨rfl, rfl, _⟩ | ⟨_, h⟩
    . exact ⟨p, hn, hl, hh, hs⟩
    . exact ⟨q', h, rfl, rfl, rfl⟩
  refine ⟨⟨T.room2, ?_, T.rbg, fun m q h => ?_, fun m q h => ?_, fun m q h h0 j k hj => ?_, fun a b q r ha hb hab e => ?_, fun m q h v hv => ?_⟩, ⟨fun m q h => ⟨rfl, by obtain ⟨q', h1, h2, _⟩ := old m q h; exact ⟨q', h1, h2⟩⟩⟩⟩
  . obtain ⟨r, h1, h2⟩ := T.root
    obtain ⟨r', h3, h4, _⟩ := old _ _ h1
    exact ⟨r', h3, fun m q h => by obtain ⟨q0, h5, h6, _⟩ := new m q h; rw [h6, h4]; exact h2 m q0 h5⟩
  . rcases Z4 h with ⟨rfl, rfl, _⟩ | ⟨_, h⟩
    . exact ok
    . exact T.page m q h
  . obtain ⟨q0, h1, h2, h3, h4⟩ := new m q h
    rcases T.link m q0 h1 with ⟨a, b⟩ | ⟨x, s, r, a, b, c, d, e⟩
    . exact .inl ⟨h3.trans a, h4.trans b⟩
    . obtain ⟨r', c1, c2, _⟩ := old s r c
      exact .inr ⟨x, s, r', h3.trans a, h4.trans b, c1, by rw [c2, d, h2], e⟩
  . rcases Z4 h with ⟨rfl, rfl, _⟩ | ⟨_, h⟩
    . obtain ⟨c, r, h1, h2, h3, h4⟩ := hk (by omega) j k hj
      obtain ⟨r', c1, c2, _⟩ := old c r h2
      exact ⟨c, r', h1, c1, by omega, h4⟩
    . obtain ⟨c, r, h1, h2, h3, h4⟩ := T.kid m q h h0 j k hj
      obtain ⟨r', c1, c2, _⟩ := old c r h2
      exact ⟨c, r', h1, c1, by omega, h4⟩
  . obtain ⟨q0, h1, h2, h3, _⟩ := new a q ha
    obtain ⟨r0, h5, h6, h7, _⟩ := new b r hb
    rw [h3, h7]
    exact T.dis a b q0 r0 h1 h5 (by omega) e
  . obtain ⟨q0, h1, h2, _⟩ := new m q h
    obtain ⟨a, r, h3, h4, h5⟩ := T.pred m q0 h1 v hv
    obtain ⟨r', c1, c2, c3, _⟩ := old a r h3
    exact ⟨a, r', c1, by omega, c3.trans h5⟩
end TR
namespace TR
theorem XO {α : Type} {xs : List α} {x : α} {m : Nat} {y : α} (h : (xs ++ [x])[m]? = some y) : (m = xs.length /\ y = x) ∨ xs[m]? = some y := by
  rcases Nat.lt_or_ge m xs.length with q | q
  . rw [List.getElem?_append_left q] at h; exact .inr h
  . rw [List.getElem?_append_right q] at h
    by_cases e : m - xs.length = 0
    . rw [e] at h; simp at h; exact .inl ⟨by omega, h.symm⟩
    . rw [List.getElem?_eq_none (by simp; omega)] at h; cases h
theorem zf {α : Type} {xs : List α} {x : α} {m : Nat} {y : α} (h : xs[m]? = some y) : (xs ++ [x])[m]? = some y := by
  rw [List.getElem?_append_left (List.getElem?_eq_some_iff.mp h).1]; exact h
theorem Jz {α : Type} {xs : List α} {m : Nat} {y : α} (h : xs[m]? = some y) : m < xs.length := (List.getElem?_eq_some_iff.mp h).1
def Yu (bg : Bg) (l : Nat) (k : Option Int) : Bg := fun i => if i = l then k else bg i
theorem Uq {bg : Bg} {l : Nat} {k : Option Int} {i : Nat} (h : i < l) : Yu bg l k i = bg i := by unfold Yu; rw [if_neg (by omega)]
theorem Ji {bg : Bg} {l : Nat} {k : Option Int} : Yu bg l k l = k := by unfold Yu; rw [if_pos rfl]
section
variable {S : Sh} {bg : Bg} {n : Nat} {p P : Pg}
theorem qQ (h3 : 1 <= P.ks.length) : P.ks[mid P]? = some (Xs P) := by
  have : mid P < P.ks.length := by unfold mid; omega
  unfold Xs
  rw [List.getD_eq_getElem?_getD, List.getElem?_eq_getElem this]; rfl
theorem YR {ks : List Int} (h : ks.Pairwise (· < ·)) {i j : Nat} {x y : Int} (hi : ks[i]? = some x) (hj : ks[j]? = some y) (hij : i < j) : x < y := by
  obtain ⟨a, rfl⟩ := List.getElem?_eq_some_iff.mp hi
  obtain ⟨b, rfl⟩ := List.getElem?_eq_some_iff.mp hj
  exact List.pairwise_iff_getElem.mp h i j a b hij
theorem Kz (ok : JU P.ks.length (bg n) P) (h3 : 3 <= P.ks.length) : ltB (bg n) (Xs P) := by
  intro v hv
  have h0 : P.ks[0]? = some (P.ks[0]'(by omega)) := List.getElem?_eq_getElem _
  have a := ok.low _ (List.getElem_mem (by omega : 0 < P.ks.length)) v hv
  have b := YR ok.sorted h0 (qQ (P := P) (by omega)) (by unfold mid; omega)
  omega
theorem QcY (ok : JU P.ks.length (bg n) P) (h3 : 3 <= P.ks.length) (hr : P.ks.length <= S.room + 1) (l : Nat) : JU S.room (bg n) (Zk P l) where
  sorted := ok.sorted.sublist (List.take_sublist _ _)
  few := by show (P.ks.take (mid P)).length <= _; rw [List.length_take]; unfold mid; omega
  parts := by
    show (P.ps.take (ZE P)).length = (P.ks.take (mid P)).length + (if P.lv = 0 then 0 else 1)
    have := ok.parts
    rw [List.length_take, List.length_take]
    unfold ZE mid
    split at this <;> split <;> simp_all <;> omega
  low := fun k hk => ok.low k (List.mem_of_mem_take hk)
  lowF := fun h k hk => ok.lowF h k (List.mem_of_mem_take hk)
  high := fun k hk v hv => by
    cases hv
    obtain ⟨i, hi, e⟩ := List.mem_iff_getElem.mp hk
    simp only [Zk, List.getElem_take] at e
    have hi' : i < mid P := by have := hi; rw [show (Zk P l).ks = P.ks.take (mid P) from rfl, List.length_take] at this; omega
    exact YR ok.sorted (i := i) (by rw [<- e]; exact List.getElem?_eq_getElem _) (qQ (P := P) (by omega)) hi'
  wide := fun h hh => by cases hh; exact Kz ok h3
theorem QdL (ok : JU P.ks.length (bg n) P) (h3 : 3 <= P.ks.length) (hr : P.ks.length <= S.room + 1) : JU S.room (some (Xs P)) (Q3 P) where
  sorted := ok.sorted.sublist (List.drop_sublist _ _)
  few := by show (P.ks.drop (ZE P)).length <= _; rw [List.length_drop]; unfold ZE mid; split <;> omega
  parts := by
    show (P.ps.drop (ZE P)).length = (P.ks.drop (ZE P)).length + (if P.lv = 0 then 0 else 1)
    have := ok.parts
    rw [List.length_drop, List.length_drop]
    unfold ZE mid
    split at this <;> split <;> simp_all <;> omega
  low := fun k hk v hv => by
    cases hv
    obtain ⟨i, hi, e⟩ := List.mem_iff_getElem.mp hk
    rw [show (Q3 P).ks = P.ks.drop (ZE P) from rfl] at hi
    have hi2 : ZE P + i < P.ks.length := by rw [List.length_drop] at hi; omega
    have e' : P.ks[ZE P + i]? = some k := by rw [<- e]; rw [List.getElem?_eq_getElem hi2]; simp [Q3]
    rcases Nat.lt_or_ge (mid P) (ZE P + i) with q | q
    . exact Int.le_of_lt (YR ok.sorted (qQ (P := P) (by omega)) e' q)
    . have : mid P = ZE P + i := by unfold ZE at q ⊢; split <;> simp_all <;> omega
      rw [<- this, qQ (P := P) (by omega)] at e'; cases e'; omega
  lowF := fun h k hk v hv => by
    cases hv
    obtain ⟨i, hi, e⟩ := List.mem_iff_getElem.mp hk
    rw [show (Q3 P).ks = P.ks.drop (ZE P) from rfl] at hi
    have hi2 : ZE P + i < P.ks.length := by rw [List.length_drop] at hi; omega
    have e' : P.ks[ZE P + i]? = some k := by rw [<- e]; rw [List.getElem?_eq_getElem hi2]; simp [Q3]
    have h' : 0 < P.lv := h
    exact YR ok.sorted (qQ (P := P) (by omega)) e' (by unfold ZE; rw [if_neg (by omega)]; omega)
  high := fun k hk => ok.high k (List.mem_of_mem_drop hk)
  wide := fun h hh v hv => by
    cases hv
    exact ok.high _ (List.mem_of_getElem? (qQ (P := P) (by omega))) h hh
theorem Tree.split (T : Tree S bg) {x y : Int} (hn : S.pg[n]? = some p) (hl : P.lv = p.lv) (hh : P.hi = p.hi) (hs : P.sd = p.sd) (ok : JU P.ks.length (bg n) P) (h1 : S.room < P.ks.length) (h2 : P.ks.length <= S.room + 1)
    (hk : 0 < p.lv -> ∀ j k, P.ps[j]? = some k -> ∃ (c : Nat) (q : Pg), k = (c : Int) /\ S.pg[c]? = some q /\ q.lv + 1 = p.lv /\ bg c = JH (bg n) P.ks j) :
    Tree { S with pg := (S.pg ++ [Q3 P]).set n (Zk P S.pg.length), rd := x, wr := y } (Yu bg S.pg.length (some (Xs P))) /\ QaH S bg { S with pg := (S.pg ++ [Q3 P]).set n (Zk P S.pg.length), rd := x, wr := y } (Yu bg S.pg.length (some (Xs P))) := by
  have r2 := T.room2
  have h3 : 3 <= P.ks.length := by omega
  have hnl := Jz hn
  have kg := qQ (P := P) (by omega)
  have kl := Kz ok h3
  have kh : ∀ h, p.hi = some h -> Xs P < h := fun h e => ok.high _ (List.mem_of_getElem? kg) h (hh.trans e)
  have bo : ∀ m q, S.pg[m]? = some q -> Yu bg S.pg.length (some (Xs P)) m = bg m := fun m q h => Uq (Jz h)
  have old : ∀ (m : Nat) (q : Pg), S.pg[m]? = some q -> ∃ q' : Pg, ((S.pg ++ [Q3 P]).set n (Zk P S.pg.length))[m]? = some q' /\ q'.lv = q.lv /\ (m ≠ n -> q' = q) /\ (m = n -> q' = Zk P S.pg.length) := fun m q h => by
    refine ⟨_, um (zf h), ?_, fun e => by rw [if_neg e], fun e => by rw [if_pos e]⟩
    by_cases e : m = n
    . subst e; rw [hn] at h; cases h; rw [if_pos rfl]; exact hl
    . rw [if_neg e]
  have gl : ((S.pg ++ [Q3 P]).set n (Zk P S.pg.length))[S.pg.length]? = some (Q3 P) := by
    rw [List.getElem?_set_ne (by omega), List.getElem?_append_right (Nat.le_refl _)]; simp
  have gn : ((S.pg ++ [Q3 P]).set n (Zk P S.pg.length))[n]? = some (Zk P S.pg.length) := by
    rw [List.getElem?_set_self (by simp; omega)]
  have new : ∀ (m : Nat) (q : Pg), ((S.pg ++ [Q3 P]).set n (Zk P S.pg.length))[m]? = some q -> (m = n /\ q = Zk P S.pg.length) ∨ (m = S.pg.length /\ q = Q3 P) ∨ (m ≠ n /\ S.pg[m]? = some q) := fun m q h => by
    rcases Z4 h with ⟨a, b, _⟩ | ⟨a, b⟩
    . exact .inl ⟨a, b⟩
    . rcases XO b with c | c
      . exact .inr (.inl c)
      . exact .inr (.inr ⟨a, c⟩)
  have olv : (Zk P S.pg.length).lv = p.lv := hl
  have nlv : (Q3 P).lv = p.lv := hl
  refine ⟨⟨r2, ?_, ?_, fun m q h => ?_, fun m q h => ?_, fun m q h h0 j k hj => ?_, fun a b q r ha hb hab e => ?_, fun m q h v hv => ?_⟩, ⟨fun m q h => ⟨bo m q h, by obtain ⟨q', a, b, _⟩ := old m q h; exact ⟨q', a, b⟩⟩⟩⟩
  . obtain ⟨r, a, b⟩ := T.root
    obtain ⟨r', c, d, _⟩ := old _ _ a
    refine ⟨r', c, fun m q h => ?_⟩
    rcases new m q h with ⟨_, rfl⟩ | ⟨_, rfl⟩ | ⟨_, h⟩
    . rw [olv, d]; exact b n p hn
    . rw [nlv, d]; exact b n p hn
    . rw [d]; exact b m q h
  . obtain ⟨r, a, _⟩ := T.root
    rw [show Yu bg S.pg.length (some (Xs P)) S.top = bg S.top from bo _ _ a]; exact T.rbg
  . rcases new m q h with ⟨rfl, rfl⟩ | ⟨rfl, rfl⟩ | ⟨_, h⟩
    . rw [bo _ _ hn]; exact QcY ok h3 h2 _
    . rw [Ji]; exact QdL ok h3 h2
    . rw [bo _ _ h]; exact T.page m q h
  . rcases new m q h with ⟨rfl, rfl⟩ | ⟨rfl, rfl⟩ | ⟨_, h⟩
    . exact .inr ⟨Xs P, S.pg.length, Q3 P, rfl, rfl, gl, rfl, Ji⟩
    . rcases T.link n p hn with ⟨a, b⟩ | ⟨z, s, r, a, b, c, d, e⟩
      . exact .inl ⟨hh.trans a, hs.trans b⟩
      . obtain ⟨r', c1, c2, _⟩ := old s r c
        exact .inr ⟨z, s, r', hh.trans a, hs.trans b, c1, by rw [c2, d, nlv], by rw [bo _ _ c]; exact e⟩
    . rcases T.link m q h with ⟨a, b⟩ | ⟨z, s, r, a, b, c, d, e⟩
      . exact .inl ⟨a, b⟩
      . obtain ⟨r', c1, c2, _⟩ := old s r c
        exact .inr ⟨z, s, r', a, b, c1, by rw [c2, d], by rw [bo _ _ c]; exact e⟩
  . have lift : ∀ {b0 : Option Int} {ks0 : List Int} {j0 : Nat} {b1 : Option Int} {ks1 : List Int} {l1 : Nat}, JH b0 ks0 j0 = JH b1 ks1 j -> l1 = p.lv -> (∃ (c : Nat) (q : Pg), k = (c : Int) /\ S.pg[c]? = some q /\ q.lv + 1 = p.lv /\ bg c = JH b0 ks0 j0) -> ∃ (c : Nat) (q : Pg), k = (c : Int) /\ ((S.pg ++ [Q3 P]).set n (Zk P S.pg.length))[c]? = some q /\ q.lv + 1 = l1 /\ Yu bg S.pg.length (some (Xs P)) c = JH b1 ks1 j := fun {b0 ks0 j0 b1 ks1 l1} e el ⟨c, q, a1, a2, a3, a4⟩ => by
      obtain ⟨q', c1, c2, _⟩ := old c q a2
      exact ⟨c, q', a1, c1, by omega, by rw [bo _ _ a2, a4, e]⟩
    rcases new m q h with ⟨rfl, rfl⟩ | ⟨rfl, rfl⟩ | ⟨_, h⟩
    . rw [olv] at h0
      have hc : ZE P = mid P + 1 := by unfold ZE; rw [if_neg (by omega)]
      have hjl : j < mid P + 1 := by
        have := Jz hj
        rw [show (Zk P S.pg.length).ps = P.ps.take (ZE P) from rfl, List.length_take, hc] at this; omega
      have hj' : P.ps[j]? = some k := by
        rw [show (Zk P S.pg.length).ps = P.ps.take (ZE P) from rfl, List.getElem?_take_of_lt (by omega)] at hj; exact hj
      refine lift ?_ olv (hk h0 j k hj')
      rw [bo _ _ hn]
      cases j with
      | zero => rfl
      | succ i => show P.ks[i]? = (P.ks.take (mid P))[i]?; rw [List.getElem?_take_of_lt (by omega)]
    . rw [nlv] at h0
      have hc : ZE P = mid P + 1 := by unfold ZE; rw [if_neg (by omega)]
      have hj' : P.ps[mid P + 1 + j]? = some k := by
        rw [show (Q3 P).ps = P.ps.drop (ZE P) from rfl, List.getElem?_drop, hc] at hj; exact hj
      refine lift ?_ nlv (hk h0 _ k hj')
      rw [Ji]
      cases j with
      | zero => show P.ks[mid P + 0]? = some (Xs P); exact kg
      | succ i => show P.ks[mid P + 1 + i]? = (P.ks.drop (ZE P))[i]?; rw [List.getElem?_drop, hc]
    . obtain ⟨c, r, a1, a2, a3, a4⟩ := T.kid m q h h0 j k hj
      obtain ⟨r', c1, c2, _⟩ := old c r a2
      exact ⟨c, r', a1, c1, by omega, by rw [bo _ _ a2, bo _ _ h, a4]⟩
  . have on : ∀ (b : Nat) (r : Pg), b ≠ n -> S.pg[b]? = some r -> p.lv = r.lv -> (∃ h v, (Zk P S.pg.length).hi = some h /\ Yu bg S.pg.length (some (Xs P)) b = some v /\ h <= v) ∨ (∃ h v, r.hi = some h /\ Yu bg S.pg.length (some (Xs P)) n = some v /\ h <= v) := fun b r hbn hb hlv => by
      rcases T.dis n b p r hn hb hlv (Ne.symm hbn) with ⟨h, v, a1, a2, a3⟩ | ⟨h, v, a1, a2, a3⟩
      . exact .inl ⟨Xs P, v, rfl, by rw [bo _ _ hb]; exact a2, by have := kh h a1; omega⟩
      . exact .inr ⟨h, v, a1, by rw [bo _ _ hn]; exact a2, a3⟩
    have nn : ∀ (b : Nat) (r : Pg), b ≠ n -> S.pg[b]? = some r -> p.lv = r.lv -> (∃ h v, (Q3 P).hi = some h /\ Yu bg S.pg.length (some (Xs P)) b = some v /\ h <= v) ∨ (∃ h v, r.hi = some h /\ Yu bg S.pg.length (some (Xs P)) S.pg.length = some v /\ h <= v) := fun b r hbn hb hlv => by
      rcases T.dis n b p r hn hb hlv (Ne.symm hbn) with ⟨h, v, a1, a2, a3⟩ | ⟨h, v, a1, a2, a3⟩
      . exact .inl ⟨h, v, hh.trans a1, by rw [bo _ _ hb]; exact a2, a3⟩
      . exact .inr ⟨h, Xs P, a1, Ji, by have := kl v a2; omega⟩
    rcases new a q ha with ⟨rfl, rfl⟩ | ⟨rfl, rfl⟩ | ⟨na, ha2⟩
    . rcases new b r hb with ⟨rfl, rfl⟩ | ⟨rfl, rfl⟩ | ⟨nb, hb2⟩
      . exact absurd rfl e
      . exact .inl ⟨Xs P, Xs P, rfl, Ji, Int.le_refl _⟩
      . exact on b r nb hb2 (by rw [<- hab, olv])
    . rcases new b r hb with ⟨rfl, rfl⟩ | ⟨rfl, rfl⟩ | ⟨nb, hb2⟩
      . exact .inr ⟨Xs P, Xs P, rfl, Ji, Int.le_refl _⟩
      . exact absurd rfl e
      . exact nn b r nb hb2 (by rw [<- hab, nlv])
    . rcases new b r hb with ⟨rfl, rfl⟩ | ⟨rfl, rfl⟩ | ⟨nb, hb2⟩
      . exact (on a q na ha2 (by rw [hab, olv])).symm
      . exact (nn a q na ha2 (by rw [hab, nlv])).symm
      . rcases T.dis a b q r ha2 hb2 hab e with ⟨h, v, a1, a2, a3⟩ | ⟨h, v, a1, a2, a3⟩
        . exact .inl ⟨h, v, a1, by rw [bo _ _ hb2]; exact a2, a3⟩
        . exact .inr ⟨h, v, a1, by rw [bo _ _ ha2]; exact a2, a3⟩
  . have pr : ∀ (l : Nat) (z : Pg), S.pg[l]? = some z -> z.hi = some v -> ∃ (m : Nat) (q : Pg), ((S.pg ++ [Q3 P]).set n (Zk P S.pg.length))[m]? = some q /\ q.lv = z.lv /\ q.hi = some v := fun l z hz hv => by
      by_cases e : l = n
      . subst e; rw [hn] at hz; cases hz
        exact ⟨_, _, gl, nlv, hh.trans hv⟩
      . obtain ⟨z', c1, c2, c3, _⟩ := old l z hz
        exact ⟨l, z', c1, c2, by rw [c3 e]; exact hv⟩
    rcases new m q h with ⟨rfl, rfl⟩ | ⟨rfl, rfl⟩ | ⟨nm, h⟩
    . rw [bo _ _ hn] at hv
      obtain ⟨a, z, b1, b2, b3⟩ := T.pred m p hn v hv
      obtain ⟨c, z', d1, d2, d3⟩ := pr a z b1 b3
      exact ⟨c, z', d1, by rw [d2, b2, olv], d3⟩
    . rw [Ji] at hv
      exact ⟨n, _, gn, by rw [olv, nlv], hv⟩
    . rw [bo _ _ h] at hv
      obtain ⟨a, z, b1, b2, b3⟩ := T.pred m q h v hv
      obtain ⟨c, z', d1, d2, d3⟩ := pr a z b1 b3
      exact ⟨c, z', d1, by rw [d2, b2], d3⟩
end
end TR
namespace TR
section
variable {S : Sh} {bg : Bg} {n : Nat} {p : Pg}
theorem Tree.raise (T : Tree S bg) {r q : Pg} {k : Nat} {aim x y : Int} (hr : S.pg[S.top]? = some r) (hk : S.pg[k]? = some q) (hl : q.lv = r.lv) (hb : bg k = some aim) :
    Tree { S with rd := x, pg := S.pg ++ [⟨r.lv + 1, [aim], [(S.top : Int), (k : Int)], none, none⟩], top := S.pg.length, wr := y } (Yu bg S.pg.length none) /\ QaH S bg { S with rd := x, pg := S.pg ++ [⟨r.lv + 1, [aim], [(S.top : Int), (k : Int)], none, none⟩], top := S.pg.length, wr := y } (Yu bg S.pg.length none) := by
  have r2 := T.room2
  have lev : ∀ (m : Nat) (z : Pg), S.pg[m]? = some z -> z.lv <= r.lv := fun m z h => by
    obtain ⟨r', a, b⟩ := T.root
    rw [hr] at a; cases a; exact b m z h
  have bo : ∀ (m : Nat) (z : Pg), S.pg[m]? = some z -> Yu bg S.pg.length none m = bg m := fun m z h => Uq (Jz h)
  have gl : (S.pg ++ [(⟨r.lv + 1, [aim], [(S.top : Int), (k : Int)], none, none⟩ : Pg)])[S.pg.length]? = some ⟨r.lv + 1, [aim], [(S.top : Int), (k : Int)], none, none⟩ := by simp
  refine ⟨⟨r2, ⟨_, gl, fun m z h => ?_⟩, Ji, fun m z h => ?_, fun m z h => ?_, fun m z h h0 j c hj => ?_, fun a b z z' ha hb' hab e => ?_, fun m z h v hv => ?_⟩, ⟨fun m z h => ⟨bo m z h, z, zf h, rfl⟩⟩⟩
  . rcases XO h with ⟨_, rfl⟩ | h
    . exact Nat.le_refl _
    . exact Nat.le_succ_of_le (lev m z h)
  . rcases XO h with ⟨rfl, rfl⟩ | h
    . rw [Ji]
      exact ⟨by simp, by show 1 <= S.room; omega, by simp, fun k hk v hv => (by cases hv), fun _ k hk v hv => (by cases hv), fun k hk v hv => (by cases hv), fun h hh => (by cases hh)⟩
    . rw [bo _ _ h]; exact T.page m z h
  . rcases XO h with ⟨rfl, rfl⟩ | h
    . exact .inl ⟨rfl, rfl⟩
    . rcases T.link m z h with a | ⟨z1, s, z2, a, b, c, d, e⟩
      . exact .inl a
      . exact .inr ⟨z1, s, z2, a, b, zf c, d, by rw [bo _ _ c]; exact e⟩
  . rcases XO h with ⟨rfl, rfl⟩ | h
    . match j, hj with
      | 0, hj =>
        cases hj
        exact ⟨S.top, r, rfl, zf hr, rfl, by rw [bo _ _ hr, Ji]; exact T.rbg⟩
      | 1, hj =>
        cases hj
        exact ⟨k, q, rfl, zf hk, by show q.lv + 1 = r.lv + 1; omega, by rw [bo _ _ hk]; exact hb⟩
      | j + 2, hj => simp at hj
    . obtain ⟨c', z', a1, a2, a3, a4⟩ := T.kid m z h h0 j c hj
      exact ⟨c', z', a1, zf a2, a3, by rw [bo _ _ a2, bo _ _ h, a4]⟩
  . rcases XO ha with ⟨rfl, rfl⟩ | ha2
    . rcases XO hb' with ⟨rfl, rfl⟩ | hb2
      . exact absurd rfl e
      . have := lev b z' hb2; have : r.lv + 1 = z'.lv := hab; omega
    . rcases XO hb' with ⟨rfl, rfl⟩ | hb2
      . have := lev a z ha2; have : z.lv = r.lv + 1 := hab; omega
      . rcases T.dis a b z z' ha2 hb2 hab e with ⟨h, v, a1, a2, a3⟩ | ⟨h, v, a1, a2, a3⟩
        . exact .inl ⟨h, v, a1, by rw [bo _ _ hb2]; exact a2, a3⟩
        . exact .inr ⟨h, v, a1, by rw [bo _ _ ha2]; exact a2, a3⟩
  . rcases XO h with ⟨rfl, rfl⟩ | h
    . rw [Ji] at hv; cases hv
    . rw [bo _ _ h] at hv
      obtain ⟨a, z1, b1, b2, b3⟩ := T.pred m z h v hv
      exact ⟨a, z1, zf b1, b2, b3⟩
theorem vJ {k : Int} (h : Yi p k = false) : ltH k p.hi := fun v hv => by
  unfold Yi at h; rw [hv] at h; simp at h; omega
theorem GH {room : Nat} (ok : JU room (bg n) p) (hl : p.lv = 0) {k x : Int} (h1 : leB (bg n) k) (h2 : ltH k p.hi) : JU (Q2 p k x).ks.length (bg n) (Q2 p k x) where
  sorted := VF ok.sorted k
  few := Nat.le_refl _
  parts := by
    have a := ok.parts
    rw [if_pos hl] at a
    have b := xT p.ks k
    have c := X4 p.ks k
    show (p.ps.take (cLt p.ks k) ++ x :: p.ps.drop (cLe p.ks k)).length = (p.ks.take (cLt p.ks k) ++ k :: p.ks.drop (cLe p.ks k)).length + (if p.lv = 0 then 0 else 1)
    rw [if_pos hl]
    simp only [List.length_append, List.length_cons, List.length_take, List.length_drop]; omega
  low := fun y hy => by
    rcases xc ok.sorted hy with rfl | hy
    . exact h1
    . exact ok.low y hy
  lowF := fun h => by have : 0 < p.lv := h; omega
  high := fun y hy => by
    rcases xc ok.sorted hy with rfl | hy
    . exact h2
    . exact ok.high y hy
  wide := ok.wide
theorem j2 {room : Nat} (ok : JU room (bg n) p) {k x : Int} : (Q2 p k x).ks.length <= room + 1 := by
  have b := xT p.ks k
  have c := X4 p.ks k
  have d := UJ p.ks k
  have e := ok.few
  show (p.ks.take (cLt p.ks k) ++ k :: p.ks.drop (cLe p.ks k)).length <= _
  simp only [List.length_append, List.length_cons, List.length_take, List.length_drop]; omega
theorem vE {room : Nat} (ok : JU room (bg n) p) (hl : p.lv = 0) {k : Int} : JU room (bg n) (without p k) where
  sorted := vD ok.sorted k
  few := by
    have b := xT p.ks k
    have c := X4 p.ks k
    have d := UJ p.ks k
    have e := ok.few
    show (p.ks.take (cLt p.ks k) ++ p.ks.drop (cLe p.ks k)).length <= _
    simp only [List.length_append, List.length_take, List.length_drop]; omega
  parts := by
    have a := ok.parts
    rw [if_pos hl] at a
    have b := xT p.ks k
    have c := X4 p.ks k
    show (p.ps.take (cLt p.ks k) ++ p.ps.drop (cLe p.ks k)).length = (p.ks.take (cLt p.ks k) ++ p.ks.drop (cLe p.ks k)).length + (if p.lv = 0 then 0 else 1)
    rw [if_pos hl]
    simp only [List.length_append, List.length_take, List.length_drop]; omega
  low := fun y hy => ok.low y (ut hy)
  lowF := fun h => by have : 0 < p.lv := h; omega
  high := fun y hy => ok.high y (ut hy)
  wide := ok.wide
theorem QaC (T : Tree S bg) (hn : S.pg[n]? = some p) {k : Nat} {q : Pg} {aim : Int} (hk : S.pg[k]? = some q) (hl : q.lv + 1 = p.lv) (hb : bg k = some aim) (hu : Untold S k) : aim ∉ p.ks /\ bg n ≠ some aim := by
  have ok := T.page n p hn
  have h0 : 0 < p.lv := by omega
  have pl := ok.parts
  rw [if_neg (by omega)] at pl
  have key : ∀ j, JH (bg n) p.ks j = some aim -> j < p.ps.length -> False := fun j e hj => by
    obtain ⟨c, z, a1, a2, a3, a4⟩ := T.kid n p hn h0 j _ (List.getElem?_eq_getElem hj)
    have : c = k := T.uniq a2 hk (by omega) (by rw [a4, e, hb])
    subst this
    exact hu n p hn h0 (by rw [<- a1]; exact List.getElem_mem hj)
  refine ⟨fun hm => ?_, fun e => key 0 e (by omega)⟩
  obtain ⟨i, hi, e⟩ := List.mem_iff_getElem.mp hm
  exact key (i + 1) (by show p.ks[i]? = some aim; rw [List.getElem?_eq_getElem hi, e]) (by omega)
theorem zh {k : Int} {c : Nat} (h : k ∉ p.ks) : (ZY p k c).ks = p.ks.take (cLt p.ks k) ++ k :: p.ks.drop (cLe p.ks k) := by
  show p.ks.take (cLe p.ks k) ++ k :: p.ks.drop (cLe p.ks k) = _
  rw [Qdr h]
theorem vd {room : Nat} (ok : JU room (bg n) p) (hl : 0 < p.lv) {k : Int} {c : Nat} (hk : k ∉ p.ks) (h1 : ltB (bg n) k) (h2 : ltH k p.hi) : JU (ZY p k c).ks.length (bg n) (ZY p k c) where
  sorted := by rw [zh hk]; exact VF ok.sorted k
  few := Nat.le_refl _
  parts := by
    have a := ok.parts
    rw [if_neg (by omega)] at a
    have d := X4 p.ks k
    show (p.ps.take (cLe p.ks k + 1) ++ (c : Int) :: p.ps.drop (cLe p.ks k + 1)).length = (p.ks.take (cLe p.ks k) ++ k :: p.ks.drop (cLe p.ks k)).length + (if p.lv = 0 then 0 else 1)
    rw [if_neg (by omega)]
    simp only [List.length_append, List.length_cons, List.length_take, List.length_drop]; omega
  low := fun y hy => by
    rw [zh hk] at hy
    rcases xc ok.sorted hy with rfl | hy
    . exact fun v hv => Int.le_of_lt (h1 v hv)
    . exact ok.low y hy
  lowF := fun h y hy => by
    rw [zh hk] at hy
    rcases xc ok.sorted hy with rfl | hy
    . exact h1
    . exact ok.lowF hl y hy
  high := fun y hy => by
    rw [zh hk] at hy
    rcases xc ok.sorted hy with rfl | hy
    . exact h2
    . exact ok.high y hy
  wide := ok.wide
theorem ya {room : Nat} (ok : JU room (bg n) p) {k : Int} {c : Nat} : (ZY p k c).ks.length <= room + 1 := by
  have d := X4 p.ks k
  have e := ok.few
  show (p.ks.take (cLe p.ks k) ++ k :: p.ks.drop (cLe p.ks k)).length <= _
  simp only [List.length_append, List.length_cons, List.length_take, List.length_drop]; omega
theorem UH (T : Tree S bg) (hn : S.pg[n]? = some p) {k : Nat} {q : Pg} {aim : Int} (hk : S.pg[k]? = some q) (hl : q.lv + 1 = p.lv) (hb : bg k = some aim) :
    ∀ j c, (ZY p aim k).ps[j]? = some c -> ∃ (c' : Nat) (q : Pg), c = (c' : Int) /\ S.pg[c']? = some q /\ q.lv + 1 = p.lv /\ bg c' = JH (bg n) (ZY p aim k).ks j := by
  intro j c hj
  have ok := T.page n p hn
  have h0 : 0 < p.lv := by omega
  have pl := ok.parts
  rw [if_neg (by omega)] at pl
  have d := X4 p.ks aim
  have hj : (p.ps.take (cLe p.ks aim + 1) ++ (k : Int) :: p.ps.drop (cLe p.ks aim + 1))[j]? = some c := hj
  show ∃ (c' : Nat) (q : Pg), c = (c' : Int) /\ S.pg[c']? = some q /\ q.lv + 1 = p.lv /\ bg c' = JH (bg n) (p.ks.take (cLe p.ks aim) ++ aim :: p.ks.drop (cLe p.ks aim)) j
  have lt : (p.ps.take (cLe p.ks aim + 1)).length = cLe p.ks aim + 1 := by rw [List.length_take]; omega
  have lk : (p.ks.take (cLe p.ks aim)).length = cLe p.ks aim := by rw [List.length_take]; omega
  rcases Nat.lt_or_ge j (cLe p.ks aim + 1) with h | h
  . rw [List.getElem?_append_left (by omega), List.getElem?_take_of_lt h] at hj
    obtain ⟨c', z, a1, a2, a3, a4⟩ := T.kid n p hn h0 j c hj
    refine ⟨c', z, a1, a2, a3, ?_⟩
    rw [a4]
    cases j with
    | zero => rfl
    | succ i =>
      show p.ks[i]? = (p.ks.take (cLe p.ks aim) ++ aim :: p.ks.drop (cLe p.ks aim))[i]?
      rw [List.getElem?_append_left (by omega), List.getElem?_take_of_lt (by omega)]
  . rw [List.getElem?_append_right (by omega), lt] at hj
    rcases Nat.lt_or_ge (cLe p.ks aim + 1) j with h2 | h2
    . obtain ⟨i, rfl⟩ : ∃ i, j = cLe p.ks aim + 2 + i := ⟨j - (cLe p.ks aim + 2), by omega⟩
      rw [show cLe p.ks aim + 2 + i - (cLe p.ks aim + 1) = i + 1 by omega, List.getElem?_cons_succ, List.getElem?_drop] at hj
      obtain ⟨c', z, a1, a2, a3, a4⟩ := T.kid n p hn h0 _ c hj
      refine ⟨c', z, a1, a2, a3, ?_⟩
      rw [a4]
      rw [show cLe p.ks aim + 1 + i = (cLe p.ks aim + i) + 1 by omega, show cLe p.ks aim + 2 + i = (cLe p.ks aim + 1 + i) + 1 by omega]
      show p.ks[cLe p.ks aim + i]? = (p.ks.take (cLe p.ks aim) ++ aim :: p.ks.drop (cLe p.ks aim))[cLe p.ks aim + 1 + i]?
      rw [List.getElem?_append_right (by omega), lk, show cLe p.ks aim + 1 + i - cLe p.ks aim = i + 1 by omega, List.getElem?_cons_succ, List.getElem?_drop]
    . have e : j = cLe p.ks aim + 1 := by omega
      subst e
      rw [show cLe p.ks aim + 1 - (cLe p.ks aim + 1) = 0 by omega] at hj
      cases hj
      refine ⟨k, q, rfl, hk, hl, ?_⟩
      rw [hb]
      show some aim = (p.ks.take (cLe p.ks aim) ++ aim :: p.ks.drop (cLe p.ks aim))[cLe p.ks aim]?
      rw [List.getElem?_append_right (by omega), lk]; simp
end
end TR
namespace TR
structure All (S : Sh) (bg : Bg) (ws : List Wk) : Prop where
  ok : ∀ (i : Nat) (w : Wk), ws[i]? = some w -> w.ended = false -> WOk S bg w
  unt : ∀ (i : Nat) (w : Wk) (k : Nat), ws[i]? = some w -> w.ended = false -> 0 < w.goal -> w.newp = some k -> Untold S k
  diff : ∀ (i j : Nat) (w v : Wk) (k : Nat), i ≠ j -> ws[i]? = some w -> ws[j]? = some v -> w.ended = false -> v.ended = false -> 0 < w.goal -> 0 < v.goal -> w.newp = some k -> v.newp ≠ some k
structure Stp (S : Sh) (bg : Bg) (w : Wk) (S' : Sh) (bg' : Bg) (w' : Wk) : Prop where
  tree : Tree S' bg'
  grow : QaH S bg S' bg'
  wok : w'.ended = false -> WOk S' bg' w'
  unt : ∀ k v, Untold S k -> bg k = some v -> (0 < w.goal -> w.newp ≠ some k) -> Untold S' k
  new : ∀ k, w'.ended = false -> 0 < w'.goal -> w'.newp = some k -> Untold S' k /\ ((0 < w.goal /\ w.newp = some k) ∨ S.pg.length <= k)
  room : S'.room = S.room
  len : S'.pg.length <= S.pg.length + 1
theorem All.step {S S' : Sh} {bg bg' : Bg} {ws : List Wk} {i : Nat} {w w' : Wk} (A : All S bg ws) (hi : ws[i]? = some w) (hw : w.ended = false) (st : Stp S bg w S' bg' w') : All S' bg' (ws.set i w') where
  ok := fun j v hj hv => by
    rcases Z4 hj with ⟨rfl, rfl, _⟩ | ⟨_, h⟩
    . exact st.wok hv
    . exact (A.ok j v h hv).grow st.grow
  unt := fun j v k hj hv hg hk => by
    rcases Z4 hj with ⟨rfl, rfl, _⟩ | ⟨e, h⟩
    . exact (st.new k hv hg hk).1
    . obtain ⟨k', q, a1, a2, a3, a4⟩ := (A.ok j v h hv).tell hg
      rw [hk] at a1; cases a1
      exact st.unt k _ (A.unt j v k h hv hg hk) a4 fun g0 => (A.diff j i v w k e h hi hv hw hg g0 hk)
  diff := fun a b u v k e ha hb hu hv gu gv hk hk' => by
    have key : ∀ (c : Nat) (x : Wk), c ≠ i -> ws[c]? = some x -> x.ended = false -> 0 < x.goal -> x.newp = some k -> w'.ended = false -> 0 < w'.goal -> w'.newp = some k -> False := fun c x hc hx he hg hk he' hg' hk' => by
      rcases (st.new k he' hg' hk').2 with ⟨g0, n0⟩ | l
      . exact A.diff c i x w k hc hx hi he hw hg g0 hk n0
      . obtain ⟨k', q, a1, a2, _⟩ := (A.ok c x hx he).tell hg
        rw [hk] at a1; cases a1
        have := Jz a2; omega
    rcases Z4 ha with ⟨rfl, rfl, _⟩ | ⟨ea, ha2⟩
    . rcases Z4 hb with ⟨rfl, rfl, _⟩ | ⟨eb, hb2⟩
      . exact e rfl
      . exact key b v eb hb2 hv gv hk' hu gu hk
    . rcases Z4 hb with ⟨rfl, rfl, _⟩ | ⟨eb, hb2⟩
      . exact key a u ea ha2 hu gu hk hv gv hk'
      . exact A.diff a b u v k e ha2 hb2 hu hv gu gv hk hk'
theorem All.put {S : Sh} {bg : Bg} {ws : List Wk} {i : Nat} {w : Wk} (A : All S bg ws) (h1 : w.place = none) (h2 : w.forks = []) (h3 : w.goal = 0) : All S bg (ws.set i w) where
  ok := fun j v hj hv => by
    rcases Z4 hj with ⟨rfl, rfl, _⟩ | ⟨_, h⟩
    . exact WOk.fresh h1 h2 h3
    . exact A.ok j v h hv
  unt := fun j v k hj hv hg hk => by
    rcases Z4 hj with ⟨rfl, rfl, _⟩ | ⟨_, h⟩
    . omega
    . exact A.unt j v k h hv hg hk
  diff := fun a b u v k e ha hb hu hv gu gv hk => by
    rcases Z4 ha with ⟨rfl, rfl, _⟩ | ⟨_, ha⟩
    . omega
    . rcases Z4 hb with ⟨rfl, rfl, _⟩ | ⟨_, hb⟩
      . omega
      . exact A.diff a b u v k e ha hb hu hv gu gv hk
theorem Tree.rd {S : Sh} {bg : Bg} (T : Tree S bg) (x y : Int) : Tree { S with rd := x, wr := y } bg := ⟨T.room2, T.root, T.rbg, T.page, T.link, T.kid, T.dis, T.pred⟩
section
variable {S : Sh} {bg : Bg} {n : Nat} {p P : Pg} {w : Wk}
theorem Untold.set {S : Sh} {n : Nat} {p P : Pg} {k : Nat} {x y : Int} (h : Untold S k) (hn : S.pg[n]? = some p) (hl : P.lv = p.lv) (hs : 0 < p.lv -> (k : Int) ∈ P.ps -> (k : Int) ∈ p.ps) : Untold { S with pg := S.pg.set n P, rd := x, wr := y } k := fun m q hm h0 hk => by
  rcases Z4 hm with ⟨rfl, rfl, _⟩ | ⟨_, hm⟩
  . exact h m p hn (by omega) (hs (by omega) hk)
  . exact h m q hm h0 hk
theorem Untold.halves {S : Sh} {n : Nat} {p P : Pg} {k l : Nat} {x y : Int} (h : Untold S k) (hn : S.pg[n]? = some p) (hl : P.lv = p.lv) (hs : 0 < p.lv -> (k : Int) ∈ P.ps -> (k : Int) ∈ p.ps) : Untold { S with pg := (S.pg ++ [Q3 P]).set n (Zk P l), rd := x, wr := y } k := fun m q hm h0 hk => by
  rcases Z4 hm with ⟨rfl, rfl, _⟩ | ⟨_, hm⟩
  . have h0' : 0 < P.lv := h0
    exact h m p hn (by omega) (hs (by omega) (List.mem_of_mem_take hk))
  . rcases XO hm with ⟨rfl, rfl⟩ | hm
    . have h0' : 0 < P.lv := h0
      exact h n p hn (by omega) (hs (by omega) (List.mem_of_mem_drop hk))
    . exact h m q hm h0 hk
theorem Tree.untold_new (T : Tree S bg) {k : Nat} (h : S.pg.length <= k) : Untold S k := fun m q hm h0 hk => by
  obtain ⟨j, hj, e⟩ := List.mem_iff_getElem.mp hk
  obtain ⟨c, z, a1, a2, _⟩ := T.kid m q hm h0 j _ (List.getElem?_eq_getElem hj)
  rw [e] at a1
  have : k = c := by omega
  have := Jz a2; omega
theorem Ul (T : Tree S bg) (hn : S.pg[n]? = some p) (hl : P.lv = p.lv) (hh : P.hi = p.hi) (hs : P.sd = p.sd) (ok : JU P.ks.length (bg n) P) (h2 : P.ks.length <= S.room + 1)
    (hk : 0 < p.lv -> ∀ j k, P.ps[j]? = some k -> ∃ (c : Nat) (q : Pg), k = (c : Int) /\ S.pg[c]? = some q /\ q.lv + 1 = p.lv /\ bg c = JH (bg n) P.ks j)
    (W : WOk S bg w) (hw : w.ended = false) (hpl : w.place = some n ∨ w.place = none) (hg : p.lv = w.goal) (hsub : ∀ k : Nat, 0 < p.lv -> (k : Int) ∈ P.ps -> (k : Int) ∈ p.ps ∨ (0 < w.goal /\ w.newp = some k)) :
    ∃ bg', Stp S bg w (Zf S w n P).2.1 bg' (Zf S w n P).2.2 := by
  unfold Zf
  by_cases hr : P.ks.length <= S.room
  . rw [if_pos hr]
    obtain ⟨T', G⟩ := T.write (x := S.rd) (y := S.wr + 1) (p' := P) hn hl hh hs ⟨ok.sorted, hr, ok.parts, ok.low, ok.lowF, ok.high, ok.wide⟩ hk
    refine ⟨bg, T', G, fun h => (by cases h), fun k v hu hb hne => hu.set hn hl fun h0 hm => ?_, fun k h => (by cases h), rfl, (by simp)⟩
    rcases hsub k h0 hm with a | ⟨a, b⟩
    . exact a
    . exact absurd b (hne a)
  . rw [if_neg hr]
    obtain ⟨T', G⟩ := T.split (x := S.rd) (y := S.wr + 1 + 1) hn hl hh hs ok (by omega) h2 hk
    have r2 := T.room2
    have kl := Kz ok (by omega)
    have gl : ((S.pg ++ [Q3 P]).set n (Zk P S.pg.length))[S.pg.length]? = some (Q3 P) := by
      rw [List.getElem?_set_ne (by have := Jz hn; omega), List.getElem?_append_right (Nat.le_refl _)]; simp
    have pln : ∀ f, X7 w.forks (p.lv + 1) = some f -> w.place = some n := fun f hf => by
      rcases hpl with h | h
      . exact h
      . have := W.none_ h _ f hf; omega
    refine ⟨_, T', G, fun _ => ?_, fun k v hu hb hne => hu.halves hn hl fun h0 hm => ?_, fun k _ _ e => ?_, rfl, by simp⟩
    . have lv' : P.lv = w.goal := hl.trans hg
      refine ⟨fun f hf => ?_, fun hnone l f hf => ?_, fun l f hf => ?_, fun f q hf hq l f' hf' hlt => ?_, fun l f l' f' hf hf' a b => ?_, fun f q hf hq hlt => ?_, fun f q hf hq l' f' hf' l a b => ?_, fun _ => ⟨S.pg.length, Q3 P, rfl, gl, rfl, Ji⟩⟩
      . have hf : X7 w.forks (P.lv + 1) = some f := hf
        rw [hl] at hf
        obtain ⟨q, a1, a2⟩ := W.kept _ f hf
        obtain ⟨e, q', a3, a4⟩ := G.old f q a1
        refine ⟨q', a3, ?_, ?_⟩
        . show P.lv + 1 <= q'.lv; omega
        . rw [e]
          intro v hv
          obtain ⟨u, b1, b2⟩ := W.above n p (pln f hf) hn _ f hf (by omega) v hv
          have := kl u b1; show v <= Xs P; omega
      . have hnone : X7 w.forks (P.lv + 1) = none := hnone
        show l < P.lv + 1
        rcases Nat.lt_or_ge l (P.lv + 1) with h | h
        . exact h
        . exfalso
          rcases hpl with hp | hp
          . obtain ⟨f0, hf0⟩ := W.full n p hp hn l f hf (P.lv + 1) (by omega) h
            rw [hnone] at hf0; cases hf0
          . have := W.none_ hp l f hf; omega
      . obtain ⟨q, a1, a2⟩ := W.kept l f hf
        obtain ⟨e, q', a3, a4⟩ := G.old f q a1
        exact ⟨q', a3, by omega⟩
      . have hf : X7 w.forks (P.lv + 1) = some f := hf
        obtain ⟨q0, a1, a2⟩ := W.kept _ f hf
        obtain ⟨q1, b1, b2⟩ := W.kept _ f' hf'
        obtain ⟨e, q', a3, a4⟩ := G.old f q0 a1
        rw [e, (G.old f' q1 b1).1]
        rw [a3] at hq; cases hq
        exact W.chain _ f l f' hf hf' (by omega) (by omega)
      . obtain ⟨q0, a1, a2⟩ := W.kept _ f hf
        obtain ⟨q1, b1, b2⟩ := W.kept _ f' hf'
        rw [(G.old f q0 a1).1, (G.old f' q1 b1).1]
        have a : P.lv + 1 <= l := a
        exact W.chain l f l' f' hf hf' (by omega) b
      . have hf : X7 w.forks (P.lv + 1) = some f := hf
        obtain ⟨q0, a1, a2⟩ := W.kept _ f hf
        obtain ⟨e, q', a3, a4⟩ := G.old f q0 a1
        have hlt2 : P.lv + 1 < q.lv := hlt
        rw [a3] at hq; cases hq
        omega
      . have hf : X7 w.forks (P.lv + 1) = some f := hf
        obtain ⟨q0, a1, a2⟩ := W.kept _ f hf
        obtain ⟨e, q', a3, a4⟩ := G.old f q0 a1
        rw [a3] at hq; cases hq
        rw [hl] at hf
        exact W.full n p (pln f hf) hn l' f' hf' l (by omega) b
    . rcases hsub k h0 hm with a | ⟨a, b⟩
      . exact a
      . exact absurd b (hne a)
    . have e : S.pg.length = k := Option.some.inj e
      subst e
      refine ⟨(T.untold_new (Nat.le_refl _)).halves hn hl fun h0 hm => ?_, .inr (Nat.le_refl _)⟩
      obtain ⟨j, hj, e⟩ := List.mem_iff_getElem.mp hm
      obtain ⟨c, z, a1, a2, _⟩ := hk h0 j _ (List.getElem?_eq_getElem hj)
      rw [e] at a1
      have : S.pg.length = c := by omega
      have := Jz a2; omega
end
end TR
namespace TR
section
variable {S : Sh} {bg : Bg} {n : Nat} {p : Pg} {w : Wk}
theorem gk {ks : List Int} (h : ks.Pairwise (· < ·)) {k x : Int} {i : Nat} (hi : i < cLe ks k) (hx : ks[i]? = some x) : x <= k := by
  have e : (ks.take (cLe ks k))[i]? = some x := by rw [List.getElem?_take_of_lt hi]; exact hx
  rw [(zL h k).1] at e
  simpa using (List.mem_filter.mp (List.mem_of_getElem? e)).2
theorem vS (T : Tree S bg) (W : WOk S bg w) (hpl : w.place = some n ∨ w.place = none) (hn : S.pg[n]? = some p) (hg : w.goal <= p.lv) {s : Nat} {q : Pg} {h : Int} (hh : p.hi = some h) (hs : S.pg[s]? = some q) (hl : q.lv = p.lv) (hb : bg s = some h) {w' : Wk} (e1 : w'.place = some s) (e2 : w'.forks = w.forks) (e3 : w'.goal = w.goal) (e4 : h <= w'.aim) (e5 : 0 < w.goal -> w'.newp = w.newp /\ w'.aim = w.aim) : WOk S bg w' where
  at_ := fun m hm => by
    rw [e1] at hm; cases hm
    exact ⟨q, hs, by omega, fun v hv => by rw [hb] at hv; cases hv; exact e4⟩
  none_ := fun hm => by rw [e1] at hm; cases hm
  kept := fun l f hf => W.kept l f (e2 ▸ hf)
  above := fun m z hm hz l f hf hlt => by
    rw [e1] at hm; cases hm
    rw [hs] at hz; cases hz
    rw [e2] at hf
    rcases hpl with hp | hp
    . refine (W.above n p hp hn l f hf (by omega)).trans fun v hv => ⟨h, hb, ?_⟩
      have := (T.page n p hn).wide h hh v hv; omega
    . have := W.none_ hp l f hf; omega
  chain := fun l f l' f' hf hf' a b => W.chain l f l' f' (e2 ▸ hf) (e2 ▸ hf') (e3 ▸ a) b
  gap := fun m z hm hz hlt l f hf => by
    rw [e1] at hm; cases hm
    rw [hs] at hz; cases hz
    rw [e2] at hf
    rcases hpl with hp | hp
    . rcases W.gap n p hp hn (by omega) l f hf with a | a
      . exact .inl (by omega)
      . exact .inr (by omega)
    . exact .inl (by have := W.none_ hp l f hf; omega)
  full := fun m z hm hz l' f' hf' l a b => by
    rw [e1] at hm; cases hm
    rw [hs] at hz; cases hz
    rw [e2] at hf' ⊢
    rcases hpl with hp | hp
    . exact W.full n p hp hn l' f' hf' l (by omega) b
    . have := W.none_ hp l' f' hf'; omega
  tell := fun h0 => by
    rw [e3] at h0 ⊢
    obtain ⟨k, z, a1, a2, a3, a4⟩ := W.tell h0
    obtain ⟨b1, b2⟩ := e5 h0
    exact ⟨k, z, b1.trans a1, a2, a3, by rw [b2]; exact a4⟩
theorem Qcj (T : Tree S bg) (W : WOk S bg w) (hpl : w.place = some n ∨ (w.place = none /\ n = S.top)) (hn : S.pg[n]? = some p) (hg : w.goal < p.lv) {c : Nat} {q : Pg} (hc : S.pg[c]? = some q) (hl : q.lv + 1 = p.lv) (hb : bg c = JH (bg n) p.ks (cLe p.ks w.aim)) : WOk S bg { w with forks := yB w.forks p.lv n, place := some c } := by
  have ok := T.page n p hn
  have lb : leBB (bg n) (bg c) := by
    rw [hb]
    cases e : cLe p.ks w.aim with
    | zero => exact leBB.refl _
    | succ i =>
      intro v hv
      have hi : i < p.ks.length := by have := X4 p.ks w.aim; omega
      refine ⟨p.ks[i], List.getElem?_eq_getElem hi, Int.le_of_lt (ok.lowF (by omega) _ (List.getElem_mem hi) v hv)⟩
  have la : leB (bg n) w.aim := by
    rcases hpl with hp | ⟨_, rfl⟩
    . obtain ⟨p', a1, a2, a3⟩ := W.at_ n hp
      exact a3
    . intro v hv; rw [T.rbg] at hv; cases hv
  have ca : leB (bg c) w.aim := by
    rw [hb]
    cases e : cLe p.ks w.aim with
    | zero => exact la
    | succ i => intro v hv; exact gk ok.sorted (by omega) hv
  have old : ∀ l f, X7 w.forks l = some f -> l ≠ p.lv -> l < w.goal ∨ (p.lv < l /\ w.place = some n) := fun l f hf hne => by
    rcases hpl with hp | ⟨hp, _⟩
    . rcases W.gap n p hp hn hg l f hf with a | a
      . exact .inl a
      . exact .inr ⟨a, hp⟩
    . exact .inl (W.none_ hp l f hf)
  have gp : ∀ l f, X7 (yB w.forks p.lv n) l = some f -> (l = p.lv /\ f = n) ∨ (l ≠ p.lv /\ X7 w.forks l = some f) := fun l f hf => by
    rw [VN] at hf
    by_cases e : l = p.lv
    . rw [if_pos e] at hf; cases hf; exact .inl ⟨e, rfl⟩
    . rw [if_neg e] at hf; exact .inr ⟨e, hf⟩
  refine ⟨fun m hm => ?_, fun hm => (by cases hm), fun l f hf => ?_, fun m z hm hz l f hf hlt => ?_, fun l f l' f' hf hf' a b => ?_, fun m z hm hz hlt l f hf => ?_, fun m z hm hz l' f' hf' l a b => ?_, W.tell⟩
  . cases hm
    refine ⟨q, hc, ?_, ca⟩
    show w.goal <= q.lv; omega
  . rcases gp l f hf with ⟨rfl, rfl⟩ | ⟨_, h⟩
    . exact ⟨p, hn, rfl⟩
    . exact W.kept l f h
  . cases hm
    rw [hc] at hz; cases hz
    rcases gp l f hf with ⟨rfl, rfl⟩ | ⟨hne, h⟩
    . exact lb
    . rcases old l f h hne with a | ⟨a, hp⟩
      . omega
      . exact (W.above n p hp hn l f h a).trans lb
  . have a : w.goal <= l := a
    rcases gp l f hf with ⟨rfl, rfl⟩ | ⟨hne, h⟩
    . rcases gp l' f' hf' with ⟨rfl, rfl⟩ | ⟨hne', h'⟩
      . omega
      . rcases old l' f' h' hne' with c1 | ⟨c1, hp⟩
        . omega
        . exact W.above _ p hp hn l' f' h' c1
    . rcases gp l' f' hf' with ⟨rfl, rfl⟩ | ⟨hne', h'⟩
      . rcases old l f h hne with c1 | ⟨c1, hp⟩ <;> omega
      . exact W.chain l f l' f' h h' a b
  . cases hm
    rw [hc] at hz; cases hz
    show l < w.goal ∨ _
    rcases gp l f hf with ⟨rfl, rfl⟩ | ⟨hne, h⟩
    . exact .inr (by omega)
    . rcases old l f h hne with c1 | ⟨c1, hp⟩
      . exact .inl c1
      . exact .inr (by omega)
  . cases hm
    rw [hc] at hz; cases hz
    by_cases e : l = p.lv
    . exact ⟨n, by rw [VN, if_pos e]⟩
    . rcases gp l' f' hf' with ⟨rfl, rfl⟩ | ⟨hne, h⟩
      . omega
      . rcases old l' f' h hne with c1 | ⟨c1, hp⟩
        . omega
        . obtain ⟨f, hf⟩ := W.full n p hp hn l' f' h l (by omega) b
          exact ⟨f, by rw [VN, if_neg e]; exact hf⟩
theorem Stp.of_rd {S' : Sh} {bg' : Bg} {w' : Wk} {x y : Int} (h : Stp { S with rd := x, wr := y } bg w S' bg' w') : Stp S bg w S' bg' w' := ⟨h.tree, ⟨h.grow.old⟩, h.wok, h.unt, h.new, h.room, h.len⟩
theorem Stp.still (T : Tree S bg) {w' : Wk} {x y : Int} (hu : 0 < w.goal -> ∀ k, w.newp = some k -> Untold S k) (h : w'.ended = false -> WOk S bg w' /\ (w'.goal = w.goal /\ (0 < w.goal -> w'.newp = w.newp))) : Stp S bg w { S with rd := x, wr := y } bg w' where
  tree := T.rd x y
  grow := ⟨fun n p h => ⟨rfl, p, h, rfl⟩⟩
  wok := fun e => let W := (h e).1; ⟨W.at_, W.none_, W.kept, W.above, W.chain, W.gap, W.full, W.tell⟩
  unt := fun k v hu _ _ => hu
  new := fun k e g0 hk => by
    obtain ⟨_, e1, e2⟩ := h e
    rw [e1] at g0
    rw [e2 g0] at hk
    exact ⟨hu g0 k hk, .inl ⟨g0, hk⟩⟩
  room := rfl
  len := Nat.le_succ _
theorem WOk.rd (W : WOk S bg w) (x y : Int) : WOk { S with rd := x, wr := y } bg w := ⟨W.at_, W.none_, W.kept, W.above, W.chain, W.gap, W.full, W.tell⟩
theorem ul (T : Tree S bg) (W : WOk S bg w) (hw : w.ended = false) (hu : 0 < w.goal -> ∀ k, w.newp = some k -> Untold S k) : ∃ r S' w' bg', Vn S w = some (r, S', w') /\ Stp S bg w S' bg' w' := by
  obtain ⟨n, hn0, hpl⟩ : ∃ n, w.place.getD S.top = n /\ (w.place = some n ∨ (w.place = none /\ n = S.top)) := by
    cases e : w.place with
    | none => exact ⟨S.top, rfl, .inr ⟨rfl, rfl⟩⟩
    | some m => exact ⟨m, rfl, .inl rfl⟩
  obtain ⟨p, hn⟩ : ∃ p, S.pg[n]? = some p := by
    rcases hpl with hp | ⟨_, rfl⟩
    . obtain ⟨p, a, _⟩ := W.at_ n hp; exact ⟨p, a⟩
    . obtain ⟨p, a, _⟩ := T.root; exact ⟨p, a⟩
  have hpl' : w.place = some n ∨ w.place = none := hpl.imp id And.left
  have ok := T.page n p hn
  have la : leB (bg n) w.aim := by
    rcases hpl with hp | ⟨_, rfl⟩
    . obtain ⟨p', a1, a2, a3⟩ := W.at_ n hp
      exact a3
    . intro v hv; rw [T.rbg] at hv; cases hv
  unfold Vn
  rw [if_neg (by rw [hw]; simp), hn0]
  simp only [hn]
  by_cases hr : w.place = none /\ p.lv < w.goal
  . rw [if_pos hr]
    have htop : n = S.top := by
      rcases hpl with hp | ⟨_, e⟩
      . rw [hr.1] at hp; cases hp
      . exact e
    subst htop
    obtain ⟨k, q, a1, a2, a3, a4⟩ := W.tell (by omega)
    simp only [a1]
    have lev : q.lv <= p.lv := by
      obtain ⟨r, b1, b2⟩ := T.root
      rw [hn] at b1; cases b1; exact b2 k q a2
    obtain ⟨T', G⟩ := T.raise (x := S.rd + 1) (y := S.wr + 1) hn a2 (by omega) a4
    refine ⟨_, _, _, _, rfl, T', G, fun h => (by cases h), fun k' v hu' hb hne m z hm h0 hk' => ?_, fun k' h => (by cases h), rfl, by simp⟩
    rcases XO hm with ⟨rfl, rfl⟩ | hm
    . have hk2 : (k' : Int) = (S.top : Int) ∨ (k' : Int) = (k : Int) := by simpa using hk'
      rcases hk2 with e | e
      . have : k' = S.top := by omega
        subst this; rw [T.rbg] at hb; cases hb
      . have : k' = k := by omega
        subst this; exact hne (by omega) a1
    . exact hu' m z hm h0 hk'
  . rw [if_neg hr]
    have hg : w.goal <= p.lv := by
      rcases hpl with hp | ⟨hp, _⟩
      . obtain ⟨p', b1, b2, _⟩ := W.at_ n hp
        rw [hn] at b1; cases b1; exact b2
      . exact Nat.le_of_not_lt fun h => hr ⟨hp, h⟩
    cases hb : Yi p w.aim with
    | true =>
      rw [if_pos rfl]
      rcases T.link n p hn with ⟨a, b⟩ | ⟨h, s, q, a, b, c, d, e⟩
      . unfold Yi at hb; rw [a] at hb; cases hb
      . simp only [b]
        have ha : h <= w.aim := by unfold Yi at hb; rw [a] at hb; simpa using hb
        exact ⟨_, _, _, bg, rfl, Stp.still T hu fun _ => ⟨vS T W hpl' hn hg a c d e rfl rfl rfl ha fun _ => ⟨rfl, rfl⟩, rfl, fun _ => rfl⟩⟩
    | false =>
      have lh := vJ hb
      rw [if_neg (by simp)]
      by_cases hd : w.goal < p.lv
      . rw [if_pos hd]
        have pl := ok.parts
        rw [if_neg (by omega)] at pl
        have hc : cLe p.ks w.aim < p.ps.length := by have := X4 p.ks w.aim; omega
        obtain ⟨c, q, a1, a2, a3, a4⟩ := T.kid n p hn (by omega) _ _ (List.getElem?_eq_getElem hc)
        rw [List.getElem?_eq_getElem hc, a1]
        simp only [Int.toNat_natCast]
        exact ⟨_, _, _, bg, rfl, Stp.still T hu fun _ => ⟨Qcj T W hpl hn hd a2 a3 a4, rfl, fun _ => rfl⟩⟩
      . rw [if_neg hd]
        have hlv : p.lv = w.goal := by omega
        by_cases h0 : 0 < w.goal
        . rw [if_pos h0]
          obtain ⟨k, q, a1, a2, a3, a4⟩ := W.tell h0
          simp only [a1]
          obtain ⟨n1, n2⟩ := QaC T hn a2 (by omega) a4 (hu h0 k a1)
          have lt : ltB (bg n) w.aim := fun v hv => by
            have := la v hv
            have : v ≠ w.aim := fun e => n2 (by rw [hv, e])
            omega
          obtain ⟨bg', st⟩ := Ul (S := { S with rd := S.rd + 1, wr := S.wr }) (P := ZY p w.aim k) (T.rd _ _) hn rfl rfl rfl (vd ok (by omega) n1 lt lh) (ya ok) (fun _ => UH T hn a2 (by omega) a4) (W.rd _ _) hw hpl' hlv (fun k' _ hm => by
            rcases List.mem_append.mp hm with hm | hm
            . exact .inl (List.mem_of_mem_take hm)
            . rcases List.mem_cons.mp hm with e | hm
              . have : k' = k := by omega
                subst this; exact .inr ⟨h0, a1⟩
              . exact .inl (List.mem_of_mem_drop hm))
          exact ⟨_, _, _, bg', rfl, st.of_rd⟩
        . rw [if_neg h0]
          have hz : p.lv = 0 := by omega
          have g0 : w.goal = 0 := by omega
          unfold Xq
          cases hdd : w.deed with
          | find k => exact ⟨_, _, _, bg, rfl, Stp.still T hu fun h => (by cases h)⟩
          | put k x =>
            have W1 : WOk { S with rd := S.rd + 1, wr := S.wr } bg ({ deed := .put k x, aim := w.aim, goal := w.goal, place := w.place, forks := w.forks, newp := w.newp, worth := Q0 p w.aim, pairs := w.pairs, ended := w.ended } : Wk) := ⟨W.at_, W.none_, W.kept, W.above, W.chain, W.gap, W.full, W.tell⟩
            obtain ⟨bg', st⟩ := Ul (S := { S with rd := S.rd + 1, wr := S.wr }) (w := ({ deed := .put k x, aim := w.aim, goal := w.goal, place := w.place, forks := w.forks, newp := w.newp, worth := Q0 p w.aim, pairs := w.pairs, ended := w.ended } : Wk)) (P := Q2 p w.aim x) (T.rd _ _) hn rfl rfl rfl (GH ok hz la lh) (j2 ok) (fun h => (by omega)) W1 hw hpl' hlv (fun k' h => (by omega))
            exact ⟨_, _, _, bg', rfl, ⟨st.tree, ⟨st.grow.old⟩, st.wok, st.unt, st.new, st.room, st.len⟩⟩
          | cut k =>
            dsimp only
            by_cases hs : (Q0 p w.aim).isSome = true
            . rw [if_pos hs]
              obtain ⟨T', G⟩ := T.write (x := S.rd + 1) (y := S.wr + 1) (p' := without p w.aim) hn rfl rfl rfl (vE ok hz) (fun h => (by omega))
              exact ⟨_, _, _, bg, rfl, T', G, fun h => (by cases h), fun k' v hu' _ _ => hu'.set hn rfl fun h => (by omega), fun k' h => (by cases h), rfl, by simp⟩
            . rw [if_neg hs]
              exact ⟨_, _, _, bg, rfl, Stp.still T hu fun h => (by cases h)⟩
          | stretch l h =>
            dsimp only
            rcases T.link n p hn with ⟨a, b⟩ | ⟨x, s, q, a, b, c, d, e⟩
            . simp only [a, b]
              exact ⟨_, _, _, bg, rfl, Stp.still T hu fun h => (by cases h)⟩
            . simp only [a, b]
              by_cases hx : h <= x
              . rw [if_pos hx]
                exact ⟨_, _, _, bg, rfl, Stp.still T hu fun h => (by cases h)⟩
              . rw [if_neg hx]
                exact ⟨_, _, _, bg, rfl, Stp.still T hu fun _ => ⟨vS T W hpl' hn hg a c d e rfl rfl rfl (Int.le_refl _) (fun z => (by omega)), rfl, fun _ => rfl⟩⟩
end
end TR
namespace TR
def ltO : Option Int -> Option Int -> Bool
  | none, some _ => true
  | some v, some u => decide (v < u)
  | _, none => false
theorem xM {a b c : Option Int} (h : ltO a b = true) (g : ltO b c = true) : ltO a c = true := by
  cases a <;> cases b <;> cases c <;> simp_all [ltO]; omega
theorem Ks (a : Option Int) : ltO a a = false := by cases a <;> simp [ltO]
theorem K2 {b : Option Int} {h : Int} (w : ltB b h) : ltO b (some h) = true := by
  cases b with
  | none => rfl
  | some v => simpa [ltO] using w v rfl
theorem vT {α : Type} (p q : α -> Bool) : ∀ l : List α, (∀ x ∈ l, q x = true -> p x = true) -> (l.filter q).length <= (l.filter p).length
  | [], _ => Nat.le_refl _
  | x :: l, h => by
    have ih := vT p q l fun y hy => h y (List.mem_cons_of_mem _ hy)
    have hx := h x (by simp)
    by_cases a : q x = true
    . simp [List.filter_cons, a, hx a, ih]
    . by_cases b : p x = true
      . simp [List.filter_cons, a, b]; omega
      . simp [List.filter_cons, a, b, ih]
theorem UY {α : Type} (p q : α -> Bool) : ∀ l : List α, (∀ x ∈ l, q x = true -> p x = true) -> (∃ a ∈ l, p a = true /\ q a = false) -> (l.filter q).length < (l.filter p).length
  | [], _, h => by obtain ⟨a, h, _⟩ := h; cases h
  | x :: l, h, ⟨a, ha, pa, qa⟩ => by
    have le := vT p q l fun y hy => h y (List.mem_cons_of_mem _ hy)
    rcases List.mem_cons.mp ha with rfl | ha
    . simp [List.filter_cons, pa, qa]; omega
    . have ih := UY p q l (fun y hy => h y (List.mem_cons_of_mem _ hy)) ⟨a, ha, pa, qa⟩
      have hx := h x (by simp)
      by_cases a : q x = true
      . simp [List.filter_cons, a, hx a]; omega
      . by_cases b : p x = true
        . simp [List.filter_cons, a, b]; omega
        . simp [List.filter_cons, a, b]; omega
inductive Chain (S : Sh) : Nat -> List Nat -> Prop
  | last {n : Nat} {p : Pg} : S.pg[n]? = some p -> p.sd = none -> Chain S n [n]
  | next {n : Nat} {p : Pg} {s : Nat} {r : List Nat} : S.pg[n]? = some p -> p.sd = some s -> Chain S s r -> Chain S n (n :: r)
section
variable {S : Sh} {bg : Bg}
theorem Ke (T : Tree S bg) {n s : Nat} {p : Pg} (hn : S.pg[n]? = some p) (hs : p.sd = some s) : ∃ h q, p.hi = some h /\ S.pg[s]? = some q /\ q.lv = p.lv /\ bg s = some h /\ ltO (bg n) (bg s) = true := by
  rcases T.link n p hn with ⟨_, b⟩ | ⟨h, s', q, a, b, c, d, e⟩
  . rw [hs] at b; cases b
  . rw [hs] at b; cases b
    exact ⟨h, q, a, c, d, e, by rw [e]; exact K2 ((T.page n p hn).wide h a)⟩
def mu (S : Sh) (bg : Bg) (n : Nat) : Nat := ((List.range S.pg.length).filter fun m => ltO (bg n) (bg m)).length
theorem GS (T : Tree S bg) : ∀ (m n : Nat) (p : Pg), mu S bg n < m -> S.pg[n]? = some p -> ∃ r, Chain S n r
  | 0, _, _, h, _ => by omega
  | m + 1, n, p, h, hn => by
    cases hs : p.sd with
    | none => exact ⟨_, .last hn hs⟩
    | some s =>
      obtain ⟨x, q, a1, a2, a3, a4, a5⟩ := Ke T hn hs
      have : mu S bg s < mu S bg n := by
        refine UY _ _ _ (fun y _ hy => xM a5 hy) ⟨s, List.mem_range.mpr (Jz a2), a5, Ks _⟩
      obtain ⟨r, hr⟩ := GS T m s q (by omega) a2
      exact ⟨_, .next hn hs hr⟩
theorem Chain.facts (T : Tree S bg) {n : Nat} {r : List Nat} (c : Chain S n r) : ∀ p, S.pg[n]? = some p -> (∀ m ∈ r, ∃ q, S.pg[m]? = some q /\ q.lv = p.lv) /\ (∀ m ∈ r, m = n ∨ ltO (bg n) (bg m) = true) /\ r.Pairwise (fun a b => ltO (bg a) (bg b) = true) /\ (∀ m ∈ r, ∀ q s, S.pg[m]? = some q -> q.sd = some s -> s ∈ r) /\ n ∈ r := by
  induction c with
  | @last n p0 hn hs =>
    intro p hp
    rw [hn] at hp; cases hp
    refine ⟨fun m hm => ?_, fun m hm => ?_, by simp, fun m hm q s hq hqs => ?_, by simp⟩
    . rw [List.mem_singleton.mp hm]; exact ⟨_, hn, rfl⟩
    . exact .inl (List.mem_singleton.mp hm)
    . rw [List.mem_singleton.mp hm, hn] at hq; cases hq; rw [hs] at hqs; cases hqs
  | @next n p0 s r hn hs c ih =>
    intro p hp
    rw [hn] at hp; cases hp
    obtain ⟨x, q, a1, a2, a3, a4, a5⟩ := Ke T hn hs
    obtain ⟨i1, i2, i3, i4, i5⟩ := ih q a2
    have up : ∀ m ∈ r, ltO (bg n) (bg m) = true := fun m hm => by
      rcases i2 m hm with rfl | h
      . exact a5
      . exact xM a5 h
    refine ⟨fun m hm => ?_, fun m hm => ?_, List.pairwise_cons.mpr ⟨up, i3⟩, fun m hm q' s' hq hqs => ?_, by simp⟩
    . rcases List.mem_cons.mp hm with rfl | hm
      . exact ⟨_, hn, rfl⟩
      . obtain ⟨z, b1, b2⟩ := i1 m hm
        exact ⟨z, b1, b2.trans a3⟩
    . rcases List.mem_cons.mp hm with rfl | hm
      . exact .inl rfl
      . exact .inr (up m hm)
    . rcases List.mem_cons.mp hm with rfl | hm
      . rw [hn] at hq; cases hq
        rw [hs] at hqs; cases hqs
        exact List.mem_cons_of_mem _ i5
      . exact List.mem_cons_of_mem _ (i4 m hm q' s' hq hqs)
theorem xU {r : List Nat} (h : r.Pairwise (fun a b => ltO (bg a) (bg b) = true)) : r.Nodup :=
  h.imp fun {a b} hab e => by subst e; rw [Ks] at hab; cases hab
theorem Um (T : Tree S bg) {n : Nat} {r : List Nat} {p : Pg} (c : Chain S n r) (hn : S.pg[n]? = some p) (hb : bg n = none) : ∀ (k m : Nat) (q : Pg), ((List.range S.pg.length).filter fun x => ltO (bg x) (bg m)).length < k -> S.pg[m]? = some q -> q.lv = p.lv -> m ∈ r
  | 0, _, _, h, _, _ => by omega
  | k + 1, m, q, h, hm, hl => by
    obtain ⟨f1, f2, f3, f4, f5⟩ := c.facts T p hn
    cases e : bg m with
    | none => rw [T.uniq hm hn hl (by rw [e, hb])]; exact f5
    | some v =>
      obtain ⟨a, z, b1, b2, b3⟩ := T.pred m q hm v e
      have lt : ltO (bg a) (bg m) = true := by rw [e]; exact K2 ((T.page a z b1).wide v b3)
      have : ((List.range S.pg.length).filter fun x => ltO (bg x) (bg a)).length < ((List.range S.pg.length).filter fun x => ltO (bg x) (bg m)).length :=
        UY _ _ _ (fun y _ hy => xM hy lt) ⟨a, List.mem_range.mpr (Jz b1), lt, Ks _⟩
      have ha := Um T c hn hb k a z (by omega) b1 (by omega)
      rcases T.link a z b1 with ⟨g1, _⟩ | ⟨x, s, y, g1, g2, g3, g4, g5⟩
      . rw [b3] at g1; cases g1
      . rw [b3] at g1; cases g1
        have : s = m := T.uniq g3 hm (by omega) (by rw [g5, e])
        subst this
        exact f4 a ha z s b1 g2
theorem Qds (T : Tree S bg) {n : Nat} {p : Pg} (hn : S.pg[n]? = some p) (hb : bg n = none) : ∃ r, Chain S n r /\ r.Nodup /\ (∀ m, m ∈ r ↔ ∃ q, S.pg[m]? = some q /\ q.lv = p.lv) := by
  obtain ⟨r, c⟩ := GS T (mu S bg n + 1) n p (by omega) hn
  obtain ⟨f1, f2, f3, f4, f5⟩ := c.facts T p hn
  exact ⟨r, c, xU f3, fun m => ⟨f1 m, fun ⟨q, h1, h2⟩ => Um T c hn hb _ m q (Nat.lt_succ_self _) h1 h2⟩⟩
def lvB (S : Sh) (f : Nat -> Bool) (n : Nat) : Bool := match S.pg[n]? with
  | some p => f p.lv
  | none => false
theorem Qb3 (T : Tree S bg) {l : Nat} {r : List Nat} (h : r.Nodup) (hm : ∀ m, m ∈ r ↔ ∃ q, S.pg[m]? = some q /\ q.lv = l) : r.length = ((List.range S.pg.length).filter (lvB S fun x => decide (x = l))).length := by
  refine List.Perm.length_eq ((List.perm_ext_iff_of_nodup h (List.nodup_range.filter _)).mpr fun m => ?_)
  rw [hm m, List.mem_filter, List.mem_range]
  constructor
  . rintro ⟨q, h1, h2⟩
    exact ⟨Jz h1, by unfold lvB; rw [h1]; simpa using h2⟩
  . rintro ⟨h1, h2⟩
    unfold lvB at h2
    rw [List.getElem?_eq_getElem h1] at h2
    exact ⟨_, List.getElem?_eq_getElem h1, by simpa using h2⟩
theorem xL (S : Sh) (j : Nat) : ∀ l : List Nat, (l.filter (lvB S fun x => decide (x < j + 1))).length = (l.filter (lvB S fun x => decide (x < j))).length + (l.filter (lvB S fun x => decide (x = j))).length
  | [] => rfl
  | n :: l => by
    have ih := xL S j l
    have e : ∀ f : Nat -> Bool, ((n :: l).filter (lvB S f)).length = (if lvB S f n = true then 1 else 0) + (l.filter (lvB S f)).length := fun f => by
      by_cases h : lvB S f n = true
      . simp [List.filter_cons, h]; omega
      . simp [List.filter_cons, h]
    rw [e, e, e, ih]
    unfold lvB
    cases S.pg[n]? with
    | none => simp
    | some p =>
      simp only [decide_eq_true_eq]
      rcases Nat.lt_trichotomy p.lv j with h | h | h
      . rw [if_pos (by omega), if_pos h, if_neg (by omega)]; omega
      . rw [if_pos (by omega), if_neg (by omega), if_pos h]; omega
      . rw [if_neg (by omega), if_neg (by omega), if_neg (by omega)]; omega
theorem GU (S : Sh) (l : List Nat) : (l.filter (lvB S fun x => decide (x < 0))).length = 0 := by
  rw [List.length_eq_zero_iff, List.filter_eq_nil_iff]
  intro n _
  unfold lvB
  cases S.pg[n]? <;> simp
theorem u8 {L : Nat} (h : ∀ (n : Nat) (p : Pg), S.pg[n]? = some p -> p.lv <= L) : ((List.range S.pg.length).filter (lvB S fun x => decide (x < L + 1))).length = S.pg.length := by
  rw [List.filter_eq_self.mpr, List.length_range]
  intro n hn
  rw [List.mem_range] at hn
  unfold lvB
  rw [List.getElem?_eq_getElem hn]
  have := h n _ (List.getElem?_eq_getElem hn)
  simp; omega
inductive Lefts (S : Sh) (bg : Bg) : Nat -> List Nat -> Prop
  | leaf {n : Nat} {p : Pg} : S.pg[n]? = some p -> p.lv = 0 -> bg n = none -> Lefts S bg n [n]
  | fork {n c : Nat} {p : Pg} {r : List Nat} : S.pg[n]? = some p -> 0 < p.lv -> bg n = none -> p.ps[0]? = some (c : Int) -> Lefts S bg c r -> Lefts S bg n (n :: r)
theorem K0 (T : Tree S bg) : ∀ (l n : Nat) (p : Pg), p.lv = l -> S.pg[n]? = some p -> bg n = none -> ∃ r, Lefts S bg n r /\ r.length = l + 1
  | 0, n, p, h, hn, hb => ⟨_, .leaf hn h hb, rfl⟩
  | l + 1, n, p, h, hn, hb => by
    have ok := T.page n p hn
    have pl := ok.parts
    rw [if_neg (by omega)] at pl
    have h0 : 0 < p.ps.length := by omega
    obtain ⟨c, q, a1, a2, a3, a4⟩ := T.kid n p hn (by omega) 0 _ (List.getElem?_eq_getElem h0)
    obtain ⟨r, b1, b2⟩ := K0 T l c q (by omega) a2 (by rw [a4]; exact hb)
    exact ⟨_, .fork hn (by omega) hb (by rw [List.getElem?_eq_getElem h0, a1]) b1, by simp [b2]⟩
theorem Lefts.get {n : Nat} {r : List Nat} (h : Lefts S bg n r) : ∀ (T : Tree S bg) (p : Pg), S.pg[n]? = some p -> r.length = p.lv + 1 /\ ∀ i c, r[i]? = some c -> ∃ q, S.pg[c]? = some q /\ q.lv + i = p.lv /\ bg c = none := by
  induction h with
  | @leaf n p0 hn h0 hb =>
    intro T p hp
    rw [hn] at hp; cases hp
    refine ⟨by simp [h0], fun i c hc => ?_⟩
    match i, hc with
    | 0, hc => cases hc; exact ⟨_, hn, rfl, hb⟩
    | i + 1, hc => simp at hc
  | @fork n c p0 r hn h0 hb hc l ih =>
    intro T p hp
    rw [hn] at hp; cases hp
    obtain ⟨c', q, a1, a2, a3, a4⟩ := T.kid n p0 hn h0 0 _ hc
    have : c = c' := by omega
    subst this
    obtain ⟨i1, i2⟩ := ih T q a2
    refine ⟨by simp [i1]; omega, fun i d hd => ?_⟩
    match i, hd with
    | 0, hd => cases hd; exact ⟨_, hn, rfl, hb⟩
    | i + 1, hd =>
      obtain ⟨z, b1, b2, b3⟩ := i2 i d (by simpa using hd)
      exact ⟨z, b1, by omega, b3⟩
end
end TR
namespace TR
theorem kn (fs : List (Nat × Nat)) (k v : Nat) : (yB fs k v).length <= fs.length + 1 := by
  unfold yB; split <;> simp
theorem jU (S : Sh) (w : Wk) (n : Nat) (P : Pg) : (Zf S w n P).2.2.forks = w.forks /\ (Zf S w n P).2.2.pairs = w.pairs := by
  unfold Zf; split <;> exact ⟨rfl, rfl⟩
theorem GF (p : Pg) (l h : Int) : (QV p l h).length <= p.ks.length := by
  unfold QV
  refine Nat.le_trans (List.length_filter_le _ _) ?_
  rw [List.length_zip]; omega
theorem GY (S : Sh) (w : Wk) (n : Nat) (p : Pg) : (Xq S w n p).2.2.forks = w.forks /\ (Xq S w n p).2.2.pairs.length <= w.pairs.length + p.ks.length := by
  obtain ⟨deed, aim, goal, place, forks, newp, worth, pairs, ended⟩ := w
  cases deed with
  | find k => exact ⟨rfl, by simp [Xq]⟩
  | put k x =>
    have := jU S ⟨.put k x, aim, goal, place, forks, newp, Q0 p aim, pairs, ended⟩ n (Q2 p aim x)
    refine ⟨this.1, ?_⟩
    show (Zf S ⟨.put k x, aim, goal, place, forks, newp, Q0 p aim, pairs, ended⟩ n (Q2 p aim x)).2.2.pairs.length <= _
    rw [this.2]
    exact Nat.le_add_right _ _
  | cut k => exact ⟨rfl, by simp [Xq]⟩
  | stretch l h =>
    have pl := GF p l h
    unfold Xq
    dsimp only
    split
    . split
      . exact ⟨rfl, by simp; omega⟩
      . exact ⟨rfl, by simp; omega⟩
    . exact ⟨rfl, by simp; omega⟩
theorem VJ {S S' : Sh} {w w' : Wk} {r : Row} {m : Nat} (hk : ∀ (n : Nat) (p : Pg), S.pg[n]? = some p -> p.ks.length <= m) (h : Vn S w = some (r, S', w')) : w'.forks.length <= w.forks.length + 1 /\ w'.pairs.length <= w.pairs.length + m := by
  unfold Vn at h
  split at h
  . cases h; exact ⟨by omega, by omega⟩
  . split at h
    . cases h
    . rename_i p hp
      have kl := hk _ p hp
      split at h
      . split at h
        . cases h
        . cases h; exact ⟨by simp, by simp⟩
      . split at h
        . split at h
          . cases h
          . cases h; exact ⟨by simp, by simp⟩
        . split at h
          . split at h
            . cases h
            . cases h; exact ⟨kn _ _ _, by simp⟩
          . split at h
            . split at h
              . cases h
              . rename_i c hc
                have z := jU { S with rd := S.rd + 1 } w (w.place.getD S.top) (ZY p w.aim c)
                have e := Option.some.inj h
                have e2 : (Zf { S with rd := S.rd + 1 } w (w.place.getD S.top) (ZY p w.aim c)).2.2 = w' := congrArg (fun t => t.2.2) e
                rw [e2] at z
                exact ⟨by rw [z.1]; omega, by rw [z.2]; omega⟩
            . have e := Option.some.inj h
              have z := GY { S with rd := S.rd + 1 } w (w.place.getD S.top) p
              rw [e] at z
              have z2 : w'.pairs.length <= w.pairs.length + p.ks.length := z.2
              have z1 : w'.forks = w.forks := z.1
              exact ⟨by rw [z1]; omega, by omega⟩
def fresh (d : Deed) : Wk := ⟨d, d.key, 0, none, [], none, none, [], false⟩
end TR
namespace D
open PySem PySem.Spec PyProof.Rows L2
def oN : Option Nat -> DV
  | none => .non
  | some n => .int n
def pgD (p : TR.Pg) : DV := .tup [.int p.lv, .tup (p.ks.map .int), .tup (p.ps.map .int), opt p.hi, oN p.sd]
def ZZ : TR.Deed -> DV
  | .find k => .tup [.str "find", .int k]
  | .put k w => .tup [.str "put", .int k, .int w]
  | .cut k => .tup [.str "cut", .int k]
  | .stretch l h => .tup [.str "stretch", .int l, .int h]
def fkD (fs : List (Nat × Nat)) : List (Key × DV) := fs.map fun p => (.inl p.1, .int p.2)
def prD (ps : List (Int × Int)) : List DV := ps.map fun p => .tup [.int p.1, .int p.2]
def wkF (s f q : Nat) (d a g p n w e : DV) : List (Str × DV) := [("shelf", .ref s), ("deed", d), ("aim", a), ("goal", g), ("place", p), ("forks", .ref f), ("new_page", n), ("worth", w), ("pairs", .ref q), ("ended", e)]
def wkO (s f q : Nat) (w : TR.Wk) : OV := .ins "Walk" (wkF s f q (ZZ w.deed) (.int w.aim) (.int w.goal) (oN w.place) (oN w.newp) (opt w.worth) (.bl w.ended))
def gY : TR.Row -> DV
  | .non => .non
  | .side n t => .tup [.str "side", .int n, .int t]
  | .down n t => .tup [.str "down", .int n, .int t]
  | .found n w => .tup [.str "found", .int n, opt w]
  | .put n w k => .tup [.str "put", .int n, opt w, oN k]
  | .cut n w => .tup [.str "cut", .int n, opt w]
  | .read n ps none => .tup [.str "read", .int n, .tup (prD ps), .non, .non]
  | .read n ps (some (t, a)) => .tup [.str "read", .int n, .tup (prD ps), .int t, .int a]
  | .told n k => .tup [.str "told", .int n, oN k]
  | .raised n t => .tup [.str "raised", .int n, .int t]
section
variable (s f q : Nat) (d a g p n w e x : DV)
theorem u0 : List.lookup ("shelf" : Str) (wkF s f q d a g p n w e) = some (.ref s) := by rfl
theorem xo : List.lookup ("deed" : Str) (wkF s f q d a g p n w e) = some d := by rfl
theorem YY : List.lookup ("aim" : Str) (wkF s f q d a g p n w e) = some a := by rfl
theorem GI : List.lookup ("goal" : Str) (wkF s f q d a g p n w e) = some g := by rfl
theorem qG : List.lookup ("place" : Str) (wkF s f q d a g p n w e) = some p := by rfl
theorem Up : List.lookup ("forks" : Str) (wkF s f q d a g p n w e) = some (.ref f) := by rfl
theorem UX : List.lookup ("new_page" : Str) (wkF s f q d a g p n w e) = some n := by rfl
theorem qD : List.lookup ("worth" : Str) (wkF s f q d a g p n w e) = some w := by rfl
theorem gw : List.lookup ("pairs" : Str) (wkF s f q d a g p n w e) = some (.ref q) := by rfl
theorem zW : List.lookup ("ended" : Str) (wkF s f q d a g p n w e) = some e := by rfl
theorem Qbn : (wkF s f q d a g p n w e).length = 10 := rfl
theorem Qas : List.lookup ("go_on" : Str) (wkF s f q d a g p n w e) = none := by rfl
theorem Qc0 : List.lookup ("do_deed" : Str) (wkF s f q d a g p n w e) = none := by rfl
theorem Qc5 : List.lookup ("tell_fork" : Str) (wkF s f q d a g p n w e) = none := by rfl
theorem QcZ : List.lookup ("raise_root_over" : Str) (wkF s f q d a g p n w e) = none := by rfl
theorem QaS : List.lookup ("settle" : Str) (wkF s f q d a g p n w e) = none := by rfl
theorem Qde : List.lookup ("find_worth" : Str) (wkF s f q d a g p n w e) = none := by rfl
theorem Qdb : List.lookup ("put_pair" : Str) (wkF s f q d a g p n w e) = none := by rfl
theorem Qdm : List.lookup ("cut_key" : Str) (wkF s f q d a g p n w e) = none := by rfl
theorem QdB : List.lookup ("read_pairs" : Str) (wkF s f q d a g p n w e) = none := by rfl
theorem uk : List.lookup ("step" : Str) (wkF s f q d a g p n w e) = none := by rfl
theorem Ky : List.lookup ("over" : Str) (wkF s f q d a g p n w e) = none := by rfl
end
theorem QbX (fs : List (Nat × Nat)) (k v : Nat) : jK (fkD fs) (.inl (k : Int)) (.int v) = fkD (TR.yB fs k v) := by
  unfold jK TR.yB
  have e : ((fkD fs).any fun kv => decide (kv.1 = (.inl (k : Int) : Key))) = fs.any fun p => decide (p.1 = k) := by
    unfold fkD
    rw [List.any_map]
    congr 1
    funext p
    simp only [Function.comp]
    congr 1
    simp
    omega
  rw [e]
  by_cases h : (fs.any fun p => decide (p.1 = k)) = true
  . rw [if_pos h, if_pos h]
    unfold fkD
    rw [List.map_map, List.map_map]
    apply List.map_congr_left
    intro p _
    simp only [Function.comp]
    by_cases q : p.1 = k
    . simp [q]
    . have : ¬ ((p.1 : Int) = (k : Int)) := by omega
      simp [q, this]
  . rw [if_neg h, if_neg h]
    simp [fkD]
theorem Qcs (fs : List (Nat × Nat)) (k : Nat) : YU (fkD fs) (.inl (k : Int)) = (TR.X7 fs k).map fun v => .int v := by
  induction fs with
  | nil => rfl
  | cons p r ih =>
    rw [show fkD (p :: r) = (.inl (p.1 : Int), .int p.2) :: fkD r from rfl, Ur, ih]
    unfold TR.X7
    rw [List.find?_cons]
    by_cases q : p.1 = k
    . simp [q]
    . have : ¬ ((p.1 : Int) = (k : Int)) := by omega
      simp [q, this]
theorem QbQ (fs : List (Nat × Nat)) : (fkD fs).length = fs.length := List.length_map _
end D
namespace D
open PySem PySem.Spec PyProof.Rows L2
section
variable {c f m : Str} {o e : DEx} {fa : DAx} {env : En} {hp hp1 hp2 : Hs} {a n : Nat} {fs : List (Str × DV)} {d v : DV} {ds : List DV} {F : List DV -> M DV}
theorem Kp {α : Type} {k : Nat -> List (Str × DV) -> M α} (h : hp[a]? = some (.ins c fs)) : onI c (.ref a) k hp = k a fs hp := by
  show (Jt a >>= _) hp = _
  rw [Qi (Z3 h)]
  show (Qu (decide (c = c)) >>= fun _ => k a fs) hp = _
  rw [decide_eq_true rfl]; rfl
theorem JF (he : e env hp = some (v, hp1)) (ho : o env hp1 = some (.ref a, hp1)) (h : hp1[a]? = some (.ins c fs)) (hl : fs.length < 1000) : Zc c f o e env hp = some ((.nx, env), hp1.set a (.ins c (XH f v fs))) := by
  unfold Zc
  rw [Qi he, Qi ho]
  unfold xa
  have : onI c (.ref a) (fun n fs => do Qu (decide (fs.length < 1000)); jX n (.ins c (XH f v fs))) hp1 = some ((), hp1.set a (.ins c (XH f v fs))) := by
    rw [Kp h, decide_eq_true hl]; rfl
  rw [Qi this]; rfl
theorem Za (ho : o env hp = some (.ref a, hp1)) (h : hp1[a]? = some (.ins c fs)) (hf : fs.lookup f = some d) : QJ c f o env hp = some (d, hp1) := by
  unfold QJ
  rw [Qi ho]
  unfold jC
  rw [Kp h, hf]; rfl
theorem Q9 (ho : o env hp = some (.ref a, hp)) (h : hp[a]? = some (.ins c fs)) (hm : fs.lookup m = none) (ha : fa env hp = some (ds, hp1)) (hn : ds.length + 1 = n) (hF : F (.ref a :: ds) hp1 = some (d, hp2)) : QK c m n F o fa env hp = some (d, hp2) := by
  unfold QK
  rw [Qi ho]
  have : onI c (.ref a) (fun _ fs => Qu (fs.lookup m).isNone) hp = some ((), hp) := by rw [Kp h, hm]; rfl
  rw [Qi this, Qi ha, decide_eq_true hn]
  show (Qu true >>= fun _ => F (.ref a :: ds)) hp1 = _
  exact hF
theorem qI : Qm env hp = some ([], hp) := rfl
theorem ZS (h : e env hp = some (v, hp1)) : Qc e Qm env hp = some ([v], hp1) := by unfold Qc; rw [Qi h]; rfl
theorem J5 {e' : DEx} {v' : DV} (h : e env hp = some (v, hp1)) (h' : e' env hp1 = some (v', hp2)) : Qc e (Qc e' Qm) env hp = some ([v, v'], hp2) := by
  have := ZS h'
  unfold Qc at this ⊢; rw [Qi h, Qi this]; rfl
theorem Xk {e' e'' : DEx} {v' v'' : DV} {hp3 : Hs} (h : e env hp = some (v, hp1)) (h' : e' env hp1 = some (v', hp2)) (h'' : e'' env hp2 = some (v'', hp3)) : Qc e (Qc e' (Qc e'' Qm)) env hp = some ([v, v', v''], hp3) := by
  have := J5 h' h''
  unfold Qc at this ⊢; rw [Qi h, Qi this]; rfl
theorem Qe {i : Nat} (h : env[i]? = some (.val d)) : Qb i env hp = some (d, hp) := by unfold Qb; rw [h]; rfl
theorem Zl {k : Nat} (ha : fa env hp = some (ds, hp1)) (hk : ds.length = k) (hF : F ds hp1 = some (d, hp2)) : Qs k F fa env hp = some (d, hp2) := by
  unfold Qs; rw [Qi ha, decide_eq_true hk]; exact hF
theorem JV {c : DTx} {f g : DSx} (h : c env hp = some (true, hp1)) : sIf c f g env hp = f env hp1 := by rw [Qat h]; rfl
theorem Zg {c : DTx} {f g : DSx} (h : c env hp = some (false, hp1)) : sIf c f g env hp = g env hp1 := by rw [Qat h]; rfl
theorem Zh : Q6 env hp = some ((.nx, env), hp) := rfl
theorem Y9 {i : Nat} (h : hp[a]? = some (.lst ds)) (hd : ds[i]? = some d) : ixG (.ref a) (.int i) hp = some (d, hp) := by
  show (Jt a >>= _) hp = _
  rw [Qi (Z3 h)]
  show (asI (.int (i : Int)) >>= fun i => zo (atI ds i)) hp = _
  simp only [asI, pure_bind, YX hd]; rfl
end
theorem Qbu {o : DEx} {fa : DAx} {env : En} {hp : Hs} {a : Nat} {fs : List (Nat × Nat)} {j : Nat} (ho : o env hp = some (.ref a, hp)) (h : hp[a]? = some (.dic (fkD fs))) (ha : fa env hp = some ([.int (j : Int)], hp)) : Yv "dict" YE o fa env hp = some (oN (TR.X7 fs j), hp) := by
  unfold Yv
  rw [Qi ho]
  have e2 : Ys "dict" (.ref a) hp = some ((), hp) := by
    show (Jt a >>= _) hp = _
    rw [Qi (Z3 h)]; rfl
  rw [Qi e2, Qi ha]
  show (Jt a >>= _) hp = _
  rw [Qi (Z3 h)]
  show some (((YU (fkD fs) (.inl (j : Int))).getD .non), hp) = _
  rw [Qcs]
  cases TR.X7 fs j <;> rfl
theorem wl {s f q : Nat} {d a g p n w e : DV} : (wkF s f q d a g p n w e).length < 1000 := by rw [Qbn]; decide
theorem Xh {xs : List DV} {i : Nat} {d : DV} (h : xs[i]? = some d) (hp : Hs) : ixG (.tup xs) (.int i) hp = some (d, hp) := by
  show ixD (.tup xs) (.int i) hp = _
  simp only [ixD, YX h]; rfl
theorem xE (p : TR.Pg) (hp : Hs) : ixG (pgD p) (.int 0) hp = some (.int p.lv, hp) := Xh (i := 0) rfl hp
theorem vF (p : TR.Pg) (hp : Hs) : ixG (pgD p) (.int 1) hp = some (.tup (p.ks.map .int), hp) := Xh (i := 1) rfl hp
theorem Vm (p : TR.Pg) (hp : Hs) : ixG (pgD p) (.int 2) hp = some (.tup (p.ps.map .int), hp) := Xh (i := 2) rfl hp
theorem UP (p : TR.Pg) (hp : Hs) : ixG (pgD p) (.int 3) hp = some (opt p.hi, hp) := Xh (i := 3) rfl hp
theorem Kw (p : TR.Pg) (hp : Hs) : ixG (pgD p) (.int 4) hp = some (oN p.sd, hp) := Xh (i := 4) rfl hp
theorem Qa3 (d : TR.Deed) (hp : Hs) : ixG (ZZ d) (.int 1) hp = some (.int d.key, hp) := by cases d <;> exact Xh (i := 1) rfl hp
end D
namespace D
open PySem PySem.Spec PyProof.Rows L2
section
variable {e e' e'' e3 e4 : DEx} {fa : DAx} {env : En} {hp hp1 hp2 hp3 hp4 hp5 : Hs} {v v' v'' v3 v4 d : DV} {ds : List DV}
theorem qo (ha : fa env hp = some (ds, hp1)) (hs : ds.length <= 100000) : ZF fa env hp = some (.tup ds, hp1) := by
  unfold ZF
  rw [Qi ha]
  have : Xu ds = true := decide_eq_true hs
  rw [this]; rfl
theorem kR (h : e env hp = some (v, hp1)) (h' : e' env hp1 = some (v', hp2)) (h'' : e'' env hp2 = some (v'', hp3)) (h3 : e3 env hp3 = some (v3, hp4)) : Qc e (Qc e' (Qc e'' (Qc e3 Qm))) env hp = some ([v, v', v'', v3], hp4) := by
  have := Xk h' h'' h3
  unfold Qc at this ⊢; rw [Qi h, Qi this]; rfl
theorem kS (h : e env hp = some (v, hp1)) (h' : e' env hp1 = some (v', hp2)) (h'' : e'' env hp2 = some (v'', hp3)) (h3 : e3 env hp3 = some (v3, hp4)) (h4 : e4 env hp4 = some (v4, hp5)) : Qc e (Qc e' (Qc e'' (Qc e3 (Qc e4 Qm)))) env hp = some ([v, v', v'', v3, v4], hp5) := by
  have := kR h' h'' h3 h4
  unfold Qc at this ⊢; rw [Qi h, Qi this]; rfl
end
theorem uT {t : DV -> M Bool} {f : DV -> M DV} {p : DV -> Bool} {hp : Hs} (ds : List DV) (ht : ∀ d ∈ ds, t d hp = some (p d, hp)) (hf : ∀ d ∈ ds, f d hp = some (d, hp)) (hl : ds.length < 100000) : Xf (nxD ds) t f 100000 0 hp = some (ds.filter p, hp) := by
  suffices h : ∀ (m i n : Nat), m + i = ds.length -> m < n -> Xf (nxD ds) t f n i hp = some ((ds.drop i).filter p, hp) by simpa using h ds.length 0 100000 rfl hl
  intro m
  induction m with
  | zero =>
    intro i n e hn'
    obtain ⟨n, rfl⟩ : ∃ k, n = k + 1 := ⟨n - 1, by omega⟩
    have : i = ds.length := by omega
    subst this
    have e1 := zg ds ds.length (Nat.le_refl _) hp
    rw [show ds[ds.length]? = none by simp] at e1
    rw [Xf, Qi e1, List.drop_length]
    rfl
  | succ m ih =>
    intro i n e hn'
    obtain ⟨n, rfl⟩ : ∃ k, n = k + 1 := ⟨n - 1, by omega⟩
    have hlt : i < ds.length := by omega
    have e1 := zg ds i (by omega) hp
    rw [List.getElem?_eq_getElem hlt] at e1
    have hi := ih (i + 1) n (by omega) (by omega)
    rw [Xf, Qi e1]
    simp only
    rw [Qi (ht ds[i] (List.getElem_mem hlt)), List.drop_eq_getElem_cons hlt]
    cases q : p ds[i] with
    | false => rw [List.filter_cons_of_neg (by simp [q])]; simpa using hi
    | true =>
      rw [List.filter_cons_of_pos q]
      simp only [if_true]
      rw [Qi (hf ds[i] (List.getElem_mem hlt)), Qi hi]
      rfl
theorem uE : ∀ (ks ps : List Int), jM (ks.map .int) (ps.map .int) = prD (ks.zip ps)
  | [], _ => by cases ‹List Int› <;> rfl
  | _ :: _, [] => rfl
  | k :: ks, p :: ps => by
    show .tup [.int k, .int p] :: jM (ks.map .int) (ps.map .int) = _
    rw [uE ks ps]; rfl
def Qb0 (l h : Int) : DV -> Bool
  | .tup [.int x, _] => decide (l <= x) && decide (x < h)
  | _ => false
theorem vc (l h : Int) (zs : List (Int × Int)) : (prD zs).filter (Qb0 l h) = prD (zs.filter fun q => decide (l <= q.1) && decide (q.1 < h)) := by
  unfold prD
  rw [List.filter_map]; rfl
theorem uU {o : DEx} {fa : DAx} {env : En} {hp : Hs} {a b : Nat} {ds es : List DV} (ho : o env hp = some (.ref a, hp)) (h : hp[a]? = some (.lst ds)) (ha : fa env hp = some ([.ref b], hp)) (hb : hp[b]? = some (.lst es)) (hl : ds.length + es.length <= 100000) : Yv "list" jS o fa env hp = some (.non, hp.set a (.lst (ds ++ es))) := by
  unfold Yv
  rw [Qi ho]
  have e2 : Ys "list" (.ref a) hp = some ((), hp) := by
    show (Jt a >>= _) hp = _
    rw [Qi (Z3 h)]; rfl
  rw [Qi e2, Qi ha]
  show (Jt a >>= _) hp = _
  rw [Qi (Z3 h)]
  show (Jt b >>= _) hp = _
  rw [Qi (Z3 hb)]
  show (Qu (decide (ds.length + es.length <= lim)) >>= fun _ => jX a (.lst (ds ++ es)) >>= fun _ => pure DV.non) hp = _
  rw [show decide (ds.length + es.length <= lim) = true from decide_eq_true hl]; rfl
theorem UF (zs : List (Int × Int)) : (prD zs).length = zs.length := List.length_map _
theorem Qbi (zs ys : List (Int × Int)) : prD zs ++ prD ys = prD (zs ++ ys) := by simp [prD]
theorem zU (o : Option Int) : isD (opt o) .non = pure (.bl o.isNone) := by cases o <;> rfl
theorem vA (o : Option Int) : xr (opt o) .non = pure (.bl o.isSome) := by cases o <;> rfl
theorem jD (o : Option Nat) : isD (oN o) .non = pure (.bl o.isNone) := by cases o <;> rfl
theorem uN {x : Str} (h : PyData.strOk x = true) : okP (.str x) = true := by simp [okP, yd, toP, SeqAt.shaped, PyData.canLay0, PyData.depth, h]
theorem eqS {x y : Str} (hp : Hs) (h1 : PyData.strOk x = true) (h2 : PyData.strOk y = true) {b : Bool} (h : (x == y) = b) : eqG (.str x) (.str y) hp = some (.bl b, hp) := by
  unfold eqG
  have e : V7 (.str x) (.str y) hp = some (x == y, hp) := by
    rw [xj (vZ 39 hp x) (vZ 39 hp y) (uN h1) (uN h2)]; rfl
  rw [Qi e, h]; rfl
section
variable {c c' : DTx} {e e' : DEx} {env : En} {hp hp1 : Hs} {b : Bool}
theorem QcB (h : c env hp = some (true, hp1)) : eOr c c' env hp = some (true, hp1) := by unfold eOr; rw [Qi h]; rfl
theorem xg (h : c env hp = some (false, hp1)) : eOr c c' env hp = c' env hp1 := by unfold eOr; rw [Qi h]; rfl
theorem qZ (h : c env hp = some (true, hp1)) : Jh c c' env hp = c' env hp1 := by unfold Jh; rw [Qi h]; rfl
theorem qV (h : c env hp = some (false, hp1)) : Jh c c' env hp = some (false, hp1) := by unfold Jh; rw [Qi h]; rfl
theorem Qeb (h : c env hp = some (true, hp1)) : eIf c e e' env hp = e env hp1 := by unfold eIf; rw [Qi h]; rfl
theorem Qec (h : c env hp = some (false, hp1)) : eIf c e e' env hp = e' env hp1 := by unfold eIf; rw [Qi h]; rfl
end
theorem Vs {S : TR.Sh} {w : TR.Wk} {i : Nat} {p : TR.Pg} {k : Int} (h : w.deed = .find k) : TR.Xq S w i p = (.found i (TR.Q0 p w.aim), S, { w with worth := TR.Q0 p w.aim, ended := true }) := by
  cases w; simp only at h; subst h; rfl
theorem UC {S : TR.Sh} {w : TR.Wk} {i : Nat} {p : TR.Pg} {k x : Int} (h : w.deed = .put k x) : TR.Xq S w i p = (.put i (TR.Q0 p w.aim) (TR.Zf S { w with worth := TR.Q0 p w.aim } i (TR.Q2 p w.aim x)).1, (TR.Zf S { w with worth := TR.Q0 p w.aim } i (TR.Q2 p w.aim x)).2.1, (TR.Zf S { w with worth := TR.Q0 p w.aim } i (TR.Q2 p w.aim x)).2.2) := by
  cases w; simp only at h; subst h; rfl
theorem Uu {S : TR.Sh} {w : TR.Wk} {i : Nat} {p : TR.Pg} {k : Int} (h : w.deed = .cut k) : TR.Xq S w i p = (.cut i (TR.Q0 p w.aim), if (TR.Q0 p w.aim).isSome = true then { S with pg := S.pg.set i (TR.without p w.aim), wr := S.wr + 1 } else S, { w with worth := TR.Q0 p w.aim, ended := true }) := by
  cases w; simp only at h; subst h; rfl
theorem gt {S : TR.Sh} {w : TR.Wk} {i : Nat} {p : TR.Pg} {l h : Int} (e : w.deed = .stretch l h) (h1 : p.hi = none) : TR.Xq S w i p = (.read i (TR.QV p l h) none, S, { w with pairs := w.pairs ++ TR.QV p l h, ended := true }) := by
  cases w; cases p; simp only at e h1; subst e h1; rfl
theorem Qak {S : TR.Sh} {w : TR.Wk} {i : Nat} {p : TR.Pg} {l h x : Int} {s : Nat} (e : w.deed = .stretch l h) (h1 : p.hi = some x) (h2 : p.sd = some s) : TR.Xq S w i p = if h <= x then (.read i (TR.QV p l h) none, S, { w with pairs := w.pairs ++ TR.QV p l h, ended := true }) else (.read i (TR.QV p l h) (some (s, x)), S, { w with pairs := w.pairs ++ TR.QV p l h, aim := x, place := some s }) := by
  cases w; cases p; simp only at e h1 h2; subst e h1 h2; rfl
theorem QdX {e o j : DEx} {env : En} {hp : Hs} {a l v : Nat} {fs : List (Nat × Nat)} (he : e env hp = some (.int (v : Int), hp)) (ho : o env hp = some (.ref a, hp)) (hj : j env hp = some (.int (l : Int), hp)) (h : hp[a]? = some (.dic (fkD fs))) (hf : fs.length < 5000) : Yw e (gSb o j) env hp = some ((.nx, env), hp.set a (.dic (fkD (TR.yB fs l v)))) := by
  refine yE he ?_
  unfold gSb
  rw [Qi ho, Qi hj]
  have := Vf (d := .int (v : Int)) h (show qO (.int (l : Int)) = some (.inl (l : Int)) from rfl) (by rw [QbQ]; omega)
  rw [QbX] at this
  rw [Qi this]; rfl
end D
namespace D
open PySem PySem.Spec PyProof.Rows L2
section
variable {f g : DEx} {fa : DAx} {env : En} {hp hp1 hp2 : Hs} {d x y : DV} {ds : List DV} {F : List DV -> M DV}
theorem XJ (h : fa env hp = some (ds, hp1)) (hF : F ds hp1 = some (d, hp2)) : QN F fa env hp = some (d, hp2) := by unfold QN; rw [Qi h]; exact hF
theorem kj (ds : List DV) (hp : Hs) : ZD [.lst ds] hp = some (.int ds.length, hp) := rfl
theorem KK (ds : List DV) (hp : Hs) : ZD [.tup ds] hp = some (.int ds.length, hp) := rfl
theorem YM {n : Nat} (h : hp[n]? = some (.lst ds)) : ZD [.ref n] hp = some (.int ds.length, hp) := by
  show (Jt n >>= _) hp = _
  rw [Qi (Z3 h)]; rfl
theorem ko {n : Nat} {kvs : List (Key × DV)} (h : hp[n]? = some (.dic kvs)) : ZD [.ref n] hp = some (.int kvs.length, hp) := by
  show (Jt n >>= _) hp = _
  rw [Qi (Z3 h)]; rfl
theorem Ge (ds : List DV) (hp : Hs) : vw [.tup ds] hp = some (.lst ds, hp) := rfl
theorem neI (i j : Int) (hp : Hs) : neG (.int i) (.int j) hp = some (.bl (!(i == j)), hp) := by
  unfold neG; rw [Qi (KY i j hp)]; rfl
theorem Qc6 (i : Int) (hp : Hs) : neG (.int i) (.int i) hp = some (.bl false, hp) := by rw [neI]; simp
theorem eqI (i j : Int) (hp : Hs) : eqG (.int i) (.int j) hp = some (.bl (i == j), hp) := by
  unfold eqG; rw [Qi (KY i j hp)]; rfl
theorem neO (a b : Option Int) (hp : Hs) : neG (opt a) (opt b) hp = some (.bl (!decide (a = b)), hp) := by
  unfold neG; rw [Qi (QaD a b hp)]; rfl
theorem Qfh (b : Bool) (hp : Hs) : neG (.bl b) (.bl b) hp = some (.bl false, hp) := by
  have e := xj (Qae 39 hp b) (Qae 39 hp b) (kH b) (kH b)
  unfold neG; rw [Qi e]; cases b <;> rfl
theorem Gc (ks : List Int) (hp : Hs) : V7 (.lst (ks.map .int)) (.lst []) hp = some (decide (ks = []), hp) := by
  have e := xj (x := .lst (ks.map .int)) (y := .lst []) (y' := .lst []) (Qbc 38 hp ks) rfl (Gx ks) (Gx [])
  have q := x4 ks []
  rw [e]
  show some (PyData.eqvAll (yq (ks.map .int)) [], hp) = _
  rw [xQ]
  exact congrArg (fun b => some (b, hp)) q
theorem UQ (ks : List Int) (hp : Hs) : neG (.lst (ks.map .int)) (.lst []) hp = some (.bl (!decide (ks = [])), hp) := by
  unfold neG; rw [Qi (Gc ks hp)]; rfl
theorem Qcl (hp : Hs) : eqG (.lst []) (.lst []) hp = some (.bl true, hp) := by
  unfold eqG; rw [Qi (show V7 (.lst []) (.lst []) hp = some (true, hp) from Gc [] hp)]; rfl
theorem ixL {ks : List Int} {i : Nat} {k : Int} (h : ks[i]? = some k) (hp : Hs) : ixG (.lst (ks.map .int)) (.int i) hp = some (.int k, hp) := by
  show ixD (.lst (ks.map .int)) (.int i) hp = _
  simp only [ixD, YX (xs := ks.map DV.int) (j := i) (v := .int k) (by rw [List.getElem?_map, h]; rfl)]; rfl
theorem QaU {ks : List Int} {k : Int} (h : ks.getLast? = some k) (hp : Hs) : ixG (.lst (ks.map .int)) (.int (-1)) hp = some (.int k, hp) := by
  obtain ⟨ys, rfl⟩ := List.getLast?_eq_some_iff.mp h
  show ixD (.lst ((ys ++ [k]).map .int)) (.int (-1)) hp = _
  rw [List.map_append]
  simp only [ixD, List.map_cons, List.map_nil, Ga]; rfl
end
theorem vK {t : DV -> M Bool} {f : DV -> M DV} {hp : Hs} (ds : List DV) (ht : ∀ d ∈ ds, t d hp = some (false, hp)) (hl : ds.length < 100000) : Xf (nxD ds) t f 100000 0 hp = some ([], hp) := by
  suffices h : ∀ (m i n : Nat), m + i = ds.length -> m < n -> Xf (nxD ds) t f n i hp = some ([], hp) from h ds.length 0 100000 rfl hl
  intro m
  induction m with
  | zero =>
    intro i n e hn'
    obtain ⟨n, rfl⟩ : ∃ k, n = k + 1 := ⟨n - 1, by omega⟩
    have : i = ds.length := by omega
    subst this
    have e1 := zg ds ds.length (Nat.le_refl _) hp
    rw [show ds[ds.length]? = none by simp] at e1
    rw [Xf, Qi e1]; rfl
  | succ m ih =>
    intro i n e hn'
    obtain ⟨n, rfl⟩ : ∃ k, n = k + 1 := ⟨n - 1, by omega⟩
    have hlt : i < ds.length := by omega
    have e1 := zg ds i (by omega) hp
    rw [List.getElem?_eq_getElem hlt] at e1
    rw [Xf, Qi e1]
    simp only
    rw [Qi (ht ds[i] (List.getElem_mem hlt))]
    simpa using ih (i + 1) n (by omega) (by omega)
theorem vi {f : DIx} {env : En} {hp hp1 : Hs} {ds : List DV} (h : f env hp = some (ds, hp1)) : xOf f env hp = some (nxD ds, hp1) := by unfold xOf; rw [Qi h]; rfl
theorem Qbs {f : DAx} {env : En} {hp hp1 : Hs} {a b : Nat} (h : f env hp = some ([.int (a : Int), .int (b : Int)], hp1)) (ha : a <= 1000000) (hb : b <= 1000000) : kA f env hp = some (Zd a (b - a), hp1) := by
  unfold kA
  rw [Qi h]
  have e : QaM [.int (a : Int), .int (b : Int)] = pure (Zd a ((b : Int) - a).toNat) := by
    simp only [QaM, xG ha, xG hb, Bool.and_self, Qu, if_true, pure_bind]
  rw [e, show ((b : Int) - a).toNat = b - a by omega]; rfl
end D
namespace D
open PySem PySem.Spec PyProof.Rows L2
section
variable {c : DTx} {b : DSx} {n : Nat} {env env1 : En} {hp hp1 hp2 : Hs}
theorem Kj (h : c env hp = some (true, hp1)) (hb : b env hp1 = some ((.nx, env1), hp2)) : XG c b (n + 1) env hp = XG c b n env1 hp2 := by
  rw [XG, Qi h]
  simp only [if_true]
  rw [Qi hb]
theorem uG (h : c env hp = some (false, hp1)) : XG c b (n + 1) env hp = some ((.nx, env), hp1) := by
  rw [XG, Qi h]; rfl
end
def nD (r : List Nat) : List DV := r.map fun n : Nat => DV.int (n : Int)
theorem qW (r : List Nat) : (nD r).length = r.length := List.length_map _
theorem vz {r : List Nat} {i n : Nat} (h : r[i]? = some n) : (nD r)[i]? = some (.int (n : Int)) := by unfold nD; rw [List.getElem?_map, h]; rfl
theorem uC : ∀ r : List Nat, (nD r).all JK = true
  | [] => rfl
  | x :: xs => by
    show (JK (.int (x : Int)) && (nD xs).all JK) = true
    rw [uC xs]; rfl
theorem QcA (k : Nat) : ∀ r : List Nat, inB (.int (k : Int)) (nD r) = decide (k ∈ r)
  | [] => rfl
  | x :: xs => by
    have ih := QcA k xs
    unfold inB at ih ⊢
    show ((((x : Int) == (k : Int)) || (nD xs).any fun y => eqF y (.int (k : Int)))) = _
    rw [ih]
    by_cases h : x = k
    . subst h; simp
    . have : ¬ (x : Int) = (k : Int) := by omega
      simp [h, this, Ne.symm h]
theorem QeH {hp : Hs} {fl k : Nat} {r : List Nat} (h : hp[fl]? = some (.lst (nD r))) : inG (.int (k : Int)) (.ref fl) hp = some (.bl (decide (k ∈ r)), hp) := by
  unfold inG
  have : Qah (.int (k : Int)) (.ref fl) hp = some (decide (k ∈ r), hp) := by
    show (Jt fl >>= _) hp = _
    rw [Qi (Z3 h)]
    show (Qu (JK (.int (k : Int)) && (nD r).all JK) >>= fun _ => pure (inB (.int (k : Int)) (nD r))) hp = _
    rw [uC, QcA]; rfl
  rw [Qi this]; rfl
theorem Qbk {hp : Hs} {d k : Nat} {kvs : List (Key × DV)} {v : DV} (h : hp[d]? = some (.dic kvs)) (hv : YU kvs (.inl (k : Int)) = some v) : Qct (.int (k : Int)) (.ref d) hp = some (.bl false, hp) := by
  unfold Qct
  have : Qah (.int (k : Int)) (.ref d) hp = some (true, hp) := by
    show (Jt d >>= _) hp = _
    rw [Qi (Z3 h)]
    show some ((YU kvs (.inl (k : Int))).isSome, hp) = _
    rw [hv]; rfl
  rw [Qi this]; rfl
theorem QcX {hp : Hs} {d k : Nat} {kvs : List (Key × DV)} {v : DV} (h : hp[d]? = some (.dic kvs)) (hv : YU kvs (.inl (k : Int)) = some v) : ixG (.ref d) (.int (k : Int)) hp = some (v, hp) := by
  show (Jt d >>= _) hp = _
  rw [Qi (Z3 h)]
  show (zo (YU kvs (.inl (k : Int)))) hp = _
  rw [hv]; rfl
theorem Ua {o e : DEx} {env : En} {hp : Hs} {a : Nat} {ds : List DV} {d : DV} (ho : o env hp = some (.ref a, hp)) (h : hp[a]? = some (.lst ds)) (he : e env hp = some (d, hp)) (hl : ds.length < 100000) : Yv "list" Jw o (Qc e Qm) env hp = some (.non, hp.set a (.lst (ds ++ [d]))) := by
  unfold Yv
  rw [Qi ho]
  have e2 : Ys "list" (.ref a) hp = some ((), hp) := by
    show (Jt a >>= _) hp = _
    rw [Qi (Z3 h)]; rfl
  rw [Qi e2, Qi (ZS he)]
  show (Jt a >>= _) hp = _
  rw [Qi (Z3 h)]
  show (Qu (decide (ds.length < lim)) >>= fun _ => jX a (.lst (ds ++ [d])) >>= fun _ => pure DV.non) hp = _
  rw [show decide (ds.length < lim) = true from decide_eq_true hl]; rfl
theorem Qau {i : Int} {n : Nat} {f g h : DEx} {env : En} {hp : Hs} (h1 : f env hp = some (.int 0, hp)) (h2 : g env hp = some (.int i, hp)) (h3 : h env hp = some (.int (n : Int), hp)) (a : 0 <= i) (b : i < n) : X6 leD ltD f g h env hp = some (.bl true, hp) := by
  unfold X6
  rw [Qi h1, Qi h2]
  show (leD (.int 0) (.int i) >>= _) hp = _
  rw [Zr, decide_eq_true a, pure_bind]
  show (asB (.bl true) >>= _) hp = _
  simp only [asB, pure_bind, if_true]
  rw [Qi h3, Zi, decide_eq_true b]; rfl
def bgD (bg : Nat -> Option Int) (r : List Nat) : List (Key × DV) := r.map fun n : Nat => ((.inl (n : Int) : Key), opt (bg n))
theorem ux (bg : Nat -> Option Int) (r : List Nat) : (bgD bg r).length = r.length := List.length_map _
theorem Qcm (bg : Nat -> Option Int) {r : List Nat} {n : Nat} (h : n ∈ r) : YU (bgD bg r) (.inl (n : Int)) = some (opt (bg n)) := by
  induction r with
  | nil => cases h
  | cons x xs ih =>
    rw [show bgD bg (x :: xs) = (.inl (x : Int), opt (bg x)) :: bgD bg xs from rfl, Ur]
    by_cases e : x = n
    . subst e; simp
    . have : ¬ (x : Int) = (n : Int) := by omega
      rw [if_neg (by simp [this])]
      exact ih ((List.mem_cons.mp h).resolve_left (Ne.symm e))
theorem Qb2 (bg : Nat -> Option Int) {r : List Nat} {n : Nat} (h : n ∉ r) : jK (bgD bg r) (.inl (n : Int)) (opt (bg n)) = bgD bg (r ++ [n]) := by
  unfold jK
  rw [if_neg]
  . simp [bgD]
  . rw [List.any_eq_true]
    rintro ⟨x, hx, e⟩
    obtain ⟨m, hm, rfl⟩ := List.mem_map.mp hx
    simp at e
    have : m = n := by omega
    exact h (this ▸ hm)
theorem QbZ {e o j : DEx} {env : En} {hp : Hs} {a n : Nat} {kvs : List (Key × DV)} {d : DV} (he : e env hp = some (d, hp)) (ho : o env hp = some (.ref a, hp)) (hj : j env hp = some (.int (n : Int), hp)) (h : hp[a]? = some (.dic kvs)) (hl : kvs.length < 100000) : Yw e (gSb o j) env hp = some ((.nx, env), hp.set a (.dic (jK kvs (.inl (n : Int)) d))) := by
  refine yE he ?_
  unfold gSb
  rw [Qi ho, Qi hj, Qi (Vf (d := d) h (show qO (.int (n : Int)) = some (.inl (n : Int)) from rfl) hl)]; rfl
end D
namespace D
open PySem PySem.Spec PyProof.Rows L2
theorem QbH {n : Nat} {body : DSx} {ds : List DV} {env : En} {hp hp1 : Hs} (h : body (ds.map .val ++ List.replicate (n - ds.length) .un) hp = some ((.nx, env), hp1)) : Q1 n body ds hp = some (.non, hp1) := by
  unfold Q1
  rw [Qi h]; rfl
theorem GL (f : Str) (d : DV) : ∀ fs : List (Str × DV), (XH f d fs).length <= fs.length + 1
  | [] => Nat.le_refl _
  | (g, x) :: r => by
    unfold XH
    split
    . simp
    . simpa using GL f d r
theorem Xn {f : Str} {d : DV} {fs : List (Str × DV)} {m : Nat} (h : fs.length <= m) : (XH f d fs).length <= m + 1 := Nat.le_trans (GL f d fs) (Nat.succ_le_succ h)
theorem gy (f g h : DSx) (env : En) (hp : Hs) : Qr f (Qr g h) env hp = Qr (Qr f g) h env hp := by
  cases e : f env hp with
  | none =>
    unfold Qr
    rw [ZR, ZR, ZR, e]; rfl
  | some r =>
    obtain ⟨⟨fl, env1⟩, hp1⟩ := r
    cases fl with
    | nx =>
      have e2 : Qr f g env hp = g env1 hp1 := Qo e
      rw [Qo e]
      show (Qr g h env1) hp1 = (Qr (Qr f g) h env) hp
      unfold Qr at e2 ⊢
      rw [ZR, ZR, e2]
    | rt d => rw [ZQ e, ZQ (ZQ e)]
    | bk =>
      have a : ∀ k : DSx, Qr f k env hp = some ((.bk, env1), hp1) := fun k => by unfold Qr; rw [Qi e]; rfl
      rw [a]; unfold Qr at a ⊢; rw [Qi (a g)]; rfl
    | ct =>
      have a : ∀ k : DSx, Qr f k env hp = some ((.ct, env1), hp1) := fun k => by unfold Qr; rw [Qi e]; rfl
      rw [a]; unfold Qr at a ⊢; rw [Qi (a g)]; rfl
end D
namespace K25
open PySem PySem.Spec PyProof.Rows L2 D
def top (i : Nat) : Stmt := PySem.Challenge.pw_sidelink_k25_whole_sound_at_each_step.main.body.getD i (.Pass ⟨0, 0, 0, 0⟩)
abbrev Ya : Stmt := top 30
def Va : DSx := Qr (QC 3 (Qh yS (Qh ZG (Qb 0) (Qh kP (Qb 1) (eC (.int 3)))) (Qb 1))) (QF (Qh yS (Qh yS (Qh z0 (Qh yS (Qh z0 (Qb 3) (Qb 3)) (Qb 1)) (Qb 3)) (Qb 1)) (Qb 2)))
def Qw : List DV -> M DV := Q1 4 Va
abbrev Ja : Stmt := ZH (top 27) 10
def qH : DSx := QF (QJ "Shelf" "write_count" (Qb 0))
def Zv : List DV -> M DV := Q1 1 qH
abbrev Xc : Stmt := ZH (top 27) 7
def xi : DSx := QF (QJ "Shelf" "page_room" (Qb 0))
def Zz : List DV -> M DV := Q1 1 xi
abbrev Jb : Stmt := top 38
def YK : DSx := sIf (eOr (eB (Qh Qct (Qh ixG (Qh ixG (Qb 0) (eC (.int 2))) (Qb 4)) (Qb 2))) (eB (Qh neG (Qh ixG (Qb 2) (Qh ixG (Qh ixG (Qb 0) (eC (.int 2))) (Qb 4))) (Qh ixG (Qb 3) (Qb 4))))) (QF (eC (.bl false))) (Q6)
def YH : DSx := GM (yA (Qc (QN ZD (Qc (Qh ixG (Qb 0) (eC (.int 2))) (Qm))) (Qm))) (gN 4) (YK)
def xR : DSx := Qr (QC 3 (Qh ZG (JW (Qc (Qb 1) (Qm))) (QN vw (Qc (Qh ixG (Qb 0) (eC (.int 1))) (Qm))))) (Qr (YH) (QF (eC (.bl true))))
def Jy : List DV -> M DV := Q1 5 xR
abbrev Jc : Stmt := top 37
def JG : DEx := YD false (xOf (kA (Qc (eC (.int 1)) (Qc (QN ZD (Qc (Qb 4) (Qm))) (Qm))))) [4] (eB (Qh geD (Qh ixG (Qb 1) (Qh zk (Qb 0) (eC (.int 1)))) (Qh ixG (Qb 1) (Qb 0)))) (Qb 0)
def xF : DSx := Qr (QC 4 (QN vw (Qc (Qh ixG (Qb 0) (eC (.int 1))) (Qm)))) (Qr (sIf (eOr (eB (Qh neG (Qh ixG (Qb 0) (eC (.int 0))) (Qb 1))) (eOr (eB (Qh gtD (QN ZD (Qc (Qb 4) (Qm))) (Qb 2))) (eB (Qh neG (QN ZD (Qc (Qh ixG (Qb 0) (eC (.int 2))) (Qm))) (Qh ZG (QN ZD (Qc (Qb 4) (Qm))) (QN G4 (Qc (Qh gtD (Qb 1) (eC (.int 0))) (Qm)))))))) (QF (eC (.bl false))) (Q6)) (Qr (sIf (eB (Qh neG (Qh isD (Qh ixG (Qb 0) (eC (.int 3))) (eC .non)) (Qh isD (Qh ixG (Qb 0) (eC (.int 4))) (eC .non)))) (QF (eC (.bl false))) (Q6)) (Qr (QC 5 (Qb 4)) (Qr (sIf (eB (Qh xr (Qb 3) (eC .non))) (Qr (QC 5 (Qh ZG (JW (Qc (Qb 3) (Qm))) (Qb 4))) (sIf (eOr (Jh (eB (Qh neG (Qb 4) (JW (Qm)))) (eB (Qh ltD (Qh ixG (Qb 4) (eC (.int 0))) (Qb 3)))) (Jh (eB (Qh neG (Qb 4) (JW (Qm)))) (Jh (eB (Qh gtD (Qb 1) (eC (.int 0)))) (eB (Qh eqG (Qh ixG (Qb 4) (eC (.int 0))) (Qb 3)))))) (QF (eC (.bl false))) (Q6))) (Q6)) (Qr (sIf (Jh (eB (Qh xr (Qh ixG (Qb 0) (eC (.int 3))) (eC .non))) (Jh (eB (Qh neG (Qb 5) (JW (Qm)))) (eB (Qh geD (Qh ixG (Qb 5) (XF (eC (.int 1)))) (Qh ixG (Qb 0) (eC (.int 3))))))) (QF (eC (.bl false))) (Q6)) (QF (Qh eqG (JG) (JW (Qm)))))))))
def JA : List DV -> M DV := Q1 6 xF
abbrev XZ : Stmt := top 36
def zc : DSx := Qr (sIf (eOr (eB (Qh inG (Qb 1) (Qb 2))) (JT (eB (X6 leD ltD (eC (.int 0)) (Qb 1) (QN ZD (Qc (Qb 0) (Qm))))))) (QF (eC .non)) (Q6)) (Qr (Jo (Yv "list" Jw (Qb 2) (Qc (Qb 1) (Qm)))) (QC 1 (Qh ixG (Qh ixG (Qb 0) (Qb 1)) (eC (.int 4)))))
def qR : DSx := XG (eB (Qh xr (Qb 1) (eC .non))) (zc) 100000
def vM : DSx := Qr (QC 2 (XS (Qm))) (Qr (qR) (QF (Qb 2)))
def YI : List DV -> M DV := Q1 3 vM
abbrev Xx : Stmt := top 39
def jn : DSx := Qr (QC 8 (Qh ixG (Qb 0) (Qb 3))) (Qr (sIf (JT (eB (Qs 4 JA (Qc (Qb 8) (Qc (Qb 2) (Qc (Qb 1) (Qc (Qb 7) (Qm)))))))) (QF (eC .non)) (Q6)) (Qr (sIf (Jh (eB (Qh gtD (Qb 2) (eC (.int 0)))) (JT (eB (Qs 3 Jy (Qc (Qb 8) (Qc (Qb 7) (Qc (Qb 4) (Qm)))))))) (QF (eC .non)) (Q6)) (Qr (Yw (Qb 7) (gSb (Qb 6) (Qb 3))) (QC 7 (Qh ixG (Qb 8) (eC (.int 3)))))))
def qu : DSx := Ut (xLs (Qb 5)) (gN 3) (jn)
def KN : DSx := Qr (QC 5 (Qs 2 YI (Qc (Qb 0) (Qc (Qb 3) (Qm))))) (Qr (sIf (eB (Qh isD (Qb 5) (eC .non))) (QF (eC .non)) (Q6)) (Qr (QC 6 (JE)) (Qr (QC 7 (eC .non)) (Qr (qu) (QF (Qb 6))))))
def Yo : List DV -> M DV := Q1 9 KN
abbrev Xb : Stmt := ZH (top 27) 4
def xk : DSx := QF (QJ "Shelf" "top" (Qb 0))
def Zx : List DV -> M DV := Q1 1 xk
abbrev JS : Stmt := ZH (top 27) 8
def jh : DSx := QF (QN ZD (Qc (QJ "Shelf" "kept" (Qb 0)) (Qm)))
def Z8 : List DV -> M DV := Q1 1 jh
abbrev Zu : Stmt := ZH (top 27) 12
def Yj : DSx := sIf (JT (eB (X6 leD ltD (eC (.int 0)) (Qb 1) (QN ZD (Qc (QJ "Shelf" "kept" (Qb 0)) (Qm)))))) (QcE) (Q6)
def QX : List DV -> M DV := Q1 2 Yj
abbrev J9 : Stmt := ZH (top 27) 1
def jF : DSx := Qr (Jo (QK "Shelf" "check_number" 2 QX (Qb 0) (Qc (Qb 1) (Qm)))) (Qr (Y4 "Shelf" "read_count" jw (Qb 0) (eC (.int 1))) (QF (Qh ixG (QJ "Shelf" "kept" (Qb 0)) (Qb 1))))
def ZC : List DV -> M DV := Q1 2 jF
abbrev Xw : Stmt := top 40
def jo : DSx := Qr (QC 3 (Qs 5 Yo (Qc (Qb 1) (Qc (QK "Shelf" "room" 1 Zz (Qb 0) Qm) (Qc (Qb 5) (Qc (Qh ixG (Qb 2) (Qh zk (Qh zk (QN ZD (Qc (Qb 2) (Qm))) (eC (.int 1))) (Qb 5))) (Qc (Qb 3) (Qm)))))))) (Qr (sIf (eB (Qh isD (Qb 3) (eC .non))) (QF (eC (.bl false))) (Q6)) (QC 4 (Qh ZG (Qb 4) (QN ZD (Qc (Qb 3) (Qm))))))
def jf : DSx := GM (yA (Qc (QN ZD (Qc (Qb 2) (Qm))) (Qm))) (gN 5) (jo)
def qp : DSx := Jo (Yv "list" Jw (Qb 2) (Qc (Qh ixG (Qh ixG (Qh ixG (Qb 1) (Qh ixG (Qb 2) (XF (eC (.int 1))))) (eC (.int 2))) (eC (.int 0))) (Qm)))
def qg : DSx := XG (Jh (eB (Qh gtD (Qh ixG (Qh ixG (Qb 1) (Qh ixG (Qb 2) (XF (eC (.int 1))))) (eC (.int 0))) (eC (.int 0)))) (eB (Qh leD (QN ZD (Qc (Qb 2) (Qm))) (QN ZD (Qc (Qb 1) (Qm)))))) (qp) 100000
def Yd : DEx := YD true (xOf (yA (Qc (QK "Shelf" "pages" 1 Z8 (Qb 0) Qm) (Qm)))) [0] (gF) (QK "Shelf" "read" 2 ZC (Qb 1) (Qc (Qb 0) (Qm)))
def KH : DSx := Qr (QC 1 (Yd)) (Qr (QC 2 (XS (Qc (QK "Shelf" "root" 1 Zx (Qb 0) Qm) (Qm)))) (Qr (qg) (Qr (sIf (eB (Qh neG (QN ZD (Qc (Qb 2) (Qm))) (Qh ZG (Qh ixG (Qh ixG (Qb 1) (Qh ixG (Qb 2) (eC (.int 0)))) (eC (.int 0))) (eC (.int 1))))) (QF (eC (.bl false))) (Q6)) (Qr (QC 3 (JE)) (Qr (QC 4 (eC (.int 0))) (Qr (jf) (QF (Qh eqG (Qb 4) (QN ZD (Qc (Qb 1) (Qm)))))))))))
def J3 : List DV -> M DV := Q1 6 KH
abbrev ZX : Stmt := ZH (top 21) 9
def Jv : DEx := YD true (xOf (QaW (Qh ixG (Qb 2) (eC (.int 1))) (Qh ixG (Qb 2) (eC (.int 2))))) [3, 4] (eB (X6 leD ltD (Qb 1) (Qh ixG (Qb 0) (eC (.int 0))) (Qb 2))) (Qb 0)
def j8 : DSx := Qr (QC 3 (Qh ixG (QJ "Walk" "deed" (Qb 0)) (eC (.int 1)))) (Qr (QC 4 (Qh ixG (QJ "Walk" "deed" (Qb 0)) (eC (.int 2)))) (Qr (QC 5 (Jv)) (Qr (Jo (Yv "list" jS (QJ "Walk" "pairs" (Qb 0)) (Qc (Qb 5) (Qm)))) (Qr (sIf (eOr (eB (Qh isD (Qh ixG (Qb 2) (eC (.int 3))) (eC .non))) (eB (Qh geD (Qh ixG (Qb 2) (eC (.int 3))) (Qb 4)))) (Qr (Zc "Walk" "ended" (Qb 0) (eC (.bl true))) (QF (ZF (Qc (eC (.str "read")) (Qc (Qb 1) (Qc (QN gq (Qc (Qb 5) (Qm))) (Qc (eC .non) (Qc (eC .non) (Qm))))))))) (Q6)) (Qr (Zc "Walk" "aim" (Qb 0) (Qh ixG (Qb 2) (eC (.int 3)))) (Qr (Zc "Walk" "place" (Qb 0) (Qh ixG (Qb 2) (eC (.int 4)))) (QF (ZF (Qc (eC (.str "read")) (Qc (Qb 1) (Qc (QN gq (Qc (Qb 5) (Qm))) (Qc (QJ "Walk" "place" (Qb 0)) (Qc (QJ "Walk" "aim" (Qb 0)) (Qm))))))))))))))
def JX : List DV -> M DV := Q1 6 j8
abbrev JN : Stmt := ZH (top 27) 2
def jp : DSx := Qr (Jo (QK "Shelf" "check_number" 2 QX (Qb 0) (Qc (Qb 1) (Qm)))) (Qr (Y4 "Shelf" "write_count" jw (Qb 0) (eC (.int 1))) (Yw (Qb 2) (gSb (QJ "Shelf" "kept" (Qb 0)) (Qb 1))))
def Z6 : List DV -> M DV := Q1 3 jp
abbrev X0 : Stmt := top 14
def GW : DSx := QF (ZF (Qc (Qh ixD (Qb 0) (eC (.int 0))) (Qc (Qb 1) (Qc (Qb 2) (Qc (Qh ixD (Qb 0) (eC (.int 3))) (Qc (Qh ixD (Qb 0) (eC (.int 4))) (Qm)))))))
def X5 : List DV -> M DV := Q1 3 GW
abbrev ZW : Stmt := top 16
def zZ : DEx := x8 (iTp (Qb 0)) [1] (eB (Qh leD (Qb 0) (Qb 1))) (Qb 0)
def jT : DSx := QF (QN YG (Qc (zZ) (Qm)))
def QW : List DV -> M DV := Q1 2 jT
abbrev JO : Stmt := top 15
def yw : DEx := x8 (iTp (Qb 0)) [1] (eB (Qh ltD (Qb 0) (Qb 1))) (Qb 0)
def V4 : DSx := QF (QN YG (Qc (yw) (Qm)))
def JQ : List DV -> M DV := Q1 2 V4
abbrev X3 : Stmt := top 13
def vq : DSx := Qr (QC 4 (Qh ixD (Qb 0) (eC (.int 1)))) (Qr (QC 5 (Qh ixD (Qb 0) (eC (.int 2)))) (Qr (QC 6 (Qs 2 JQ (Qc (Qb 4) (Qc (Qb 1) (Qm))))) (Qr (QC 7 (Qs 2 QW (Qc (Qb 4) (Qc (Qb 1) (Qm))))) (QF (Qs 3 X5 (Qc (Qb 0) (Qc (Qh ZG (Qh ZG (eSl (Qb 4) (Z7) (Z5 (Qb 6))) (Qb 2)) (eSl (Qb 4) (Z5 (Qb 7)) (Z7))) (Qc (Qh ZG (Qh ZG (eSl (Qb 5) (Z7) (Z5 (Qb 6))) (Qb 3)) (eSl (Qb 5) (Z5 (Qb 7)) (Z7))) (Qm)))))))))
def X9 : List DV -> M DV := Q1 8 vq
abbrev Yy : Stmt := top 11
def uW : DSx := QF (Qs 4 X9 (Qc (Qb 0) (Qc (Qb 1) (Qc (ZF (Qm)) (Qc (ZF (Qm)) (Qm))))))
def zQ : List DV -> M DV := Q1 2 uW
abbrev XX : Stmt := top 9
def va : DSx := Qr (QC 2 (Qh ixD (Qb 0) (eC (.int 1)))) (Qr (QC 3 (Qs 2 JQ (Qc (Qb 2) (Qc (Qb 1) (Qm))))) (Qr (sIf (eB (Qh eqD (Qb 3) (Qs 2 QW (Qc (Qb 2) (Qc (Qb 1) (Qm)))))) (QF (eC .non)) (Q6)) (QF (Qh ixD (Qh ixD (Qb 0) (eC (.int 2))) (Qb 3)))))
def Js : List DV -> M DV := Q1 4 va
abbrev JB : Stmt := ZH (top 21) 8
def Vc : DSx := Qr (Zc "Walk" "worth" (Qb 0) (Qs 2 Js (Qc (Qb 2) (Qc (QJ "Walk" "aim" (Qb 0)) (Qm))))) (Qr (sIf (eB (Qh xr (QJ "Walk" "worth" (Qb 0)) (eC .non))) (Jo (QK "Shelf" "write" 3 Z6 (QJ "Walk" "shelf" (Qb 0)) (Qc (Qb 1) (Qc (Qs 2 zQ (Qc (Qb 2) (Qc (QJ "Walk" "aim" (Qb 0)) (Qm)))) (Qm))))) (Q6)) (Qr (Zc "Walk" "ended" (Qb 0) (eC (.bl true))) (QF (ZF (Qc (eC (.str "cut")) (Qc (Qb 1) (Qc (QJ "Walk" "worth" (Qb 0)) (Qm))))))))
def XL : List DV -> M DV := Q1 3 Vc
abbrev XA : Stmt := ZH (top 27) 3
def xW : DSx := Qr (Y4 "Shelf" "write_count" jw (Qb 0) (eC (.int 1))) (Qr (Jo (Yv "list" Jw (QJ "Shelf" "kept" (Qb 0)) (Qc (Qb 1) (Qm)))) (QF (Qh zk (QN ZD (Qc (QJ "Shelf" "kept" (Qb 0)) (Qm))) (eC (.int 1)))))
def J2 : List DV -> M DV := Q1 2 xW
abbrev qK : Stmt := top 19
def QaV : DSx := Qr (QC 2 (Qh ixD (Qb 0) (eC (.int 0)))) (Qr (QC 3 (Qh ixD (Qb 0) (eC (.int 1)))) (Qr (QC 4 (Qh ixD (Qb 0) (eC (.int 2)))) (Qr (QC 5 (Qh kP (QN YG (Qc (Qb 3) (Qm))) (eC (.int 2)))) (Qr (QC 6 (Qh ixD (Qb 3) (Qb 5))) (Qr (QC 7 (eIf (eB (Qh eqD (Qb 2) (eC (.int 0)))) (Qb 5) (Qh ZG (Qb 5) (eC (.int 1))))) (Qr (QC 8 (ZF (Qc (Qb 2) (Qc (eSl (Qb 3) (Z7) (Z5 (Qb 5))) (Qc (eSl (Qb 4) (Z7) (Z5 (Qb 7))) (Qc (Qb 6) (Qc (Qb 1) (Qm)))))))) (Qr (QC 9 (ZF (Qc (Qb 2) (Qc (eSl (Qb 3) (Z5 (Qb 7)) (Z7)) (Qc (eSl (Qb 4) (Z5 (Qb 7)) (Z7)) (Qc (Qh ixD (Qb 0) (eC (.int 3))) (Qc (Qh ixD (Qb 0) (eC (.int 4))) (Qm)))))))) (QF (ZF (Qc (Qb 8) (Qc (Qb 9) (Qc (Qb 6) (Qm)))))))))))))
def zJ : List DV -> M DV := Q1 10 QaV
abbrev YC : Stmt := top 18
def gJ : DSx := QF (Qh gtD (QN YG (Qc (Qh ixD (Qb 0) (eC (.int 1))) (Qm))) (Qb 1))
def XU : List DV -> M DV := Q1 2 gJ
abbrev JR : Stmt := ZH (top 21) 12
def VW : DSx := Qr (sIf (JT (eB (Qs 2 XU (Qc (Qb 2) (Qc (QK "Shelf" "room" 1 Zz (QJ "Walk" "shelf" (Qb 0)) Qm) (Qm)))))) (Qr (Jo (QK "Shelf" "write" 3 Z6 (QJ "Walk" "shelf" (Qb 0)) (Qc (Qb 1) (Qc (Qb 2) (Qm))))) (Qr (Zc "Walk" "ended" (Qb 0) (eC (.bl true))) (QF (eC .non)))) (Q6)) (Qr (QC 3 (Qs 2 zJ (Qc (Qb 2) (Qc (QK "Shelf" "pages" 1 Z8 (QJ "Walk" "shelf" (Qb 0)) Qm) (Qm))))) (Qr (Zc "Walk" "new_page" (Qb 0) (QK "Shelf" "lay" 2 J2 (QJ "Walk" "shelf" (Qb 0)) (Qc (Qh ixG (Qb 3) (eC (.int 1))) (Qm)))) (Qr (Jo (QK "Shelf" "write" 3 Z6 (QJ "Walk" "shelf" (Qb 0)) (Qc (Qb 1) (Qc (Qh ixG (Qb 3) (eC (.int 0))) (Qm))))) (Qr (Zc "Walk" "aim" (Qb 0) (Qh ixG (Qb 3) (eC (.int 2)))) (Qr (Zc "Walk" "goal" (Qb 0) (Qh ZG (Qh ixG (Qb 2) (eC (.int 0))) (eC (.int 1)))) (Qr (Zc "Walk" "place" (Qb 0) (Yv "dict" YE (QJ "Walk" "forks" (Qb 0)) (Qc (QJ "Walk" "goal" (Qb 0)) (Qm)))) (QF (QJ "Walk" "new_page" (Qb 0)))))))))
def JL : List DV -> M DV := Q1 4 VW
abbrev XB : Stmt := top 10
def GG : DSx := QF (Qs 4 X9 (Qc (Qb 0) (Qc (Qb 1) (Qc (ZF (Qc (Qb 1) (Qm))) (Qc (ZF (Qc (Qb 2) (Qm))) (Qm))))))
def Y8 : List DV -> M DV := Q1 3 GG
abbrev Jk : Stmt := ZH (top 21) 7
def yC : DSx := Qr (Zc "Walk" "worth" (Qb 0) (Qs 2 Js (Qc (Qb 2) (Qc (QJ "Walk" "aim" (Qb 0)) (Qm))))) (Qr (QC 3 (QK "Walk" "settle" 3 JL (Qb 0) (Qc (Qb 1) (Qc (Qs 3 Y8 (Qc (Qb 2) (Qc (QJ "Walk" "aim" (Qb 0)) (Qc (Qh ixG (QJ "Walk" "deed" (Qb 0)) (eC (.int 2))) (Qm))))) (Qm))))) (QF (ZF (Qc (eC (.str "put")) (Qc (Qb 1) (Qc (QJ "Walk" "worth" (Qb 0)) (Qc (Qb 3) (Qm))))))))
def Xr : List DV -> M DV := Q1 4 yC
abbrev ZV : Stmt := ZH (top 21) 6
def jH : DSx := Qr (Zc "Walk" "worth" (Qb 0) (Qs 2 Js (Qc (Qb 2) (Qc (QJ "Walk" "aim" (Qb 0)) (Qm))))) (Qr (Zc "Walk" "ended" (Qb 0) (eC (.bl true))) (QF (ZF (Qc (eC (.str "found")) (Qc (Qb 1) (Qc (QJ "Walk" "worth" (Qb 0)) (Qm)))))))
def J0 : List DV -> M DV := Q1 3 jH
abbrev JC : Stmt := ZH (top 21) 5
def yQ : DSx := Qr (QC 3 (Qh ixG (QJ "Walk" "deed" (Qb 0)) (eC (.int 0)))) (Qr (sIf (eB (Qh eqG (Qb 3) (eC (.str "find")))) (QF (QK "Walk" "find_worth" 3 J0 (Qb 0) (Qc (Qb 1) (Qc (Qb 2) (Qm))))) (Q6)) (Qr (sIf (eB (Qh eqG (Qb 3) (eC (.str "put")))) (QF (QK "Walk" "put_pair" 3 Xr (Qb 0) (Qc (Qb 1) (Qc (Qb 2) (Qm))))) (Q6)) (Qr (sIf (eB (Qh eqG (Qb 3) (eC (.str "cut")))) (QF (QK "Walk" "cut_key" 3 XL (Qb 0) (Qc (Qb 1) (Qc (Qb 2) (Qm))))) (Q6)) (QF (QK "Walk" "read_pairs" 3 JX (Qb 0) (Qc (Qb 1) (Qc (Qb 2) (Qm))))))))
def XQ : List DV -> M DV := Q1 4 yQ
abbrev XV : Stmt := top 12
def vh : DSx := Qr (QC 3 (Qh ixD (Qb 0) (eC (.int 1)))) (Qr (QC 4 (Qh ixD (Qb 0) (eC (.int 2)))) (Qr (QC 5 (Qs 2 QW (Qc (Qb 3) (Qc (Qb 1) (Qm))))) (Qr (QC 6 (Qh ZG (Qb 5) (eC (.int 1)))) (QF (Qs 3 X5 (Qc (Qb 0) (Qc (Qh ZG (Qh ZG (eSl (Qb 3) (Z7) (Z5 (Qb 5))) (ZF (Qc (Qb 1) (Qm)))) (eSl (Qb 3) (Z5 (Qb 5)) (Z7))) (Qc (Qh ZG (Qh ZG (eSl (Qb 4) (Z7) (Z5 (Qb 6))) (ZF (Qc (Qb 2) (Qm)))) (eSl (Qb 4) (Z5 (Qb 6)) (Z7))) (Qm)))))))))
def YL : List DV -> M DV := Q1 7 vh
abbrev Z9 : Stmt := ZH (top 21) 10
def xu : DSx := Qr (QC 3 (QK "Walk" "settle" 3 JL (Qb 0) (Qc (Qb 1) (Qc (Qs 3 YL (Qc (Qb 2) (Qc (QJ "Walk" "aim" (Qb 0)) (Qc (QJ "Walk" "new_page" (Qb 0)) (Qm))))) (Qm))))) (QF (ZF (Qc (eC (.str "told")) (Qc (Qb 1) (Qc (Qb 3) (Qm))))))
def J7 : List DV -> M DV := Q1 4 xu
abbrev Xa : Stmt := ZH (top 21) 4
def UU : DSx := Qr (Zc "Walk" "place" (Qb 0) (Qb 3)) (QF (ZF (Qc (Qb 1) (Qc (Qb 2) (Qc (Qb 3) (Qm))))))
def JD : List DV -> M DV := Q1 4 UU
abbrev YB : Stmt := top 8
def gI : DSx := QF (Qh ixD (Qh ixD (Qb 0) (eC (.int 2))) (Qs 2 QW (Qc (Qh ixD (Qb 0) (eC (.int 1))) (Qc (Qb 1) (Qm)))))
def Yx : List DV -> M DV := Q1 2 gI
abbrev qM : Stmt := top 7
def kJ : DSx := Qr (QC 2 (Qh ixD (Qb 0) (eC (.int 3)))) (QF (J6 (Qh xr (Qb 2) (eC .non)) (Qh geD (Qb 1) (Qb 2))))
def YJ : List DV -> M DV := Q1 3 kJ
abbrev ZK : Stmt := ZH (top 27) 6
def YS : DSx := Qr (Jo (QK "Shelf" "check_number" 2 QX (Qb 0) (Qc (Qb 2) (Qm)))) (Qr (QC 3 (Qh ZG (Qh ixG (Qh ixG (QJ "Shelf" "kept" (Qb 0)) (QJ "Shelf" "top" (Qb 0))) (eC (.int 0))) (eC (.int 1)))) (Qr (Zc "Shelf" "top" (Qb 0) (QK "Shelf" "lay" 2 J2 (Qb 0) (Qc (ZF (Qc (Qb 3) (Qc (ZF (Qc (Qb 1) (Qm))) (Qc (ZF (Qc (QJ "Shelf" "top" (Qb 0)) (Qc (Qb 2) (Qm)))) (Qc (eC .non) (Qc (eC .non) (Qm))))))) (Qm)))) (QF (QJ "Shelf" "top" (Qb 0)))))
def ZM : List DV -> M DV := Q1 4 YS
abbrev Ze : Stmt := ZH (top 21) 11
def qX : DSx := Qr (Zc "Walk" "ended" (Qb 0) (eC (.bl true))) (QF (ZF (Qc (eC (.str "raised")) (Qc (Qb 1) (Qc (QK "Shelf" "raise_root" 3 ZM (QJ "Walk" "shelf" (Qb 0)) (Qc (QJ "Walk" "aim" (Qb 0)) (Qc (QJ "Walk" "new_page" (Qb 0)) (Qm)))) (Qm))))))
def ZB : List DV -> M DV := Q1 2 qX
abbrev Xv : Stmt := ZH (top 21) 3
def GD : DSx := Qr (sIf (eB (QJ "Walk" "ended" (Qb 0))) (QF (eC .non)) (Q6)) (Qr (QC 1 (eIf (eB (Qh isD (QJ "Walk" "place" (Qb 0)) (eC .non))) (QK "Shelf" "root" 1 Zx (QJ "Walk" "shelf" (Qb 0)) Qm) (QJ "Walk" "place" (Qb 0)))) (Qr (QC 2 (QK "Shelf" "read" 2 ZC (QJ "Walk" "shelf" (Qb 0)) (Qc (Qb 1) (Qm)))) (Qr (sIf (Jh (eB (Qh isD (QJ "Walk" "place" (Qb 0)) (eC .non))) (eB (Qh ltD (Qh ixG (Qb 2) (eC (.int 0))) (QJ "Walk" "goal" (Qb 0))))) (QF (QK "Walk" "raise_root_over" 2 ZB (Qb 0) (Qc (Qb 1) (Qm)))) (Q6)) (Qr (sIf (eB (Qs 2 YJ (Qc (Qb 2) (Qc (QJ "Walk" "aim" (Qb 0)) (Qm))))) (QF (QK "Walk" "go_on" 4 JD (Qb 0) (Qc (eC (.str "side")) (Qc (Qb 1) (Qc (Qh ixG (Qb 2) (eC (.int 4))) (Qm)))))) (Q6)) (Qr (sIf (eB (Qh gtD (Qh ixG (Qb 2) (eC (.int 0))) (QJ "Walk" "goal" (Qb 0)))) (Qr (Yw (Qb 1) (gSb (QJ "Walk" "forks" (Qb 0)) (Qh ixG (Qb 2) (eC (.int 0))))) (QF (QK "Walk" "go_on" 4 JD (Qb 0) (Qc (eC (.str "down")) (Qc (Qb 1) (Qc (Qs 2 Yx (Qc (Qb 2) (Qc (QJ "Walk" "aim" (Qb 0)) (Qm)))) (Qm))))))) (Q6)) (Qr (sIf (eB (Qh gtD (QJ "Walk" "goal" (Qb 0)) (eC (.int 0)))) (QF (QK "Walk" "tell_fork" 3 J7 (Qb 0) (Qc (Qb 1) (Qc (Qb 2) (Qm))))) (Q6)) (QF (QK "Walk" "do_deed" 3 XQ (Qb 0) (Qc (Qb 1) (Qc (Qb 2) (Qm)))))))))))
def Jm : List DV -> M DV := Q1 3 GD
abbrev Xt : Stmt := ZH (top 21) 1
def Gf : DSx := QF (QJ "Walk" "ended" (Qb 0))
def J4 : List DV -> M DV := Q1 1 Gf
abbrev Jj : Stmt := ZH (top 21) 0
def yx : DSx := Qr (Zc "Walk" "shelf" (Qb 0) (Qb 1)) (Qr (Zc "Walk" "deed" (Qb 0) (Qb 2)) (Qr (Zc "Walk" "aim" (Qb 0) (Qh ixG (Qb 2) (eC (.int 1)))) (Qr (Zc "Walk" "goal" (Qb 0) (eC (.int 0))) (Qr (Zc "Walk" "place" (Qb 0) (eC .non)) (Qr (Zc "Walk" "forks" (Qb 0) (JE)) (Qr (Zc "Walk" "new_page" (Qb 0) (eC .non)) (Qr (Zc "Walk" "worth" (Qb 0) (eC .non)) (Qr (Zc "Walk" "pairs" (Qb 0) (XS (Qm))) (Zc "Walk" "ended" (Qb 0) (eC (.bl false)))))))))))
def Zp : List DV -> M DV := Q1 3 yx
abbrev Xz : Stmt := top 32
def zN : DSx := Qr (sIf (eB (Qh eqD (Qs 3 Qw (Qc (Qb 0) (Qc (eC (.int 10037)) (Qc (eC (.int 4)) (Qm))))) (eC (.int 0)))) (QF (Qh zk (Qh yS (Qh ZG (Qh z0 (Qh yS (Qb 0) (Qh jA (eC (.int 10)) (eC (.int 40)))) (eC (.int 1000000000039))) (eC (.int 5))) (Qh ZG (Qh z0 (eC (.int 2)) (Qh jA (eC (.int 10)) (eC (.int 30)))) (eC (.int 1)))) (Qh jA (eC (.int 10)) (eC (.int 30))))) (Q6)) (QF (Qh zk (Qs 3 Qw (Qc (Qb 0) (Qc (eC (.int 10039)) (Qc (eC (.int 9)) (Qm))))) (eC (.int 4))))
def XD : List DV -> M DV := Q1 1 zN
abbrev YA : Stmt := top 31
def xC : DSx := Qr (QC 1 (Qs 3 Qw (Qc (Qb 0) (Qc (eC (.int 10007)) (Qc (eC (.int 5)) (Qm)))))) (Qr (sIf (eB (Qh eqD (Qb 1) (eC (.int 0)))) (QF (Qh zk (Qh yS (Qh ZG (Qh z0 (Qh yS (Qb 0) (Qh jA (eC (.int 10)) (eC (.int 40)))) (eC (.int 1000000000039))) (eC (.int 11))) (Qh ZG (Qh z0 (eC (.int 2)) (Qh jA (eC (.int 10)) (eC (.int 30)))) (eC (.int 1)))) (Qh jA (eC (.int 10)) (eC (.int 30))))) (Q6)) (QF (Qh zk (Qs 3 Qw (Qc (Qb 0) (Qc (eC (.int 10009)) (Qc (Qh ixD (JW (Qc (eC (.int 10)) (Qc (eC (.int 10)) (Qc (eC (.int 41)) (Qc (eC (.int 120)) (Qc (eC (.int 120)) (Qm))))))) (Qb 1)) (Qm))))) (eC (.int 5)))))
def Yz : List DV -> M DV := Q1 2 xC
abbrev X2 : Stmt := top 33
def YQ : DSx := Qr (QC 1 (Qs 3 Qw (Qc (Qb 0) (Qc (eC (.int 10061)) (Qc (eC (.int 10)) (Qm)))))) (Qr (QC 2 (Qs 1 Yz (Qc (Qb 0) (Qm)))) (Qr (sIf (eB (Qh ltD (Qb 1) (eC (.int 5)))) (QF (ZF (Qc (eC (.str "put")) (Qc (Qb 2) (Qc (Qs 1 XD (Qc (Qb 0) (Qm))) (Qm)))))) (Q6)) (Qr (sIf (eB (Qh ltD (Qb 1) (eC (.int 7)))) (QF (ZF (Qc (eC (.str "cut")) (Qc (Qb 2) (Qm))))) (Q6)) (Qr (sIf (eB (Qh ltD (Qb 1) (eC (.int 9)))) (QF (ZF (Qc (eC (.str "find")) (Qc (Qb 2) (Qm))))) (Q6)) (Qr (QC 3 (QN GX (Qc (Qb 2) (Qc (Qh zk (Qh jA (eC (.int 10)) (eC (.int 30))) (eC (.int 1))) (Qm))))) (Qr (QC 4 (QN GX (Qc (Qh jA (eC (.int 10)) (eC (.int 30))) (Qc (Qh ZG (Qh ZG (Qb 3) (eC (.int 1))) (Qs 3 Qw (Qc (Qb 0) (Qc (eC (.int 10067)) (Qc (eC (.int 50)) (Qm)))))) (Qm))))) (Qr (QC 5 (QN GX (Qc (Qh jA (eC (.int 10)) (eC (.int 30))) (Qc (Qh ZG (Qh ZG (Qb 3) (eC (.int 51))) (Qs 3 Qw (Qc (Qb 0) (Qc (eC (.int 10151)) (Qc (eC (.int 150)) (Qm)))))) (Qm))))) (QF (ZF (Qc (eC (.str "stretch")) (Qc (Qb 3) (Qc (Qh ixD (JW (Qc (Qh ZG (Qb 3) (eC (.int 1))) (Qc (Qb 4) (Qc (Qb 5) (Qc (Qh jA (eC (.int 10)) (eC (.int 30))) (Qm)))))) (Qs 3 Qw (Qc (Qb 0) (Qc (eC (.int 10069)) (Qc (eC (.int 4)) (Qm)))))) (Qm)))))))))))))
def Jr : List DV -> M DV := Q1 6 YQ
abbrev XY : Stmt := top 34
def j6 : DSx := Qr (sIf (eB (QK "Walk" "over" 1 J4 (Qb 2) Qm)) (QF (Qb 2)) (Q6)) (Jo (QK "Walk" "step" 1 Jm (Qb 2) Qm))
def j7 : DSx := GM (yA (Qc (eC (.int 1000)) (Qm))) (gN 3) (j6)
def vf : DSx := Qr (QC 2 (Xy "Walk" 3 Zp (Qc (Qb 0) (Qc (Qb 1) (Qm))))) (Qr (j7) (QF (Qb 2)))
def X8 : List DV -> M DV := Q1 4 vf
abbrev Jd : Stmt := ZH (top 27) 0
def qF : DSx := Qr (Zc "Shelf" "page_room" (Qb 0) (Qb 1)) (Qr (Zc "Shelf" "kept" (Qb 0) (XS (Qc (eC (.tup [.int 0, .tup [], .tup [], .non, .non])) (Qm)))) (Qr (Zc "Shelf" "top" (Qb 0) (eC (.int 0))) (Qr (Zc "Shelf" "read_count" (Qb 0) (eC (.int 0))) (Zc "Shelf" "write_count" (Qb 0) (eC (.int 0))))))
def ZL : List DV -> M DV := Q1 2 qF
abbrev XC : Stmt := top 35
def jg : DSx := Qr (QC 5 (Qh zk (Qs 3 Qw (Qc (Qh ZG (Qb 0) (Qh z0 (eC (.int 7)) (Qb 4))) (Qc (eC (.int 10099)) (Qc (eC (.int 120)) (Qm))))) (eC (.int 5)))) (Qr (Jo (Qs 2 X8 (Qc (Qb 2) (Qc (ZF (Qc (eC (.str "put")) (Qc (Qb 5) (Qc (Qb 4) (Qm))))) (Qm))))) (Yw (Qb 4) (gSb (Qb 1) (Qb 5))))
def jd : DSx := GM (yA (Qc (Qb 3) (Qm))) (gN 4) (jg)
def GE : DSx := Qr (QC 2 (Xy "Shelf" 2 ZL (Qc (Qh ZG (eC (.int 2)) (Qh z0 (Qs 3 Qw (Qc (Qb 0) (Qc (eC (.int 10079)) (Qc (eC (.int 7)) (Qm))))) (Qs 3 Qw (Qc (Qb 0) (Qc (eC (.int 10091)) (Qc (eC (.int 2)) (Qm))))))) (Qm)))) (Qr (QC 3 (Qs 3 Qw (Qc (Qb 0) (Qc (eC (.int 10093)) (Qc (eC (.int 25)) (Qm)))))) (Qr (sIf (eB (Qh eqG (Qs 3 Qw (Qc (Qb 0) (Qc (eC (.int 10141)) (Qc (eC (.int 8)) (Qm))))) (eC (.int 3)))) (QC 3 (eC (.int 60))) (Q6)) (Qr (jd) (QF (Qb 2)))))
def Yn : List DV -> M DV := Q1 6 GE
abbrev JP : Stmt := top 29
def qx : DSx := Qr (sIf (eB (Qh ltD (Qb 1) (QN YG (Qc (Qb 0) (Qm))))) (QF (Qh ixD (Qb 0) (Qb 1))) (Q6)) (QF (eC (.int 0)))
def Jq : List DV -> M DV := Q1 2 qx
abbrev jN : Stmt := top 41
def ua : DSx := Qr (QC 8 (QK "Shelf" "writings" 1 Zv (Qb 2) Qm)) (Qr (Jo (QK "Walk" "step" 1 Jm (Qh ixG (Qb 4) (Qb 6)) Qm)) (sIf (Jh (eB (Qh neG (QK "Shelf" "writings" 1 Zv (Qb 2) Qm) (Qb 8))) (JT (eB (Qs 1 J3 (Qc (Qb 2) (Qm)))))) (QF (eC (.bl false))) (Q6)))
def Kr : DSx := GM (yA (Qc (Qh ZG (eC (.int 1)) (Qs 3 Qw (Qc (Qb 5) (Qc (eC (.int 10133)) (Qc (eC (.int 5)) (Qm)))))) (Qm))) (gN 7) (ua)
def UO : DSx := Qr (QC 6 (Qs 3 Qw (Qc (Qb 5) (Qc (eC (.int 10111)) (Qc (Qb 3) (Qm)))))) (Qr (sIf (eOr (eB (Qh isD (Qh ixG (Qb 4) (Qb 6)) (eC .non))) (eB (QK "Walk" "over" 1 J4 (Qh ixG (Qb 4) (Qb 6)) Qm))) (Yw (Xy "Walk" 3 Zp (Qc (Qb 2) (Qc (Qs 1 Jr (Qc (Qb 5) (Qm))) (Qm)))) (gSb (Qb 4) (Qb 6))) (Q6)) (Kr))
def ui : DSx := Ut (xLs (eSl (Qb 0) (Z7) (Z5 (eC (.int 100))))) (gN 5) (UO)
def Kn : DEx := YD true (xOf (yA (Qc (Qb 3) (Qm)))) [] (gF) (eC .non)
def QeA : DSx := Qr (QC 1 (Qs 2 Jq (Qc (Qb 0) (Qc (eC (.int 0)) (Qm))))) (Qr (QC 2 (Qs 2 Yn (Qc (Qb 1) (Qc (JE) (Qm))))) (Qr (sIf (JT (eB (Qs 1 J3 (Qc (Qb 2) (Qm))))) (QF (eC (.bl false))) (Q6)) (Qr (QC 3 (Qh ZG (eC (.int 1)) (Qs 3 Qw (Qc (Qb 1) (Qc (eC (.int 10103)) (Qc (eC (.int 8)) (Qm))))))) (Qr (QC 4 (Kn)) (Qr (ui) (QF (eC (.bl true))))))))
def Gp : List DV -> M DV := Q1 9 QeA
section
variable {P : Program} {w : World} {K : PySem.W.Frag} {mg : Str -> Option Value} {base : Heap} {g : Addr} {fd : FuncData}
theorem yk : Qx ["cell", "prime", "many", "low"] ["cell", "prime", "many"] (Qk Ya) := ⟨rfl, rfl, rfl, by decide +kernel, rfl, by decide +kernel, by decide +kernel⟩
theorem Kg (F : Fun K "_law_pick" "_law_pick" Ya g fd) (hm : mg "_law_pick" = some (.ref g)) : Has P w K mg base "_law_pick" 1 3 Qw :=
  Z1 F yk hm (fun _ _ _ _ _ _ us hl => match us, hl with | [_, _, _], _ => rfl) fun cdv A outer s H E hr => by
    have Sc := yk
    refine Qg ?_ ?_; (refine QD 3 Sc.nd ?_; (refine Qy x9 ?_ ?_; (refine Qy Jf ?_ ?_; exact Qa 0; (refine Qy QcC ?_ ?_; exact Qa 1; exact Qp)); exact Qa 1)); (refine Qq ?_; (refine Qv ?_; (refine Qy x9 ?_ ?_; (refine Qy x9 ?_ ?_; (refine Qy ym ?_ ?_; (refine Qy x9 ?_ ?_; (refine Qy ym ?_ ?_; exact Qa 3; exact Qa 3); exact Qa 1); exact Qa 3); exact Qa 1); exact Qa 2)))
theorem qc : Qx ["self"] ["self"] (Qk Ja) := ⟨rfl, rfl, rfl, by decide +kernel, rfl, by decide +kernel, by decide +kernel⟩
theorem js {C : Addr} (F : Fun K "writings" "Shelf.writings" Ja g fd) (nc : ClsN K "Shelf" C) (cl : Cls K C) (me : Ym K C "writings" g) (k_Shelf_write_count : QZ K "Shelf" "write_count") : ZP P w K mg base "Shelf" "writings" 1 1 Zv :=
  Zt nc cl me F qc (fun _ _ _ _ _ _ us hl => match us, hl with | [_], _ => rfl) fun cdv A outer s H E hr => by
    have Sc := qc
    refine Qq ?_; (refine Qv ?_; (refine QG k_Shelf_write_count ?_; exact Qa 0))
theorem ja : Qx ["self"] ["self"] (Qk Xc) := ⟨rfl, rfl, rfl, by decide +kernel, rfl, by decide +kernel, by decide +kernel⟩
theorem yO {C : Addr} (F : Fun K "room" "Shelf.room" Xc g fd) (nc : ClsN K "Shelf" C) (cl : Cls K C) (me : Ym K C "room" g) (k_Shelf_page_room : QZ K "Shelf" "page_room") : ZP P w K mg base "Shelf" "room" 1 1 Zz :=
  Zt nc cl me F ja (fun _ _ _ _ _ _ us hl => match us, hl with | [_], _ => rfl) fun cdv A outer s H E hr => by
    have Sc := ja
    refine Qq ?_; (refine Qv ?_; (refine QG k_Shelf_page_room ?_; exact Qa 0))
theorem Y5 : Qx ["page", "begin", "begins", "starts", "k"] ["page", "begin", "begins"] (Qk Jb) := ⟨rfl, rfl, rfl, by decide +kernel, rfl, by decide +kernel, by decide +kernel⟩
theorem jt (F : Fun K "_law_kids_sound" "_law_kids_sound" Jb g fd) (hm : mg "_law_kids_sound" = some (.ref g)) (z_len : mg "len" = none) (z_range : mg "range" = none) (z_list : mg "list" = none) : Has P w K mg base "_law_kids_sound" 1 3 Jy :=
  Z1 F Y5 hm (fun _ _ _ _ _ _ us hl => match us, hl with | [_, _, _], _ => rfl) fun cdv A outer s H E hr => by
    have Sc := Y5
    refine Qg ?_ ?_; (refine QD 3 Sc.nd ?_; (refine Qy Jf ?_ ?_; (refine zH ?_; (refine Qd ?_ ?_; exact Qa 1; exact Qn)); (refine GC Qa1 z_list boot_list ?_; (refine Qd ?_ ?_; (refine QB (QL hr) ?_ ?_; exact Qa 0; exact Qp); exact Qn)))); (refine Qg ?_ ?_; (refine yW PassesOwn.never rfl ?_ ?_ ?_; (refine X1 rfl z_range ?_; (refine Qd ?_ ?_; (refine Z2 Xg z_len PySem.boot_len ?_; (refine Qd ?_ ?_; (refine QB (QL hr) ?_ ?_; exact Qa 0; exact Qp); exact Qn)); exact Qn)); exact za 4 Sc.nd; (refine Qq ?_; (refine ZN ?_ ?_ ?_; (refine DW.pt ?_; (refine VD ?_ ?_; (refine QM (QdY (QL hr)) ?_ ?_ (by with_unfolding_all rfl); (refine QB (QL hr) ?_ ?_; (refine QB (QL hr) ?_ ?_; exact Qa 0; exact Qp); exact Qa 4); exact Qa 2); (refine xP ?_; (refine QM (xf hr.units) ?_ ?_ (QI _); (refine QB (QL hr) ?_ ?_; exact Qa 2; (refine QB (QL hr) ?_ ?_; (refine QB (QL hr) ?_ ?_; exact Qa 0; exact Qp); exact Qa 4)); (refine QB (QL hr) ?_ ?_; exact Qa 3; exact Qa 4))))); (refine Qq ?_; (refine Qv ?_; exact Yl)); exact QR))); (refine Qq ?_; (refine Qv ?_; exact Yl)))
theorem Y6 : Qx ["page", "level", "room", "begin", "keys", "row"] ["page", "level", "room", "begin"] (Qk Jc) := ⟨rfl, rfl, rfl, by decide +kernel, rfl, by decide +kernel, by decide +kernel⟩
theorem ju (F : Fun K "_law_page_sound" "_law_page_sound" Jc g fd) (hm : mg "_law_page_sound" = some (.ref g)) (z_len : mg "len" = none) (z_range : mg "range" = none) (z_int : mg "int" = none) (z_list : mg "list" = none) : Has P w K mg base "_law_page_sound" 1 4 JA :=
  Z1 F Y6 hm (fun _ _ _ _ _ _ us hl => match us, hl with | [_, _, _, _], _ => rfl) fun cdv A outer s H E hr => by
    have Sc := Y6
    refine Qg ?_ ?_; (refine QD 4 Sc.nd ?_; (refine GC Qa1 z_list boot_list ?_; (refine Qd ?_ ?_; (refine QB (QL hr) ?_ ?_; exact Qa 0; exact Qp); exact Qn))); (refine Qg ?_ ?_; (refine ZN ?_ ?_ ?_; (refine DW.pt ?_; (refine VD ?_ ?_; (refine QM (xf hr.units) ?_ ?_ (QI _); (refine QB (QL hr) ?_ ?_; exact Qa 0; exact Qp); exact Qa 1); (refine VD ?_ ?_; (refine QM Gm ?_ ?_ (QI _); (refine Z2 Xg z_len PySem.boot_len ?_; (refine Qd ?_ ?_; exact Qa 4; exact Qn)); exact Qa 2); (refine xP ?_; (refine QM (xf hr.units) ?_ ?_ (QI _); (refine Z2 Xg z_len PySem.boot_len ?_; (refine Qd ?_ ?_; (refine QB (QL hr) ?_ ?_; exact Qa 0; exact Qp); exact Qn)); (refine Qy Jf ?_ ?_; (refine Z2 Xg z_len PySem.boot_len ?_; (refine Qd ?_ ?_; exact Qa 4; exact Qn)); (refine GC QeB z_int boot_int ?_; (refine Qd ?_ ?_; (refine zM Gm ?_ ?_ (QI _); exact Qa 1; exact Qp); exact Qn)))))))); (refine Qq ?_; (refine Qv ?_; exact Yl)); exact QR); (refine Qg ?_ ?_; (refine ZN ?_ ?_ ?_; (refine QM (xf hr.units) ?_ ?_ (QI _); (refine zM KR ?_ ?_ (QI _); (refine QB (QL hr) ?_ ?_; exact Qa 0; exact Qp); exact Zy); (refine zM KR ?_ ?_ (QI _); (refine QB (QL hr) ?_ ?_; exact Qa 0; exact Qp); exact Zy)); (refine Qq ?_; (refine Qv ?_; exact Yl)); exact QR); (refine Qg ?_ ?_; (refine QD 5 Sc.nd ?_; exact Qa 4); (refine Qg ?_ ?_; (refine ZN ?_ ?_ ?_; (refine QM GJ ?_ ?_ (QI _); exact Qa 3; exact Zy); (refine Qg ?_ ?_; (refine QD 5 Sc.nd ?_; (refine Qy Jf ?_ ?_; (refine zH ?_; (refine Qd ?_ ?_; exact Qa 3; exact Qn)); exact Qa 4)); (refine Qq ?_; (refine ZN ?_ ?_ ?_; (refine DW.pt ?_; (refine VD ?_ ?_; (refine DW.pt ?_; (refine qY ?_ ?_; (refine QM (xf hr.units) ?_ ?_ (QI _); exact Qa 4; (refine zH ?_; exact Qn)); (refine qT ?_; (refine QM VY ?_ ?_ (QI _); (refine QB (QL hr) ?_ ?_; exact Qa 4; exact Qp); exact Qa 3)))); (refine xP ?_; (refine DW.pt ?_; (refine qY ?_ ?_; (refine QM (xf hr.units) ?_ ?_ (QI _); exact Qa 4; (refine zH ?_; exact Qn)); (refine qY ?_ ?_; (refine QM Gm ?_ ?_ (QI _); exact Qa 1; exact Qp); (refine qT ?_; (refine QM (y1 hr.units) ?_ ?_ (QI _); (refine QB (QL hr) ?_ ?_; exact Qa 4; exact Qp); exact Qa 3)))))))); (refine Qq ?_; (refine Qv ?_; exact Yl)); exact QR))); exact QR); (refine Qg ?_ ?_; (refine ZN ?_ ?_ ?_; (refine DW.pt ?_; (refine qY ?_ ?_; (refine QM GJ ?_ ?_ (QI _); (refine QB (QL hr) ?_ ?_; exact Qa 0; exact Qp); exact Zy); (refine qY ?_ ?_; (refine QM (xf hr.units) ?_ ?_ (QI _); exact Qa 5; (refine zH ?_; exact Qn)); (refine qT ?_; (refine QM QbN ?_ ?_ (QI _); (refine QB (QL hr) ?_ ?_; exact Qa 5; (refine vk ?_; exact Qp)); (refine QB (QL hr) ?_ ?_; exact Qa 0; exact Qp)))))); (refine Qq ?_; (refine Qv ?_; exact Yl)); exact QR); (refine Qq ?_; (refine Qv ?_; (refine zM (y1 hr.units) ?_ ?_ (QI _); (refine QaT (caps := ["keys"]) (idx := [4]) ⟨by with_unfolding_all rfl, by decide +kernel, rfl, by decide +kernel, rfl, (by exact ⟨rfl, trivial⟩), by with_unfolding_all rfl, (by exact ⟨rfl, .inl rfl, ⟨_, rfl⟩, (fun h => NameKind.noConfusion (Option.some.inj (show some NameKind.cell = some NameKind.local from h))), trivial⟩), by decide⟩ rfl ?_ ?_ ?_; (refine ur ?_; (refine u6 rfl z_range ?_; (refine Qd ?_ ?_; exact Qp; (refine Qd ?_ ?_; (refine Z2 Xg z_len PySem.boot_len ?_; (refine Qd ?_ ?_; exact Qa 4; exact Qn)); exact Qn)))); (exact fun _ _ _ _ => by refine yL ?_; (refine QM QbN ?_ ?_ (QI _); (refine QB (QL hr) ?_ ?_; exact Qa 1; (refine Qy jb ?_ ?_; exact Qa 0; exact Qp)); (refine QB (QL hr) ?_ ?_; exact Qa 1; exact Qa 0))); (exact fun _ _ _ _ => by exact Qa 0)); (refine zH ?_; exact Qn)))))))))
theorem xX : Qx ["pages", "number", "found"] ["pages", "number"] (Qk XZ) := ⟨rfl, rfl, rfl, by decide +kernel, rfl, by decide +kernel, by decide +kernel⟩
theorem Kv (F : Fun K "_law_list" "_law_list" XZ g fd) (hm : mg "_law_list" = some (.ref g)) (z_len : mg "len" = none) : Has P w K mg base "_law_list" 1 2 YI :=
  Z1 F xX hm (fun _ _ _ _ _ _ us hl => match us, hl with | [_, _], _ => rfl) fun cdv A outer s H E hr => by
    have Sc := xX
    refine Qg ?_ ?_; (refine QD 2 Sc.nd ?_; (refine yK ?_; exact Qn)); (refine Qg ?_ ?_; (refine Gg 100000 PassesOwn.never ?_ ?_; (refine QM GJ ?_ ?_ (QI _); exact Qa 1; exact Zy); (refine Qg ?_ ?_; (refine ZN ?_ ?_ ?_; (refine DW.pt ?_; (refine VD ?_ ?_; (refine QM (Qej (QL hr)) ?_ ?_ (by with_unfolding_all rfl); exact Qa 1; exact Qa 2); (refine xP ?_; (refine jr ?_; (refine y9 km VY ?_ ?_ ?_; exact Qp; exact Qa 1; (refine Z2 Xg z_len PySem.boot_len ?_; (refine Qd ?_ ?_; exact Qa 0; exact Qn))))))); (refine Qq ?_; (refine Qv ?_; exact Zy)); exact QR); (refine Qg ?_ ?_; (refine J8 ?_; (refine yN yY PySem.F.plainAttrs_list PySem.F.slot_list_append PySem.F.type_list_append ?_ ?_; exact Qa 2; (refine Qd ?_ ?_; exact Qa 1; exact Qn))); (refine Qq ?_; (refine QD 1 Sc.nd ?_; (refine QB (QL hr) ?_ ?_; (refine QB (QL hr) ?_ ?_; exact Qa 0; exact Qa 1); exact Qp)))))); (refine Qq ?_; (refine Qv ?_; exact Qa 2)))
theorem xb : Qx ["pages", "room", "level", "number", "beneath", "row", "begins", "begin", "page"] ["pages", "room", "level", "number", "beneath"] (Qk Xx) := ⟨rfl, rfl, rfl, by decide +kernel, rfl, by decide +kernel, by decide +kernel⟩
theorem V5 (F : Fun K "_law_level" "_law_level" Xx g fd) (hm : mg "_law_level" = some (.ref g)) (h_law_kids_sound : Has P w K mg base "_law_kids_sound" 1 3 Jy) (h_law_page_sound : Has P w K mg base "_law_page_sound" 1 4 JA) (h_law_list : Has P w K mg base "_law_list" 1 2 YI) : Has P w K mg base "_law_level" 2 5 Yo :=
  Z1 F xb hm (fun _ _ _ _ _ _ us hl => match us, hl with | [_, _, _, _, _], _ => rfl) fun cdv A outer s H E hr => by
    have Sc := xb
    refine Qg ?_ ?_; (refine QD 5 Sc.nd ?_; (refine QE h_law_list hr (by decide) QA ?_; (refine Qd ?_ ?_; exact Qa 0; (refine Qd ?_ ?_; exact Qa 3; exact Qn)))); (refine Qg ?_ ?_; (refine ZN ?_ ?_ ?_; (refine QM KR ?_ ?_ (QI _); exact Qa 5; exact Zy); (refine Qq ?_; (refine Qv ?_; exact Zy)); exact QR); (refine Qg ?_ ?_; (refine QD 6 Sc.nd ?_; exact j1); (refine Qg ?_ ?_; (refine QD 7 Sc.nd ?_; exact Zy); (refine Qg ?_ ?_; (refine vP PassesOwn.never rfl ?_ ?_ ?_; (refine vX ?_; exact Qa 5); exact za 3 Sc.nd; (refine Qg ?_ ?_; (refine QD 8 Sc.nd ?_; (refine QB (QL hr) ?_ ?_; exact Qa 0; exact Qa 3)); (refine Qg ?_ ?_; (refine ZN ?_ ?_ ?_; (refine jr ?_; (refine zG ?_; (refine QE h_law_page_sound hr (by decide) QA ?_; (refine Qd ?_ ?_; exact Qa 8; (refine Qd ?_ ?_; exact Qa 2; (refine Qd ?_ ?_; exact Qa 1; (refine Qd ?_ ?_; exact Qa 7; exact Qn))))))); (refine Qq ?_; (refine Qv ?_; exact Zy)); exact QR); (refine Qg ?_ ?_; (refine ZN ?_ ?_ ?_; (refine DW.pt ?_; (refine qY ?_ ?_; (refine QM Gm ?_ ?_ (QI _); exact Qa 2; exact Qp); (refine qT ?_; (refine jr ?_; (refine zG ?_; (refine QE h_law_kids_sound hr (by decide) QA ?_; (refine Qd ?_ ?_; exact Qa 8; (refine Qd ?_ ?_; exact Qa 7; (refine Qd ?_ ?_; exact Qa 4; exact Qn))))))))); (refine Qq ?_; (refine Qv ?_; exact Zy)); exact QR); (refine Qg ?_ ?_; (refine Vv ?_ ?_; exact Qa 7; (refine Vl (QL hr) ?_ ?_; exact Qa 6; exact Qa 3)); (refine Qq ?_; (refine QD 7 Sc.nd ?_; (refine QB (QL hr) ?_ ?_; exact Qa 8; exact Qp)))))))); (refine Qq ?_; (refine Qv ?_; exact Qa 6))))))
theorem jl : Qx ["self"] ["self"] (Qk Xb) := ⟨rfl, rfl, rfl, by decide +kernel, rfl, by decide +kernel, by decide +kernel⟩
theorem Vk {C : Addr} (F : Fun K "root" "Shelf.root" Xb g fd) (nc : ClsN K "Shelf" C) (cl : Cls K C) (me : Ym K C "root" g) (k_Shelf_top : QZ K "Shelf" "top") : ZP P w K mg base "Shelf" "root" 1 1 Zx :=
  Zt nc cl me F jl (fun _ _ _ _ _ _ us hl => match us, hl with | [_], _ => rfl) fun cdv A outer s H E hr => by
    have Sc := jl
    refine Qq ?_; (refine Qv ?_; (refine QG k_Shelf_top ?_; exact Qa 0))
theorem zy : Qx ["self"] ["self"] (Qk JS) := ⟨rfl, rfl, rfl, by decide +kernel, rfl, by decide +kernel, by decide +kernel⟩
theorem yv {C : Addr} (F : Fun K "pages" "Shelf.pages" JS g fd) (nc : ClsN K "Shelf" C) (cl : Cls K C) (me : Ym K C "pages" g) (z_len : mg "len" = none) (k_Shelf_kept : QZ K "Shelf" "kept") : ZP P w K mg base "Shelf" "pages" 1 1 Z8 :=
  Zt nc cl me F zy (fun _ _ _ _ _ _ us hl => match us, hl with | [_], _ => rfl) fun cdv A outer s H E hr => by
    have Sc := zy
    refine Qq ?_; (refine Qv ?_; (refine Z2 Xg z_len PySem.boot_len ?_; (refine Qd ?_ ?_; (refine QG k_Shelf_kept ?_; exact Qa 0); exact Qn)))
theorem XT : Qx ["self", "number"] ["self", "number"] (Qk Zu) := ⟨rfl, rfl, rfl, by decide +kernel, rfl, by decide +kernel, by decide +kernel⟩
theorem qU {C : Addr} (F : Fun K "check_number" "Shelf.check_number" Zu g fd) (nc : ClsN K "Shelf" C) (cl : Cls K C) (me : Ym K C "check_number" g) (z_len : mg "len" = none) (k_Shelf_kept : QZ K "Shelf" "kept") : ZP P w K mg base "Shelf" "check_number" 1 2 QX :=
  Zt nc cl me F XT (fun _ _ _ _ _ _ us hl => match us, hl with | [_, _], _ => rfl) fun cdv A outer s H E hr => by
    have Sc := XT
    refine Qq ?_; (refine ZN ?_ ?_ ?_; (refine jr ?_; (refine y9 km VY ?_ ?_ ?_; exact Qp; exact Qa 1; (refine Z2 Xg z_len PySem.boot_len ?_; (refine Qd ?_ ?_; (refine QG k_Shelf_kept ?_; exact Qa 0); exact Qn)))); (refine Qq ?_; exact Qbz); exact QR)
theorem jm : Qx ["self", "number"] ["self", "number"] (Qk J9) := ⟨rfl, rfl, rfl, by decide +kernel, rfl, by decide +kernel, by decide +kernel⟩
theorem Vh {C : Addr} (F : Fun K "read" "Shelf.read" J9 g fd) (nc : ClsN K "Shelf" C) (cl : Cls K C) (me : Ym K C "read" g) (h_Shelf_check_number : ZP P w K mg base "Shelf" "check_number" 1 2 QX) (k_Shelf_kept : QZ K "Shelf" "kept") (k_Shelf_read_count : QZ K "Shelf" "read_count") : ZP P w K mg base "Shelf" "read" 2 2 ZC :=
  Zt nc cl me F jm (fun _ _ _ _ _ _ us hl => match us, hl with | [_, _], _ => rfl) fun cdv A outer s H E hr => by
    have Sc := jm
    refine Qg ?_ ?_; (refine J8 ?_; (refine ZI h_Shelf_check_number hr (by decide) QA ?_ ?_; exact Qa 0; (refine Qd ?_ ?_; exact Qa 1; exact Qn))); (refine Qg ?_ ?_; (refine xI k_Shelf_read_count ?_ ?_; exact Qa 0; exact Qp); (refine Qq ?_; (refine Qv ?_; (refine QB (QL hr) ?_ ?_; (refine QG k_Shelf_kept ?_; exact Qa 0); exact Qa 1))))
theorem xq : Qx ["shelf", "pages", "lefts", "beneath", "many", "level"] ["shelf"] (Qk Xw) := ⟨rfl, rfl, rfl, by decide +kernel, rfl, by decide +kernel, by decide +kernel⟩
theorem VQ (F : Fun K "_law_sound" "_law_sound" Xw g fd) (hm : mg "_law_sound" = some (.ref g)) (h_Shelf_room : ZP P w K mg base "Shelf" "room" 1 1 Zz) (h_law_level : Has P w K mg base "_law_level" 2 5 Yo) (h_Shelf_root : ZP P w K mg base "Shelf" "root" 1 1 Zx) (h_Shelf_pages : ZP P w K mg base "Shelf" "pages" 1 1 Z8) (h_Shelf_read : ZP P w K mg base "Shelf" "read" 2 2 ZC) (z_len : mg "len" = none) (z_range : mg "range" = none) : Has P w K mg base "_law_sound" 3 1 J3 :=
  Z1 F xq hm (fun _ _ _ _ _ _ us hl => match us, hl with | [_], _ => rfl) fun cdv A outer s H E hr => by
    have Sc := xq
    refine Qg ?_ ?_; (refine Ve 1 Sc.nd (caps := ["shelf"]) (idx := [0]) ⟨by with_unfolding_all rfl, by decide +kernel, rfl, by decide +kernel, rfl, (by exact ⟨rfl, trivial⟩), by with_unfolding_all rfl, (by exact ⟨rfl, .inl rfl, ⟨_, rfl⟩, (fun h => NameKind.noConfusion (Option.some.inj (show some NameKind.cell = some NameKind.local from h))), trivial⟩), by decide⟩ rfl ?_ ?_ ?_; (refine ur ?_; (refine X1 rfl z_range ?_; (refine Qd ?_ ?_; (refine JI h_Shelf_pages hr (by decide) QA ?_; exact Qa 0); exact Qn))); (exact fun _ _ _ _ => by exact ub); (exact fun _ _ _ _ => by refine ZI h_Shelf_read hr (by decide) QA ?_ ?_; exact Qa 1; (refine Qd ?_ ?_; exact Qa 0; exact Qn))); (refine Qg ?_ ?_; (refine QD 2 Sc.nd ?_; (refine yK ?_; (refine Qd ?_ ?_; (refine JI h_Shelf_root hr (by decide) QA ?_; exact Qa 0); exact Qn))); (refine Qg ?_ ?_; (refine Gg 100000 PassesOwn.never ?_ ?_; (refine DW.pt ?_; (refine qY ?_ ?_; (refine QM Gm ?_ ?_ (QI _); (refine QB (QL hr) ?_ ?_; (refine QB (QL hr) ?_ ?_; exact Qa 1; (refine QB (QL hr) ?_ ?_; exact Qa 2; (refine vk ?_; exact Qp))); exact Qp); exact Qp); (refine qT ?_; (refine QM km ?_ ?_ (QI _); (refine Z2 Xg z_len PySem.boot_len ?_; (refine Qd ?_ ?_; exact Qa 2; exact Qn)); (refine Z2 Xg z_len PySem.boot_len ?_; (refine Qd ?_ ?_; exact Qa 1; exact Qn)))))); (refine Qq ?_; (refine J8 ?_; (refine yN yY PySem.F.plainAttrs_list PySem.F.slot_list_append PySem.F.type_list_append ?_ ?_; exact Qa 2; (refine Qd ?_ ?_; (refine QB (QL hr) ?_ ?_; (refine QB (QL hr) ?_ ?_; (refine QB (QL hr) ?_ ?_; exact Qa 1; (refine QB (QL hr) ?_ ?_; exact Qa 2; (refine vk ?_; exact Qp))); exact Qp); exact Qp); exact Qn))))); (refine Qg ?_ ?_; (refine ZN ?_ ?_ ?_; (refine QM (xf hr.units) ?_ ?_ (QI _); (refine Z2 Xg z_len PySem.boot_len ?_; (refine Qd ?_ ?_; exact Qa 2; exact Qn)); (refine Qy Jf ?_ ?_; (refine QB (QL hr) ?_ ?_; (refine QB (QL hr) ?_ ?_; exact Qa 1; (refine QB (QL hr) ?_ ?_; exact Qa 2; exact Qp)); exact Qp); exact Qp)); (refine Qq ?_; (refine Qv ?_; exact Yl)); exact QR); (refine Qg ?_ ?_; (refine QD 3 Sc.nd ?_; exact j1); (refine Qg ?_ ?_; (refine QD 4 Sc.nd ?_; exact Qp); (refine Qg ?_ ?_; (refine yW PassesOwn.never rfl ?_ ?_ ?_; (refine X1 rfl z_range ?_; (refine Qd ?_ ?_; (refine Z2 Xg z_len PySem.boot_len ?_; (refine Qd ?_ ?_; exact Qa 2; exact Qn)); exact Qn)); exact za 5 Sc.nd; (refine Qg ?_ ?_; (refine QD 3 Sc.nd ?_; (refine QE h_law_level hr (by decide) QA ?_; (refine Qd ?_ ?_; exact Qa 1; (refine Qd ?_ ?_; (refine JI h_Shelf_room hr (by decide) QA ?_; exact Qa 0); (refine Qd ?_ ?_; exact Qa 5; (refine Qd ?_ ?_; (refine QB (QL hr) ?_ ?_; exact Qa 2; (refine Qy jb ?_ ?_; (refine Qy jb ?_ ?_; (refine Z2 Xg z_len PySem.boot_len ?_; (refine Qd ?_ ?_; exact Qa 2; exact Qn)); exact Qp); exact Qa 5)); (refine Qd ?_ ?_; exact Qa 3; exact Qn))))))); (refine Qg ?_ ?_; (refine ZN ?_ ?_ ?_; (refine QM KR ?_ ?_ (QI _); exact Qa 3; exact Zy); (refine Qq ?_; (refine Qv ?_; exact Yl)); exact QR); (refine Qq ?_; (refine QD 4 Sc.nd ?_; (refine Qy Jf ?_ ?_; exact Qa 4; (refine Z2 Xg z_len PySem.boot_len ?_; (refine Qd ?_ ?_; exact Qa 3; exact Qn)))))))); (refine Qq ?_; (refine Qv ?_; (refine zM (y1 hr.units) ?_ ?_ (QI _); exact Qa 4; (refine Z2 Xg z_len PySem.boot_len ?_; (refine Qd ?_ ?_; exact Qa 1; exact Qn)))))))))))
theorem YN : Qx ["self", "number", "leaf", "low", "high", "pairs"] ["self", "number", "leaf"] (Qk ZX) := ⟨rfl, rfl, rfl, by decide +kernel, rfl, by decide +kernel, by decide +kernel⟩
theorem zY {C : Addr} (F : Fun K "read_pairs" "Walk.read_pairs" ZX g fd) (nc : ClsN K "Walk" C) (cl : Cls K C) (me : Ym K C "read_pairs" g) (z_tuple : mg "tuple" = none) (z_zip : mg "zip" = none) {t_SIDE : Tok} (g_SIDE : mg "SIDE" = some (.int 4 t_SIDE)) {t_HIGH : Tok} (g_HIGH : mg "HIGH" = some (.int 3 t_HIGH)) {t_KEYS : Tok} (g_KEYS : mg "KEYS" = some (.int 1 t_KEYS)) {t_PARTS : Tok} (g_PARTS : mg "PARTS" = some (.int 2 t_PARTS)) (k_Walk_aim : QZ K "Walk" "aim") (k_Walk_place : QZ K "Walk" "place") (k_Walk_ended : QZ K "Walk" "ended") (k_Walk_pairs : QZ K "Walk" "pairs") (k_Walk_deed : QZ K "Walk" "deed") : ZP P w K mg base "Walk" "read_pairs" 1 3 JX :=
  Zt nc cl me F YN (fun _ _ _ _ _ _ us hl => match us, hl with | [_, _, _], _ => rfl) fun cdv A outer s H E hr => by
    have Sc := YN
    refine Qg ?_ ?_; (refine QD 3 Sc.nd ?_; (refine QB (QL hr) ?_ ?_; (refine QG k_Walk_deed ?_; exact Qa 0); exact Qp)); (refine Qg ?_ ?_; (refine QD 4 Sc.nd ?_; (refine QB (QL hr) ?_ ?_; (refine QG k_Walk_deed ?_; exact Qa 0); exact Qp)); (refine Qg ?_ ?_; (refine Ve 5 Sc.nd (caps := ["low", "high"]) (idx := [3, 4]) ⟨by with_unfolding_all rfl, by decide +kernel, rfl, by decide +kernel, rfl, (by exact ⟨rfl, ⟨rfl, trivial⟩⟩), by with_unfolding_all rfl, (by exact ⟨rfl, .inl rfl, ⟨_, rfl⟩, (fun h => NameKind.noConfusion (Option.some.inj (show some NameKind.cell = some NameKind.local from h))), ⟨rfl, .inl rfl, ⟨_, rfl⟩, (fun h => NameKind.noConfusion (Option.some.inj (show some NameKind.cell = some NameKind.local from h))), trivial⟩⟩), by decide⟩ rfl ?_ ?_ ?_; (refine ur ?_; (refine QbI (by rfl) (by exact z_zip) ?_ ?_; (refine QB (QL hr) ?_ ?_; exact Qa 2; exact Q5 rfl g_KEYS); (refine QB (QL hr) ?_ ?_; exact Qa 2; exact Q5 rfl g_PARTS))); (exact fun _ _ _ _ => by refine yL ?_; (refine y9 km VY ?_ ?_ ?_; exact Qa 1; (refine QB (QL hr) ?_ ?_; exact Qa 0; exact Qp); exact Qa 2)); (exact fun _ _ _ _ => by exact Qa 0)); (refine Qg ?_ ?_; (refine J8 ?_; (refine yN kG PySem.F.plainAttrs_list PySem.F.slot_list_extend PySem.F.type_list_extend ?_ ?_; (refine QG k_Walk_pairs ?_; exact Qa 0); (refine Qd ?_ ?_; exact Qa 5; exact Qn))); (refine Qg ?_ ?_; (refine ZN ?_ ?_ ?_; (refine DW.pt ?_; (refine VD ?_ ?_; (refine QM KR ?_ ?_ (QI _); (refine QB (QL hr) ?_ ?_; exact Qa 2; exact Q5 rfl g_HIGH); exact Zy); (refine xP ?_; (refine QM QbN ?_ ?_ (QI _); (refine QB (QL hr) ?_ ?_; exact Qa 2; exact Q5 rfl g_HIGH); exact Qa 4)))); (refine Qg ?_ ?_; (refine Zs k_Walk_ended ?_ ?_; exact Qa 0; exact Yl); (refine Qq ?_; (refine Qv ?_; (refine ZT ?_; (refine Qd ?_ ?_; exact J1; (refine Qd ?_ ?_; exact Qa 1; (refine Qd ?_ ?_; (refine GC GN z_tuple boot_tuple ?_; (refine Qd ?_ ?_; exact Qa 5; exact Qn)); (refine Qd ?_ ?_; exact Zy; (refine Qd ?_ ?_; exact Zy; exact Qn))))))))); exact QR); (refine Qg ?_ ?_; (refine Zs k_Walk_aim ?_ ?_; exact Qa 0; (refine QB (QL hr) ?_ ?_; exact Qa 2; exact Q5 rfl g_HIGH)); (refine Qg ?_ ?_; (refine Zs k_Walk_place ?_ ?_; exact Qa 0; (refine QB (QL hr) ?_ ?_; exact Qa 2; exact Q5 rfl g_SIDE)); (refine Qq ?_; (refine Qv ?_; (refine ZT ?_; (refine Qd ?_ ?_; exact J1; (refine Qd ?_ ?_; exact Qa 1; (refine Qd ?_ ?_; (refine GC GN z_tuple boot_tuple ?_; (refine Qd ?_ ?_; exact Qa 5; exact Qn)); (refine Qd ?_ ?_; (refine QG k_Walk_place ?_; exact Qa 0); (refine Qd ?_ ?_; (refine QG k_Walk_aim ?_; exact Qa 0); exact Qn))))))))))))))
theorem zp : Qx ["self", "number", "page"] ["self", "number", "page"] (Qk JN) := ⟨rfl, rfl, rfl, by decide +kernel, rfl, by decide +kernel, by decide +kernel⟩
theorem yu {C : Addr} (F : Fun K "write" "Shelf.write" JN g fd) (nc : ClsN K "Shelf" C) (cl : Cls K C) (me : Ym K C "write" g) (h_Shelf_check_number : ZP P w K mg base "Shelf" "check_number" 1 2 QX) (k_Shelf_kept : QZ K "Shelf" "kept") (k_Shelf_write_count : QZ K "Shelf" "write_count") : ZP P w K mg base "Shelf" "write" 2 3 Z6 :=
  Zt nc cl me F zp (fun _ _ _ _ _ _ us hl => match us, hl with | [_, _, _], _ => rfl) fun cdv A outer s H E hr => by
    have Sc := zp
    refine Qg ?_ ?_; (refine J8 ?_; (refine ZI h_Shelf_check_number hr (by decide) QA ?_ ?_; exact Qa 0; (refine Qd ?_ ?_; exact Qa 1; exact Qn))); (refine Qg ?_ ?_; (refine xI k_Shelf_write_count ?_ ?_; exact Qa 0; exact Qp); (refine Qq ?_; (refine Vv ?_ ?_; exact Qa 2; (refine Vl (QL hr) ?_ ?_; (refine QG k_Shelf_kept ?_; exact Qa 0); exact Qa 1))))
theorem x3 : Qx ["page", "keys", "parts"] ["page", "keys", "parts"] (Qk X0) := ⟨rfl, rfl, rfl, by decide +kernel, rfl, by decide +kernel, by decide +kernel⟩
theorem UE (F : Fun K "refilled" "refilled" X0 g fd) (hm : mg "refilled" = some (.ref g)) {t_SIDE : Tok} (g_SIDE : mg "SIDE" = some (.int 4 t_SIDE)) {t_HIGH : Tok} (g_HIGH : mg "HIGH" = some (.int 3 t_HIGH)) {t_LEVEL : Tok} (g_LEVEL : mg "LEVEL" = some (.int 0 t_LEVEL)) : Has P w K mg base "refilled" 1 3 X5 :=
  Z1 F x3 hm (fun _ _ _ _ _ _ us hl => match us, hl with | [_, _, _], _ => rfl) fun cdv A outer s H E hr => by
    have Sc := x3
    refine Qq ?_; (refine Qv ?_; (refine ZT ?_; (refine Qd ?_ ?_; (refine JZ ?_ ?_; exact Qa 0; exact Q5 rfl g_LEVEL); (refine Qd ?_ ?_; exact Qa 1; (refine Qd ?_ ?_; exact Qa 2; (refine Qd ?_ ?_; (refine JZ ?_ ?_; exact Qa 0; exact Q5 rfl g_HIGH); (refine Qd ?_ ?_; (refine JZ ?_ ?_; exact Qa 0; exact Q5 rfl g_SIDE); exact Qn)))))))
theorem YT : Qx ["keys", "key"] ["keys", "key"] (Qk ZW) := ⟨rfl, rfl, rfl, by decide +kernel, rfl, by decide +kernel, by decide +kernel⟩
theorem zX (F : Fun K "count_not_above" "count_not_above" ZW g fd) (hm : mg "count_not_above" = some (.ref g)) (z_len : mg "len" = none) : Has P w K mg base "count_not_above" 1 2 QW :=
  Z1 F YT hm (fun _ _ _ _ _ _ us hl => match us, hl with | [_, _], _ => rfl) fun cdv A outer s H E hr => by
    have Sc := YT
    refine Qq ?_; (refine Qv ?_; (refine Z2 Us z_len PySem.boot_len ?_; (refine Qd ?_ ?_; (refine uo (caps := ["key"]) (idx := [1]) ⟨by with_unfolding_all rfl, by decide +kernel, rfl, by decide +kernel, rfl, (by exact ⟨rfl, trivial⟩), by with_unfolding_all rfl, (by exact ⟨rfl, .inl rfl, ⟨_, rfl⟩, (fun h => NameKind.noConfusion (Option.some.inj (show some NameKind.cell = some NameKind.local from h))), trivial⟩), by decide⟩ rfl ?_ ?_ ?_; (refine Qar ?_; exact Qa 0); (exact fun _ _ _ _ => by refine yL ?_; (refine QM km ?_ ?_ (QI _); exact Qa 0; exact Qa 1)); (exact fun _ _ _ _ => by exact Qa 0)); exact Qn)))
theorem zt : Qx ["keys", "key"] ["keys", "key"] (Qk JO) := ⟨rfl, rfl, rfl, by decide +kernel, rfl, by decide +kernel, by decide +kernel⟩
theorem yz (F : Fun K "count_below" "count_below" JO g fd) (hm : mg "count_below" = some (.ref g)) (z_len : mg "len" = none) : Has P w K mg base "count_below" 1 2 JQ :=
  Z1 F zt hm (fun _ _ _ _ _ _ us hl => match us, hl with | [_, _], _ => rfl) fun cdv A outer s H E hr => by
    have Sc := zt
    refine Qq ?_; (refine Qv ?_; (refine Z2 Us z_len PySem.boot_len ?_; (refine Qd ?_ ?_; (refine uo (caps := ["key"]) (idx := [1]) ⟨by with_unfolding_all rfl, by decide +kernel, rfl, by decide +kernel, rfl, (by exact ⟨rfl, trivial⟩), by with_unfolding_all rfl, (by exact ⟨rfl, .inl rfl, ⟨_, rfl⟩, (fun h => NameKind.noConfusion (Option.some.inj (show some NameKind.cell = some NameKind.local from h))), trivial⟩), by decide⟩ rfl ?_ ?_ ?_; (refine Qar ?_; exact Qa 0); (exact fun _ _ _ _ => by refine yL ?_; (refine QM VY ?_ ?_ (QI _); exact Qa 0; exact Qa 1)); (exact fun _ _ _ _ => by exact Qa 0)); exact Qn)))
theorem ye : Qx ["page", "key", "new_keys", "new_worths", "keys", "worths", "start", "stop"] ["page", "key", "new_keys", "new_worths"] (Qk X3) := ⟨rfl, rfl, rfl, by decide +kernel, rfl, by decide +kernel, by decide +kernel⟩
theorem UK (F : Fun K "with_run" "with_run" X3 g fd) (hm : mg "with_run" = some (.ref g)) (h_refilled : Has P w K mg base "refilled" 1 3 X5) (h_count_not_above : Has P w K mg base "count_not_above" 1 2 QW) (h_count_below : Has P w K mg base "count_below" 1 2 JQ) {t_PARTS : Tok} (g_PARTS : mg "PARTS" = some (.int 2 t_PARTS)) {t_KEYS : Tok} (g_KEYS : mg "KEYS" = some (.int 1 t_KEYS)) : Has P w K mg base "with_run" 2 4 X9 :=
  Z1 F ye hm (fun _ _ _ _ _ _ us hl => match us, hl with | [_, _, _, _], _ => rfl) fun cdv A outer s H E hr => by
    have Sc := ye
    refine Qg ?_ ?_; (refine QD 4 Sc.nd ?_; (refine JZ ?_ ?_; exact Qa 0; exact Q5 rfl g_KEYS)); (refine Qg ?_ ?_; (refine QD 5 Sc.nd ?_; (refine JZ ?_ ?_; exact Qa 0; exact Q5 rfl g_PARTS)); (refine Qg ?_ ?_; (refine QD 6 Sc.nd ?_; (refine QE h_count_below hr (by decide) QA ?_; (refine Qd ?_ ?_; exact Qa 4; (refine Qd ?_ ?_; exact Qa 1; exact Qn)))); (refine Qg ?_ ?_; (refine QD 7 Sc.nd ?_; (refine QE h_count_not_above hr (by decide) QA ?_; (refine Qd ?_ ?_; exact Qa 4; (refine Qd ?_ ?_; exact Qa 1; exact Qn)))); (refine Qq ?_; (refine Qv ?_; (refine QE h_refilled hr (by decide) QA ?_; (refine Qd ?_ ?_; exact Qa 0; (refine Qd ?_ ?_; (refine Qy Jf ?_ ?_; (refine Qy Jf ?_ ?_; (refine qC ?_ ?_ ?_; exact Qa 4; exact Xd; (refine Xe ?_; exact Qa 6)); exact Qa 2); (refine qC ?_ ?_ ?_; exact Qa 4; (refine Xe ?_; exact Qa 7); exact Xd)); (refine Qd ?_ ?_; (refine Qy Jf ?_ ?_; (refine Qy Jf ?_ ?_; (refine qC ?_ ?_ ?_; exact Qa 5; exact Xd; (refine Xe ?_; exact Qa 6)); exact Qa 3); (refine qC ?_ ?_ ?_; exact Qa 5; (refine Xe ?_; exact Qa 7); exact Xd)); exact Qn)))))))))
theorem Vo : Qx ["page", "key"] ["page", "key"] (Qk Yy) := ⟨rfl, rfl, rfl, by decide +kernel, rfl, by decide +kernel, by decide +kernel⟩
theorem GK (F : Fun K "without" "without" Yy g fd) (hm : mg "without" = some (.ref g)) (h_with_run : Has P w K mg base "with_run" 2 4 X9) : Has P w K mg base "without" 3 2 zQ :=
  Z1 F Vo hm (fun _ _ _ _ _ _ us hl => match us, hl with | [_, _], _ => rfl) fun cdv A outer s H E hr => by
    have Sc := Vo
    refine Qq ?_; (refine Qv ?_; (refine QE h_with_run hr (by decide) QA ?_; (refine Qd ?_ ?_; exact Qa 0; (refine Qd ?_ ?_; exact Qa 1; (refine Qd ?_ ?_; (refine ZT ?_; exact Qn); (refine Qd ?_ ?_; (refine ZT ?_; exact Qn); exact Qn))))))
theorem yb : Qx ["page", "key", "keys", "place"] ["page", "key"] (Qk XX) := ⟨rfl, rfl, rfl, by decide +kernel, rfl, by decide +kernel, by decide +kernel⟩
theorem Ko (F : Fun K "worth_of" "worth_of" XX g fd) (hm : mg "worth_of" = some (.ref g)) (h_count_not_above : Has P w K mg base "count_not_above" 1 2 QW) (h_count_below : Has P w K mg base "count_below" 1 2 JQ) {t_PARTS : Tok} (g_PARTS : mg "PARTS" = some (.int 2 t_PARTS)) {t_KEYS : Tok} (g_KEYS : mg "KEYS" = some (.int 1 t_KEYS)) : Has P w K mg base "worth_of" 2 2 Js :=
  Z1 F yb hm (fun _ _ _ _ _ _ us hl => match us, hl with | [_, _], _ => rfl) fun cdv A outer s H E hr => by
    have Sc := yb
    refine Qg ?_ ?_; (refine QD 2 Sc.nd ?_; (refine JZ ?_ ?_; exact Qa 0; exact Q5 rfl g_KEYS)); (refine Qg ?_ ?_; (refine QD 3 Sc.nd ?_; (refine QE h_count_below hr (by decide) QA ?_; (refine Qd ?_ ?_; exact Qa 2; (refine Qd ?_ ?_; exact Qa 1; exact Qn)))); (refine Qg ?_ ?_; (refine ZN ?_ ?_ ?_; (refine QM (Qcq hr.units) ?_ ?_ (QI _); exact Qa 3; (refine QE h_count_not_above hr (by decide) QA ?_; (refine Qd ?_ ?_; exact Qa 2; (refine Qd ?_ ?_; exact Qa 1; exact Qn)))); (refine Qq ?_; (refine Qv ?_; exact Zy)); exact QR); (refine Qq ?_; (refine Qv ?_; (refine JZ ?_ ?_; (refine JZ ?_ ?_; exact Qa 0; exact Q5 rfl g_PARTS); exact Qa 3)))))
theorem zi : Qx ["self", "number", "leaf"] ["self", "number", "leaf"] (Qk JB) := ⟨rfl, rfl, rfl, by decide +kernel, rfl, by decide +kernel, by decide +kernel⟩
theorem xy {C : Addr} (F : Fun K "cut_key" "Walk.cut_key" JB g fd) (nc : ClsN K "Walk" C) (cl : Cls K C) (me : Ym K C "cut_key" g) (h_Shelf_write : ZP P w K mg base "Shelf" "write" 2 3 Z6) (h_without : Has P w K mg base "without" 3 2 zQ) (h_worth_of : Has P w K mg base "worth_of" 2 2 Js) (k_Walk_worth : QZ K "Walk" "worth") (k_Walk_ended : QZ K "Walk" "ended") (k_Walk_shelf : QZ K "Walk" "shelf") (k_Walk_aim : QZ K "Walk" "aim") : ZP P w K mg base "Walk" "cut_key" 4 3 XL :=
  Zt nc cl me F zi (fun _ _ _ _ _ _ us hl => match us, hl with | [_, _, _], _ => rfl) fun cdv A outer s H E hr => by
    have Sc := zi
    refine Qg ?_ ?_; (refine Zs k_Walk_worth ?_ ?_; exact Qa 0; (refine QE h_worth_of hr (by decide) QA ?_; (refine Qd ?_ ?_; exact Qa 2; (refine Qd ?_ ?_; (refine QG k_Walk_aim ?_; exact Qa 0); exact Qn)))); (refine Qg ?_ ?_; (refine ZN ?_ ?_ ?_; (refine QM GJ ?_ ?_ (QI _); (refine QG k_Walk_worth ?_; exact Qa 0); exact Zy); (refine Qq ?_; (refine J8 ?_; (refine ZI h_Shelf_write hr (by decide) QA ?_ ?_; (refine QG k_Walk_shelf ?_; exact Qa 0); (refine Qd ?_ ?_; exact Qa 1; (refine Qd ?_ ?_; (refine QE h_without hr (by decide) QA ?_; (refine Qd ?_ ?_; exact Qa 2; (refine Qd ?_ ?_; (refine QG k_Walk_aim ?_; exact Qa 0); exact Qn))); exact Qn))))); exact QR); (refine Qg ?_ ?_; (refine Zs k_Walk_ended ?_ ?_; exact Qa 0; exact Yl); (refine Qq ?_; (refine Qv ?_; (refine ZT ?_; (refine Qd ?_ ?_; exact J1; (refine Qd ?_ ?_; exact Qa 1; (refine Qd ?_ ?_; (refine QG k_Walk_worth ?_; exact Qa 0); exact Qn))))))))
theorem xp : Qx ["self", "page"] ["self", "page"] (Qk XA) := ⟨rfl, rfl, rfl, by decide +kernel, rfl, by decide +kernel, by decide +kernel⟩
theorem V9 {C : Addr} (F : Fun K "lay" "Shelf.lay" XA g fd) (nc : ClsN K "Shelf" C) (cl : Cls K C) (me : Ym K C "lay" g) (z_len : mg "len" = none) (k_Shelf_kept : QZ K "Shelf" "kept") (k_Shelf_write_count : QZ K "Shelf" "write_count") : ZP P w K mg base "Shelf" "lay" 1 2 J2 :=
  Zt nc cl me F xp (fun _ _ _ _ _ _ us hl => match us, hl with | [_, _], _ => rfl) fun cdv A outer s H E hr => by
    have Sc := xp
    refine Qg ?_ ?_; (refine xI k_Shelf_write_count ?_ ?_; exact Qa 0; exact Qp); (refine Qg ?_ ?_; (refine J8 ?_; (refine yN yY PySem.F.plainAttrs_list PySem.F.slot_list_append PySem.F.type_list_append ?_ ?_; (refine QG k_Shelf_kept ?_; exact Qa 0); (refine Qd ?_ ?_; exact Qa 1; exact Qn))); (refine Qq ?_; (refine Qv ?_; (refine Qy jb ?_ ?_; (refine Z2 Xg z_len PySem.boot_len ?_; (refine Qd ?_ ?_; (refine QG k_Shelf_kept ?_; exact Qa 0); exact Qn)); exact Qp))))
theorem UB : Qx ["page", "number", "level", "keys", "parts", "middle", "key", "cut", "old", "new"] ["page", "number"] (Qk qK) := ⟨rfl, rfl, rfl, by decide +kernel, rfl, by decide +kernel, by decide +kernel⟩
theorem GZ (F : Fun K "parted" "parted" qK g fd) (hm : mg "parted" = some (.ref g)) (z_len : mg "len" = none) {t_SIDE : Tok} (g_SIDE : mg "SIDE" = some (.int 4 t_SIDE)) {t_HIGH : Tok} (g_HIGH : mg "HIGH" = some (.int 3 t_HIGH)) {t_PARTS : Tok} (g_PARTS : mg "PARTS" = some (.int 2 t_PARTS)) {t_KEYS : Tok} (g_KEYS : mg "KEYS" = some (.int 1 t_KEYS)) {t_LEVEL : Tok} (g_LEVEL : mg "LEVEL" = some (.int 0 t_LEVEL)) : Has P w K mg base "parted" 1 2 zJ :=
  Z1 F UB hm (fun _ _ _ _ _ _ us hl => match us, hl with | [_, _], _ => rfl) fun cdv A outer s H E hr => by
    have Sc := UB
    refine Qg ?_ ?_; (refine QD 2 Sc.nd ?_; (refine JZ ?_ ?_; exact Qa 0; exact Q5 rfl g_LEVEL)); (refine Qg ?_ ?_; (refine QD 3 Sc.nd ?_; (refine JZ ?_ ?_; exact Qa 0; exact Q5 rfl g_KEYS)); (refine Qg ?_ ?_; (refine QD 4 Sc.nd ?_; (refine JZ ?_ ?_; exact Qa 0; exact Q5 rfl g_PARTS)); (refine Qg ?_ ?_; (refine QD 5 Sc.nd ?_; (refine Qy QcC ?_ ?_; (refine Z2 Us z_len PySem.boot_len ?_; (refine Qd ?_ ?_; exact Qa 3; exact Qn)); exact Qp)); (refine Qg ?_ ?_; (refine QD 6 Sc.nd ?_; (refine JZ ?_ ?_; exact Qa 3; exact Qa 5)); (refine Qg ?_ ?_; (refine QD 7 Sc.nd ?_; (refine QcI ?_ ?_ ?_; (refine QM (Qcq hr.units) ?_ ?_ (QI _); exact Qa 2; exact Qp); exact Qa 5; (refine Qy Jf ?_ ?_; exact Qa 5; exact Qp))); (refine Qg ?_ ?_; (refine QD 8 Sc.nd ?_; (refine ZT ?_; (refine Qd ?_ ?_; exact Qa 2; (refine Qd ?_ ?_; (refine qC ?_ ?_ ?_; exact Qa 3; exact Xd; (refine Xe ?_; exact Qa 5)); (refine Qd ?_ ?_; (refine qC ?_ ?_ ?_; exact Qa 4; exact Xd; (refine Xe ?_; exact Qa 7)); (refine Qd ?_ ?_; exact Qa 6; (refine Qd ?_ ?_; exact Qa 1; exact Qn))))))); (refine Qg ?_ ?_; (refine QD 9 Sc.nd ?_; (refine ZT ?_; (refine Qd ?_ ?_; exact Qa 2; (refine Qd ?_ ?_; (refine qC ?_ ?_ ?_; exact Qa 3; (refine Xe ?_; exact Qa 7); exact Xd); (refine Qd ?_ ?_; (refine qC ?_ ?_ ?_; exact Qa 4; (refine Xe ?_; exact Qa 7); exact Xd); (refine Qd ?_ ?_; (refine JZ ?_ ?_; exact Qa 0; exact Q5 rfl g_HIGH); (refine Qd ?_ ?_; (refine JZ ?_ ?_; exact Qa 0; exact Q5 rfl g_SIDE); exact Qn))))))); (refine Qq ?_; (refine Qv ?_; (refine ZT ?_; (refine Qd ?_ ?_; exact Qa 8; (refine Qd ?_ ?_; exact Qa 9; (refine Qd ?_ ?_; exact Qa 6; exact Qn)))))))))))))
theorem Vi : Qx ["page", "room"] ["page", "room"] (Qk YC) := ⟨rfl, rfl, rfl, by decide +kernel, rfl, by decide +kernel, by decide +kernel⟩
theorem GB (F : Fun K "is_full" "is_full" YC g fd) (hm : mg "is_full" = some (.ref g)) (z_len : mg "len" = none) {t_KEYS : Tok} (g_KEYS : mg "KEYS" = some (.int 1 t_KEYS)) : Has P w K mg base "is_full" 1 2 XU :=
  Z1 F Vi hm (fun _ _ _ _ _ _ us hl => match us, hl with | [_, _], _ => rfl) fun cdv A outer s H E hr => by
    have Sc := Vi
    refine Qq ?_; (refine Qv ?_; (refine zM Gm ?_ ?_ (QI _); (refine Z2 Us z_len PySem.boot_len ?_; (refine Qd ?_ ?_; (refine JZ ?_ ?_; exact Qa 0; exact Q5 rfl g_KEYS); exact Qn)); exact Qa 1))
theorem zC : Qx ["self", "number", "page", "halves"] ["self", "number", "page"] (Qk JR) := ⟨rfl, rfl, rfl, by decide +kernel, rfl, by decide +kernel, by decide +kernel⟩
theorem yt {C : Addr} (F : Fun K "settle" "Walk.settle" JR g fd) (nc : ClsN K "Walk" C) (cl : Cls K C) (me : Ym K C "settle" g) (h_Shelf_write : ZP P w K mg base "Shelf" "write" 2 3 Z6) (h_Shelf_lay : ZP P w K mg base "Shelf" "lay" 1 2 J2) (h_Shelf_pages : ZP P w K mg base "Shelf" "pages" 1 1 Z8) (h_parted : Has P w K mg base "parted" 1 2 zJ) (h_Shelf_room : ZP P w K mg base "Shelf" "room" 1 1 Zz) (h_is_full : Has P w K mg base "is_full" 1 2 XU) {t_LEVEL : Tok} (g_LEVEL : mg "LEVEL" = some (.int 0 t_LEVEL)) (k_Walk_new_page : QZ K "Walk" "new_page") (k_Walk_place : QZ K "Walk" "place") (k_Walk_forks : QZ K "Walk" "forks") (k_Walk_goal : QZ K "Walk" "goal") (k_Walk_aim : QZ K "Walk" "aim") (k_Walk_shelf : QZ K "Walk" "shelf") (k_Walk_ended : QZ K "Walk" "ended") : ZP P w K mg base "Walk" "settle" 3 3 JL :=
  Zt nc cl me F zC (fun _ _ _ _ _ _ us hl => match us, hl with | [_, _, _], _ => rfl) fun cdv A outer s H E hr => by
    have Sc := zC
    refine Qg ?_ ?_; (refine ZN ?_ ?_ ?_; (refine jr ?_; (refine zG ?_; (refine QE h_is_full hr (by decide) QA ?_; (refine Qd ?_ ?_; exact Qa 2; (refine Qd ?_ ?_; (refine JI h_Shelf_room hr (by decide) QA ?_; (refine QG k_Walk_shelf ?_; exact Qa 0)); exact Qn))))); (refine Qg ?_ ?_; (refine J8 ?_; (refine ZI h_Shelf_write hr (by decide) QA ?_ ?_; (refine QG k_Walk_shelf ?_; exact Qa 0); (refine Qd ?_ ?_; exact Qa 1; (refine Qd ?_ ?_; exact Qa 2; exact Qn)))); (refine Qg ?_ ?_; (refine Zs k_Walk_ended ?_ ?_; exact Qa 0; exact Yl); (refine Qq ?_; (refine Qv ?_; exact Zy)))); exact QR); (refine Qg ?_ ?_; (refine QD 3 Sc.nd ?_; (refine QE h_parted hr (by decide) QA ?_; (refine Qd ?_ ?_; exact Qa 2; (refine Qd ?_ ?_; (refine JI h_Shelf_pages hr (by decide) QA ?_; (refine QG k_Walk_shelf ?_; exact Qa 0)); exact Qn)))); (refine Qg ?_ ?_; (refine Zs k_Walk_new_page ?_ ?_; exact Qa 0; (refine ZI h_Shelf_lay hr (by decide) QA ?_ ?_; (refine QG k_Walk_shelf ?_; exact Qa 0); (refine Qd ?_ ?_; (refine QB (QL hr) ?_ ?_; exact Qa 3; exact Qp); exact Qn))); (refine Qg ?_ ?_; (refine J8 ?_; (refine ZI h_Shelf_write hr (by decide) QA ?_ ?_; (refine QG k_Walk_shelf ?_; exact Qa 0); (refine Qd ?_ ?_; exact Qa 1; (refine Qd ?_ ?_; (refine QB (QL hr) ?_ ?_; exact Qa 3; exact Qp); exact Qn)))); (refine Qg ?_ ?_; (refine Zs k_Walk_aim ?_ ?_; exact Qa 0; (refine QB (QL hr) ?_ ?_; exact Qa 3; exact Qp)); (refine Qg ?_ ?_; (refine Zs k_Walk_goal ?_ ?_; exact Qa 0; (refine Qy Jf ?_ ?_; (refine QB (QL hr) ?_ ?_; exact Qa 2; exact Q5 rfl g_LEVEL); exact Qp)); (refine Qg ?_ ?_; (refine Zs k_Walk_place ?_ ?_; exact Qa 0; (refine yN (QdW (QL hr)) PySem.F.plainAttrs_dict PySem.F.slot_dict_get PySem.F.type_dict_get ?_ ?_; (refine QG k_Walk_forks ?_; exact Qa 0); (refine Qd ?_ ?_; (refine QG k_Walk_goal ?_; exact Qa 0); exact Qn))); (refine Qq ?_; (refine Qv ?_; (refine QG k_Walk_new_page ?_; exact Qa 0)))))))))
theorem j9 : Qx ["page", "key", "worth"] ["page", "key", "worth"] (Qk XB) := ⟨rfl, rfl, rfl, by decide +kernel, rfl, by decide +kernel, by decide +kernel⟩
theorem VZ (F : Fun K "with_pair" "with_pair" XB g fd) (hm : mg "with_pair" = some (.ref g)) (h_with_run : Has P w K mg base "with_run" 2 4 X9) : Has P w K mg base "with_pair" 3 3 Y8 :=
  Z1 F j9 hm (fun _ _ _ _ _ _ us hl => match us, hl with | [_, _, _], _ => rfl) fun cdv A outer s H E hr => by
    have Sc := j9
    refine Qq ?_; (refine Qv ?_; (refine QE h_with_run hr (by decide) QA ?_; (refine Qd ?_ ?_; exact Qa 0; (refine Qd ?_ ?_; exact Qa 1; (refine Qd ?_ ?_; (refine ZT ?_; (refine Qd ?_ ?_; exact Qa 1; exact Qn)); (refine Qd ?_ ?_; (refine ZT ?_; (refine Qd ?_ ?_; exact Qa 2; exact Qn)); exact Qn))))))
theorem qA : Qx ["self", "number", "leaf", "new_page"] ["self", "number", "leaf"] (Qk Jk) := ⟨rfl, rfl, rfl, by decide +kernel, rfl, by decide +kernel, by decide +kernel⟩
theorem xl {C : Addr} (F : Fun K "put_pair" "Walk.put_pair" Jk g fd) (nc : ClsN K "Walk" C) (cl : Cls K C) (me : Ym K C "put_pair" g) (h_Walk_settle : ZP P w K mg base "Walk" "settle" 3 3 JL) (h_with_pair : Has P w K mg base "with_pair" 3 3 Y8) (h_worth_of : Has P w K mg base "worth_of" 2 2 Js) (k_Walk_worth : QZ K "Walk" "worth") (k_Walk_deed : QZ K "Walk" "deed") (k_Walk_aim : QZ K "Walk" "aim") : ZP P w K mg base "Walk" "put_pair" 4 3 Xr :=
  Zt nc cl me F qA (fun _ _ _ _ _ _ us hl => match us, hl with | [_, _, _], _ => rfl) fun cdv A outer s H E hr => by
    have Sc := qA
    refine Qg ?_ ?_; (refine Zs k_Walk_worth ?_ ?_; exact Qa 0; (refine QE h_worth_of hr (by decide) QA ?_; (refine Qd ?_ ?_; exact Qa 2; (refine Qd ?_ ?_; (refine QG k_Walk_aim ?_; exact Qa 0); exact Qn)))); (refine Qg ?_ ?_; (refine QD 3 Sc.nd ?_; (refine ZI h_Walk_settle hr (by decide) QA ?_ ?_; exact Qa 0; (refine Qd ?_ ?_; exact Qa 1; (refine Qd ?_ ?_; (refine QE h_with_pair hr (by decide) QA ?_; (refine Qd ?_ ?_; exact Qa 2; (refine Qd ?_ ?_; (refine QG k_Walk_aim ?_; exact Qa 0); (refine Qd ?_ ?_; (refine QB (QL hr) ?_ ?_; (refine QG k_Walk_deed ?_; exact Qa 0); exact Qp); exact Qn)))); exact Qn)))); (refine Qq ?_; (refine Qv ?_; (refine ZT ?_; (refine Qd ?_ ?_; exact J1; (refine Qd ?_ ?_; exact Qa 1; (refine Qd ?_ ?_; (refine QG k_Walk_worth ?_; exact Qa 0); (refine Qd ?_ ?_; exact Qa 3; exact Qn))))))))
theorem YO : Qx ["self", "number", "leaf"] ["self", "number", "leaf"] (Qk ZV) := ⟨rfl, rfl, rfl, by decide +kernel, rfl, by decide +kernel, by decide +kernel⟩
theorem z9 {C : Addr} (F : Fun K "find_worth" "Walk.find_worth" ZV g fd) (nc : ClsN K "Walk" C) (cl : Cls K C) (me : Ym K C "find_worth" g) (h_worth_of : Has P w K mg base "worth_of" 2 2 Js) (k_Walk_worth : QZ K "Walk" "worth") (k_Walk_ended : QZ K "Walk" "ended") (k_Walk_aim : QZ K "Walk" "aim") : ZP P w K mg base "Walk" "find_worth" 3 3 J0 :=
  Zt nc cl me F YO (fun _ _ _ _ _ _ us hl => match us, hl with | [_, _, _], _ => rfl) fun cdv A outer s H E hr => by
    have Sc := YO
    refine Qg ?_ ?_; (refine Zs k_Walk_worth ?_ ?_; exact Qa 0; (refine QE h_worth_of hr (by decide) QA ?_; (refine Qd ?_ ?_; exact Qa 2; (refine Qd ?_ ?_; (refine QG k_Walk_aim ?_; exact Qa 0); exact Qn)))); (refine Qg ?_ ?_; (refine Zs k_Walk_ended ?_ ?_; exact Qa 0; exact Yl); (refine Qq ?_; (refine Qv ?_; (refine ZT ?_; (refine Qd ?_ ?_; exact J1; (refine Qd ?_ ?_; exact Qa 1; (refine Qd ?_ ?_; (refine QG k_Walk_worth ?_; exact Qa 0); exact Qn)))))))
theorem zj : Qx ["self", "number", "leaf", "word"] ["self", "number", "leaf"] (Qk JC) := ⟨rfl, rfl, rfl, by decide +kernel, rfl, by decide +kernel, by decide +kernel⟩
theorem xO {C : Addr} (F : Fun K "do_deed" "Walk.do_deed" JC g fd) (nc : ClsN K "Walk" C) (cl : Cls K C) (me : Ym K C "do_deed" g) (h_Walk_read_pairs : ZP P w K mg base "Walk" "read_pairs" 1 3 JX) (h_Walk_cut_key : ZP P w K mg base "Walk" "cut_key" 4 3 XL) (h_Walk_put_pair : ZP P w K mg base "Walk" "put_pair" 4 3 Xr) (h_Walk_find_worth : ZP P w K mg base "Walk" "find_worth" 3 3 J0) (k_Walk_deed : QZ K "Walk" "deed") : ZP P w K mg base "Walk" "do_deed" 5 3 XQ :=
  Zt nc cl me F zj (fun _ _ _ _ _ _ us hl => match us, hl with | [_, _, _], _ => rfl) fun cdv A outer s H E hr => by
    have Sc := zj
    refine Qg ?_ ?_; (refine QD 3 Sc.nd ?_; (refine QB (QL hr) ?_ ?_; (refine QG k_Walk_deed ?_; exact Qa 0); exact Qp)); (refine Qg ?_ ?_; (refine ZN ?_ ?_ ?_; (refine QM (y1 hr.units) ?_ ?_ (QI _); exact Qa 3; exact J1); (refine Qq ?_; (refine Qv ?_; (refine ZI h_Walk_find_worth hr (by decide) QA ?_ ?_; exact Qa 0; (refine Qd ?_ ?_; exact Qa 1; (refine Qd ?_ ?_; exact Qa 2; exact Qn))))); exact QR); (refine Qg ?_ ?_; (refine ZN ?_ ?_ ?_; (refine QM (y1 hr.units) ?_ ?_ (QI _); exact Qa 3; exact J1); (refine Qq ?_; (refine Qv ?_; (refine ZI h_Walk_put_pair hr (by decide) QA ?_ ?_; exact Qa 0; (refine Qd ?_ ?_; exact Qa 1; (refine Qd ?_ ?_; exact Qa 2; exact Qn))))); exact QR); (refine Qg ?_ ?_; (refine ZN ?_ ?_ ?_; (refine QM (y1 hr.units) ?_ ?_ (QI _); exact Qa 3; exact J1); (refine Qq ?_; (refine Qv ?_; (refine ZI h_Walk_cut_key hr (by decide) QA ?_ ?_; exact Qa 0; (refine Qd ?_ ?_; exact Qa 1; (refine Qd ?_ ?_; exact Qa 2; exact Qn))))); exact QR); (refine Qq ?_; (refine Qv ?_; (refine ZI h_Walk_read_pairs hr (by decide) QA ?_ ?_; exact Qa 0; (refine Qd ?_ ?_; exact Qa 1; (refine Qd ?_ ?_; exact Qa 2; exact Qn))))))))
theorem xV : Qx ["page", "key", "kid", "keys", "kids", "place", "behind"] ["page", "key", "kid"] (Qk XV) := ⟨rfl, rfl, rfl, by decide +kernel, rfl, by decide +kernel, by decide +kernel⟩
theorem Kt (F : Fun K "with_kid" "with_kid" XV g fd) (hm : mg "with_kid" = some (.ref g)) (h_refilled : Has P w K mg base "refilled" 1 3 X5) (h_count_not_above : Has P w K mg base "count_not_above" 1 2 QW) {t_PARTS : Tok} (g_PARTS : mg "PARTS" = some (.int 2 t_PARTS)) {t_KEYS : Tok} (g_KEYS : mg "KEYS" = some (.int 1 t_KEYS)) : Has P w K mg base "with_kid" 2 3 YL :=
  Z1 F xV hm (fun _ _ _ _ _ _ us hl => match us, hl with | [_, _, _], _ => rfl) fun cdv A outer s H E hr => by
    have Sc := xV
    refine Qg ?_ ?_; (refine QD 3 Sc.nd ?_; (refine JZ ?_ ?_; exact Qa 0; exact Q5 rfl g_KEYS)); (refine Qg ?_ ?_; (refine QD 4 Sc.nd ?_; (refine JZ ?_ ?_; exact Qa 0; exact Q5 rfl g_PARTS)); (refine Qg ?_ ?_; (refine QD 5 Sc.nd ?_; (refine QE h_count_not_above hr (by decide) QA ?_; (refine Qd ?_ ?_; exact Qa 3; (refine Qd ?_ ?_; exact Qa 1; exact Qn)))); (refine Qg ?_ ?_; (refine QD 6 Sc.nd ?_; (refine Qy Jf ?_ ?_; exact Qa 5; exact Qp)); (refine Qq ?_; (refine Qv ?_; (refine QE h_refilled hr (by decide) QA ?_; (refine Qd ?_ ?_; exact Qa 0; (refine Qd ?_ ?_; (refine Qy Jf ?_ ?_; (refine Qy Jf ?_ ?_; (refine qC ?_ ?_ ?_; exact Qa 3; exact Xd; (refine Xe ?_; exact Qa 5)); (refine ZT ?_; (refine Qd ?_ ?_; exact Qa 1; exact Qn))); (refine qC ?_ ?_ ?_; exact Qa 3; (refine Xe ?_; exact Qa 5); exact Xd)); (refine Qd ?_ ?_; (refine Qy Jf ?_ ?_; (refine Qy Jf ?_ ?_; (refine qC ?_ ?_ ?_; exact Qa 4; exact Xd; (refine Xe ?_; exact Qa 6)); (refine ZT ?_; (refine Qd ?_ ?_; exact Qa 2; exact Qn))); (refine qC ?_ ?_ ?_; exact Qa 4; (refine Xe ?_; exact Qa 6); exact Xd)); exact Qn)))))))))
theorem Y1 : Qx ["self", "number", "fork", "new_page"] ["self", "number", "fork"] (Qk Z9) := ⟨rfl, rfl, rfl, by decide +kernel, rfl, by decide +kernel, by decide +kernel⟩
theorem jq {C : Addr} (F : Fun K "tell_fork" "Walk.tell_fork" Z9 g fd) (nc : ClsN K "Walk" C) (cl : Cls K C) (me : Ym K C "tell_fork" g) (h_Walk_settle : ZP P w K mg base "Walk" "settle" 3 3 JL) (h_with_kid : Has P w K mg base "with_kid" 2 3 YL) (k_Walk_new_page : QZ K "Walk" "new_page") (k_Walk_aim : QZ K "Walk" "aim") : ZP P w K mg base "Walk" "tell_fork" 4 3 J7 :=
  Zt nc cl me F Y1 (fun _ _ _ _ _ _ us hl => match us, hl with | [_, _, _], _ => rfl) fun cdv A outer s H E hr => by
    have Sc := Y1
    refine Qg ?_ ?_; (refine QD 3 Sc.nd ?_; (refine ZI h_Walk_settle hr (by decide) QA ?_ ?_; exact Qa 0; (refine Qd ?_ ?_; exact Qa 1; (refine Qd ?_ ?_; (refine QE h_with_kid hr (by decide) QA ?_; (refine Qd ?_ ?_; exact Qa 2; (refine Qd ?_ ?_; (refine QG k_Walk_aim ?_; exact Qa 0); (refine Qd ?_ ?_; (refine QG k_Walk_new_page ?_; exact Qa 0); exact Qn)))); exact Qn)))); (refine Qq ?_; (refine Qv ?_; (refine ZT ?_; (refine Qd ?_ ?_; exact J1; (refine Qd ?_ ?_; exact Qa 1; (refine Qd ?_ ?_; exact Qa 3; exact Qn))))))
theorem je : Qx ["self", "word", "number", "to"] ["self", "word", "number", "to"] (Qk Xa) := ⟨rfl, rfl, rfl, by decide +kernel, rfl, by decide +kernel, by decide +kernel⟩
theorem VE {C : Addr} (F : Fun K "go_on" "Walk.go_on" Xa g fd) (nc : ClsN K "Walk" C) (cl : Cls K C) (me : Ym K C "go_on" g) (k_Walk_place : QZ K "Walk" "place") : ZP P w K mg base "Walk" "go_on" 1 4 JD :=
  Zt nc cl me F je (fun _ _ _ _ _ _ us hl => match us, hl with | [_, _, _, _], _ => rfl) fun cdv A outer s H E hr => by
    have Sc := je
    refine Qg ?_ ?_; (refine Zs k_Walk_place ?_ ?_; exact Qa 0; exact Qa 3); (refine Qq ?_; (refine Qv ?_; (refine ZT ?_; (refine Qd ?_ ?_; exact Qa 1; (refine Qd ?_ ?_; exact Qa 2; (refine Qd ?_ ?_; exact Qa 3; exact Qn))))))
theorem Vz : Qx ["page", "key"] ["page", "key"] (Qk YB) := ⟨rfl, rfl, rfl, by decide +kernel, rfl, by decide +kernel, by decide +kernel⟩
theorem Gu (F : Fun K "kid_for" "kid_for" YB g fd) (hm : mg "kid_for" = some (.ref g)) (h_count_not_above : Has P w K mg base "count_not_above" 1 2 QW) {t_PARTS : Tok} (g_PARTS : mg "PARTS" = some (.int 2 t_PARTS)) {t_KEYS : Tok} (g_KEYS : mg "KEYS" = some (.int 1 t_KEYS)) : Has P w K mg base "kid_for" 2 2 Yx :=
  Z1 F Vz hm (fun _ _ _ _ _ _ us hl => match us, hl with | [_, _], _ => rfl) fun cdv A outer s H E hr => by
    have Sc := Vz
    refine Qq ?_; (refine Qv ?_; (refine JZ ?_ ?_; (refine JZ ?_ ?_; exact Qa 0; exact Q5 rfl g_PARTS); (refine QE h_count_not_above hr (by decide) QA ?_; (refine Qd ?_ ?_; (refine JZ ?_ ?_; exact Qa 0; exact Q5 rfl g_KEYS); (refine Qd ?_ ?_; exact Qa 1; exact Qn)))))
theorem Uo : Qx ["page", "key", "high"] ["page", "key"] (Qk qM) := ⟨rfl, rfl, rfl, by decide +kernel, rfl, by decide +kernel, by decide +kernel⟩
theorem vm (F : Fun K "beyond" "beyond" qM g fd) (hm : mg "beyond" = some (.ref g)) {t_HIGH : Tok} (g_HIGH : mg "HIGH" = some (.int 3 t_HIGH)) : Has P w K mg base "beyond" 1 2 YJ :=
  Z1 F Uo hm (fun _ _ _ _ _ _ us hl => match us, hl with | [_, _], _ => rfl) fun cdv A outer s H E hr => by
    have Sc := Uo
    refine Qg ?_ ?_; (refine QD 2 Sc.nd ?_; (refine JZ ?_ ?_; exact Qa 0; exact Q5 rfl g_HIGH)); (refine Qq ?_; (refine Qv ?_; (refine QdR ?_ ?_; (refine zM GJ ?_ ?_ (QI _); exact Qa 2; exact Zy); (refine QdN ?_; (refine zM QbN ?_ ?_ (QI _); exact Qa 1; exact Qa 2)))))
theorem Yt : Qx ["self", "key", "number", "level"] ["self", "key", "number"] (Qk ZK) := ⟨rfl, rfl, rfl, by decide +kernel, rfl, by decide +kernel, by decide +kernel⟩
theorem zq {C : Addr} (F : Fun K "raise_root" "Shelf.raise_root" ZK g fd) (nc : ClsN K "Shelf" C) (cl : Cls K C) (me : Ym K C "raise_root" g) (h_Shelf_lay : ZP P w K mg base "Shelf" "lay" 1 2 J2) (h_Shelf_check_number : ZP P w K mg base "Shelf" "check_number" 1 2 QX) {t_LEVEL : Tok} (g_LEVEL : mg "LEVEL" = some (.int 0 t_LEVEL)) (k_Shelf_top : QZ K "Shelf" "top") (k_Shelf_kept : QZ K "Shelf" "kept") : ZP P w K mg base "Shelf" "raise_root" 2 3 ZM :=
  Zt nc cl me F Yt (fun _ _ _ _ _ _ us hl => match us, hl with | [_, _, _], _ => rfl) fun cdv A outer s H E hr => by
    have Sc := Yt
    refine Qg ?_ ?_; (refine J8 ?_; (refine ZI h_Shelf_check_number hr (by decide) QA ?_ ?_; exact Qa 0; (refine Qd ?_ ?_; exact Qa 2; exact Qn))); (refine Qg ?_ ?_; (refine QD 3 Sc.nd ?_; (refine Qy Jf ?_ ?_; (refine QB (QL hr) ?_ ?_; (refine QB (QL hr) ?_ ?_; (refine QG k_Shelf_kept ?_; exact Qa 0); (refine QG k_Shelf_top ?_; exact Qa 0)); exact Q5 rfl g_LEVEL); exact Qp)); (refine Qg ?_ ?_; (refine Zs k_Shelf_top ?_ ?_; exact Qa 0; (refine ZI h_Shelf_lay hr (by decide) QA ?_ ?_; exact Qa 0; (refine Qd ?_ ?_; (refine ZT ?_; (refine Qd ?_ ?_; exact Qa 3; (refine Qd ?_ ?_; (refine ZT ?_; (refine Qd ?_ ?_; exact Qa 1; exact Qn)); (refine Qd ?_ ?_; (refine ZT ?_; (refine Qd ?_ ?_; (refine QG k_Shelf_top ?_; exact Qa 0); (refine Qd ?_ ?_; exact Qa 2; exact Qn))); (refine Qd ?_ ?_; exact Zy; (refine Qd ?_ ?_; exact Zy; exact Qn)))))); exact Qn))); (refine Qq ?_; (refine Qv ?_; (refine QG k_Shelf_top ?_; exact Qa 0)))))
theorem XE : Qx ["self", "number"] ["self", "number"] (Qk Ze) := ⟨rfl, rfl, rfl, by decide +kernel, rfl, by decide +kernel, by decide +kernel⟩
theorem qk {C : Addr} (F : Fun K "raise_root_over" "Walk.raise_root_over" Ze g fd) (nc : ClsN K "Walk" C) (cl : Cls K C) (me : Ym K C "raise_root_over" g) (h_Shelf_raise_root : ZP P w K mg base "Shelf" "raise_root" 2 3 ZM) (k_Walk_shelf : QZ K "Walk" "shelf") (k_Walk_new_page : QZ K "Walk" "new_page") (k_Walk_aim : QZ K "Walk" "aim") (k_Walk_ended : QZ K "Walk" "ended") : ZP P w K mg base "Walk" "raise_root_over" 3 2 ZB :=
  Zt nc cl me F XE (fun _ _ _ _ _ _ us hl => match us, hl with | [_, _], _ => rfl) fun cdv A outer s H E hr => by
    have Sc := XE
    refine Qg ?_ ?_; (refine Zs k_Walk_ended ?_ ?_; exact Qa 0; exact Yl); (refine Qq ?_; (refine Qv ?_; (refine ZT ?_; (refine Qd ?_ ?_; exact J1; (refine Qd ?_ ?_; exact Qa 1; (refine Qd ?_ ?_; (refine ZI h_Shelf_raise_root hr (by decide) QA ?_ ?_; (refine QG k_Walk_shelf ?_; exact Qa 0); (refine Qd ?_ ?_; (refine QG k_Walk_aim ?_; exact Qa 0); (refine Qd ?_ ?_; (refine QG k_Walk_new_page ?_; exact Qa 0); exact Qn))); exact Qn))))))
theorem jG : Qx ["self", "number", "page"] ["self"] (Qk Xv) := ⟨rfl, rfl, rfl, by decide +kernel, rfl, by decide +kernel, by decide +kernel⟩
theorem V8 {C : Addr} (F : Fun K "step" "Walk.step" Xv g fd) (nc : ClsN K "Walk" C) (cl : Cls K C) (me : Ym K C "step" g) (h_Walk_do_deed : ZP P w K mg base "Walk" "do_deed" 5 3 XQ) (h_Walk_tell_fork : ZP P w K mg base "Walk" "tell_fork" 4 3 J7) (h_Walk_go_on : ZP P w K mg base "Walk" "go_on" 1 4 JD) (h_kid_for : Has P w K mg base "kid_for" 2 2 Yx) (h_beyond : Has P w K mg base "beyond" 1 2 YJ) (h_Walk_raise_root_over : ZP P w K mg base "Walk" "raise_root_over" 3 2 ZB) (h_Shelf_read : ZP P w K mg base "Shelf" "read" 2 2 ZC) (h_Shelf_root : ZP P w K mg base "Shelf" "root" 1 1 Zx) {t_LEVEL : Tok} (g_LEVEL : mg "LEVEL" = some (.int 0 t_LEVEL)) {t_SIDE : Tok} (g_SIDE : mg "SIDE" = some (.int 4 t_SIDE)) (k_Walk_goal : QZ K "Walk" "goal") (k_Walk_aim : QZ K "Walk" "aim") (k_Walk_forks : QZ K "Walk" "forks") (k_Walk_place : QZ K "Walk" "place") (k_Walk_shelf : QZ K "Walk" "shelf") (k_Walk_ended : QZ K "Walk" "ended") : ZP P w K mg base "Walk" "step" 6 1 Jm :=
  Zt nc cl me F jG (fun _ _ _ _ _ _ us hl => match us, hl with | [_], _ => rfl) fun cdv A outer s H E hr => by
    have Sc := jG
    refine Qg ?_ ?_; (refine ZN ?_ ?_ ?_; (refine zG ?_; (refine QG k_Walk_ended ?_; exact Qa 0)); (refine Qq ?_; (refine Qv ?_; exact Zy)); exact QR); (refine Qg ?_ ?_; (refine QD 1 Sc.nd ?_; (refine QcI ?_ ?_ ?_; (refine QM KR ?_ ?_ (QI _); (refine QG k_Walk_place ?_; exact Qa 0); exact Zy); (refine JI h_Shelf_root hr (by decide) QA ?_; (refine QG k_Walk_shelf ?_; exact Qa 0)); (refine QG k_Walk_place ?_; exact Qa 0))); (refine Qg ?_ ?_; (refine QD 2 Sc.nd ?_; (refine ZI h_Shelf_read hr (by decide) QA ?_ ?_; (refine QG k_Walk_shelf ?_; exact Qa 0); (refine Qd ?_ ?_; exact Qa 1; exact Qn))); (refine Qg ?_ ?_; (refine ZN ?_ ?_ ?_; (refine DW.pt ?_; (refine qY ?_ ?_; (refine QM KR ?_ ?_ (QI _); (refine QG k_Walk_place ?_; exact Qa 0); exact Zy); (refine qT ?_; (refine QM VY ?_ ?_ (QI _); (refine QB (QL hr) ?_ ?_; exact Qa 2; exact Q5 rfl g_LEVEL); (refine QG k_Walk_goal ?_; exact Qa 0))))); (refine Qq ?_; (refine Qv ?_; (refine ZI h_Walk_raise_root_over hr (by decide) QA ?_ ?_; exact Qa 0; (refine Qd ?_ ?_; exact Qa 1; exact Qn)))); exact QR); (refine Qg ?_ ?_; (refine ZN ?_ ?_ ?_; (refine zG ?_; (refine QE h_beyond hr (by decide) QA ?_; (refine Qd ?_ ?_; exact Qa 2; (refine Qd ?_ ?_; (refine QG k_Walk_aim ?_; exact Qa 0); exact Qn)))); (refine Qq ?_; (refine Qv ?_; (refine ZI h_Walk_go_on hr (by decide) QA ?_ ?_; exact Qa 0; (refine Qd ?_ ?_; exact J1; (refine Qd ?_ ?_; exact Qa 1; (refine Qd ?_ ?_; (refine QB (QL hr) ?_ ?_; exact Qa 2; exact Q5 rfl g_SIDE); exact Qn)))))); exact QR); (refine Qg ?_ ?_; (refine ZN ?_ ?_ ?_; (refine QM Gm ?_ ?_ (QI _); (refine QB (QL hr) ?_ ?_; exact Qa 2; exact Q5 rfl g_LEVEL); (refine QG k_Walk_goal ?_; exact Qa 0)); (refine Qg ?_ ?_; (refine Vv ?_ ?_; exact Qa 1; (refine Vl (QL hr) ?_ ?_; (refine QG k_Walk_forks ?_; exact Qa 0); (refine QB (QL hr) ?_ ?_; exact Qa 2; exact Q5 rfl g_LEVEL))); (refine Qq ?_; (refine Qv ?_; (refine ZI h_Walk_go_on hr (by decide) QA ?_ ?_; exact Qa 0; (refine Qd ?_ ?_; exact J1; (refine Qd ?_ ?_; exact Qa 1; (refine Qd ?_ ?_; (refine QE h_kid_for hr (by decide) QA ?_; (refine Qd ?_ ?_; exact Qa 2; (refine Qd ?_ ?_; (refine QG k_Walk_aim ?_; exact Qa 0); exact Qn))); exact Qn))))))); exact QR); (refine Qg ?_ ?_; (refine ZN ?_ ?_ ?_; (refine QM Gm ?_ ?_ (QI _); (refine QG k_Walk_goal ?_; exact Qa 0); exact Qp); (refine Qq ?_; (refine Qv ?_; (refine ZI h_Walk_tell_fork hr (by decide) QA ?_ ?_; exact Qa 0; (refine Qd ?_ ?_; exact Qa 1; (refine Qd ?_ ?_; exact Qa 2; exact Qn))))); exact QR); (refine Qq ?_; (refine Qv ?_; (refine ZI h_Walk_do_deed hr (by decide) QA ?_ ?_; exact Qa 0; (refine Qd ?_ ?_; exact Qa 1; (refine Qd ?_ ?_; exact Qa 2; exact Qn)))))))))))
theorem jQ : Qx ["self"] ["self"] (Qk Xt) := ⟨rfl, rfl, rfl, by decide +kernel, rfl, by decide +kernel, by decide +kernel⟩
theorem V2 {C : Addr} (F : Fun K "over" "Walk.over" Xt g fd) (nc : ClsN K "Walk" C) (cl : Cls K C) (me : Ym K C "over" g) (k_Walk_ended : QZ K "Walk" "ended") : ZP P w K mg base "Walk" "over" 1 1 J4 :=
  Zt nc cl me F jQ (fun _ _ _ _ _ _ us hl => match us, hl with | [_], _ => rfl) fun cdv A outer s H E hr => by
    have Sc := jQ
    refine Qq ?_; (refine Qv ?_; (refine QG k_Walk_ended ?_; exact Qa 0))
theorem qz : Qx ["self", "shelf", "deed"] ["self", "shelf", "deed"] (Qk Jj) := ⟨rfl, rfl, rfl, by decide +kernel, rfl, by decide +kernel, by decide +kernel⟩
theorem jL {C : Addr} (F : Fun K "__init__" "Walk.__init__" Jj g fd) (nc : ClsN K "Walk" C) (hm : mg "Walk" = some (.ref C)) (me : Mk K C g) (k_Walk_ended : QZ K "Walk" "ended") (k_Walk_pairs : QZ K "Walk" "pairs") (k_Walk_worth : QZ K "Walk" "worth") (k_Walk_new_page : QZ K "Walk" "new_page") (k_Walk_forks : QZ K "Walk" "forks") (k_Walk_place : QZ K "Walk" "place") (k_Walk_goal : QZ K "Walk" "goal") (k_Walk_aim : QZ K "Walk" "aim") (k_Walk_deed : QZ K "Walk" "deed") (k_Walk_shelf : QZ K "Walk" "shelf") : G3 P w K mg base "Walk" 1 3 Zp :=
  Gz nc hm me F qz (fun _ _ _ _ _ _ us hl => match us, hl with | [_, _, _], _ => rfl) fun cdv A outer s H E hr => by
    have Sc := qz
    refine Qg ?_ ?_; (refine Zs k_Walk_shelf ?_ ?_; exact Qa 0; exact Qa 1); (refine Qg ?_ ?_; (refine Zs k_Walk_deed ?_ ?_; exact Qa 0; exact Qa 2); (refine Qg ?_ ?_; (refine Zs k_Walk_aim ?_ ?_; exact Qa 0; (refine QB (QL hr) ?_ ?_; exact Qa 2; exact Qp)); (refine Qg ?_ ?_; (refine Zs k_Walk_goal ?_ ?_; exact Qa 0; exact Qp); (refine Qg ?_ ?_; (refine Zs k_Walk_place ?_ ?_; exact Qa 0; exact Zy); (refine Qg ?_ ?_; (refine Zs k_Walk_forks ?_ ?_; exact Qa 0; exact j1); (refine Qg ?_ ?_; (refine Zs k_Walk_new_page ?_ ?_; exact Qa 0; exact Zy); (refine Qg ?_ ?_; (refine Zs k_Walk_worth ?_ ?_; exact Qa 0; exact Zy); (refine Qg ?_ ?_; (refine Zs k_Walk_pairs ?_ ?_; exact Qa 0; (refine yK ?_; exact Qn)); (refine Qq ?_; (refine Zs k_Walk_ended ?_ ?_; exact Qa 0; exact Yl))))))))))
theorem xh : Qx ["cell"] ["cell"] (Qk Xz) := ⟨rfl, rfl, rfl, by decide +kernel, rfl, by decide +kernel, by decide +kernel⟩
theorem VU (F : Fun K "_law_worth" "_law_worth" Xz g fd) (hm : mg "_law_worth" = some (.ref g)) (h_law_pick : Has P w K mg base "_law_pick" 1 3 Qw) : Has P w K mg base "_law_worth" 2 1 XD :=
  Z1 F xh hm (fun _ _ _ _ _ _ us hl => match us, hl with | [_], _ => rfl) fun cdv A outer s H E hr => by
    have Sc := xh
    refine Qg ?_ ?_; (refine ZN ?_ ?_ ?_; (refine QM (Qcq hr.units) ?_ ?_ (QI _); (refine QE h_law_pick hr (by decide) QA ?_; (refine Qd ?_ ?_; exact Qa 0; (refine Qd ?_ ?_; exact Qp; (refine Qd ?_ ?_; exact Qp; exact Qn)))); exact Qp); (refine Qq ?_; (refine Qv ?_; (refine Qy jb ?_ ?_; (refine Qy x9 ?_ ?_; (refine Qy Jf ?_ ?_; (refine Qy ym ?_ ?_; (refine Qy x9 ?_ ?_; exact Qa 0; (refine Qy jk ?_ ?_; exact Qp; exact Qp)); exact Qp); exact Qp); (refine Qy Jf ?_ ?_; (refine Qy ym ?_ ?_; exact Qp; (refine Qy jk ?_ ?_; exact Qp; exact Qp)); exact Qp)); (refine Qy jk ?_ ?_; exact Qp; exact Qp)))); exact QR); (refine Qq ?_; (refine Qv ?_; (refine Qy jb ?_ ?_; (refine QE h_law_pick hr (by decide) QA ?_; (refine Qd ?_ ?_; exact Qa 0; (refine Qd ?_ ?_; exact Qp; (refine Qd ?_ ?_; exact Qp; exact Qn)))); exact Qp)))
theorem Vu : Qx ["cell", "way"] ["cell"] (Qk YA) := ⟨rfl, rfl, rfl, by decide +kernel, rfl, by decide +kernel, by decide +kernel⟩
theorem GP (F : Fun K "_law_key" "_law_key" YA g fd) (hm : mg "_law_key" = some (.ref g)) (h_law_pick : Has P w K mg base "_law_pick" 1 3 Qw) : Has P w K mg base "_law_key" 2 1 Yz :=
  Z1 F Vu hm (fun _ _ _ _ _ _ us hl => match us, hl with | [_], _ => rfl) fun cdv A outer s H E hr => by
    have Sc := Vu
    refine Qg ?_ ?_; (refine QD 1 Sc.nd ?_; (refine QE h_law_pick hr (by decide) QA ?_; (refine Qd ?_ ?_; exact Qa 0; (refine Qd ?_ ?_; exact Qp; (refine Qd ?_ ?_; exact Qp; exact Qn))))); (refine Qg ?_ ?_; (refine ZN ?_ ?_ ?_; (refine QM (Qcq hr.units) ?_ ?_ (QI _); exact Qa 1; exact Qp); (refine Qq ?_; (refine Qv ?_; (refine Qy jb ?_ ?_; (refine Qy x9 ?_ ?_; (refine Qy Jf ?_ ?_; (refine Qy ym ?_ ?_; (refine Qy x9 ?_ ?_; exact Qa 0; (refine Qy jk ?_ ?_; exact Qp; exact Qp)); exact Qp); exact Qp); (refine Qy Jf ?_ ?_; (refine Qy ym ?_ ?_; exact Qp; (refine Qy jk ?_ ?_; exact Qp; exact Qp)); exact Qp)); (refine Qy jk ?_ ?_; exact Qp; exact Qp)))); exact QR); (refine Qq ?_; (refine Qv ?_; (refine Qy jb ?_ ?_; (refine QE h_law_pick hr (by decide) QA ?_; (refine Qd ?_ ?_; exact Qa 0; (refine Qd ?_ ?_; exact Qp; (refine Qd ?_ ?_; (refine JZ ?_ ?_; (refine zH ?_; (refine Qd ?_ ?_; exact Qp; (refine Qd ?_ ?_; exact Qp; (refine Qd ?_ ?_; exact Qp; (refine Qd ?_ ?_; exact Qp; (refine Qd ?_ ?_; exact Qp; exact Qn)))))); exact Qa 1); exact Qn)))); exact Qp))))
theorem yj : Qx ["cell", "kind", "key", "low", "near", "far"] ["cell"] (Qk X2) := ⟨rfl, rfl, rfl, by decide +kernel, rfl, by decide +kernel, by decide +kernel⟩
theorem Kb (F : Fun K "_law_deed" "_law_deed" X2 g fd) (hm : mg "_law_deed" = some (.ref g)) (h_law_pick : Has P w K mg base "_law_pick" 1 3 Qw) (h_law_worth : Has P w K mg base "_law_worth" 2 1 XD) (h_law_key : Has P w K mg base "_law_key" 2 1 Yz) (z_min : mg "min" = none) : Has P w K mg base "_law_deed" 3 1 Jr :=
  Z1 F yj hm (fun _ _ _ _ _ _ us hl => match us, hl with | [_], _ => rfl) fun cdv A outer s H E hr => by
    have Sc := yj
    refine Qg ?_ ?_; (refine QD 1 Sc.nd ?_; (refine QE h_law_pick hr (by decide) QA ?_; (refine Qd ?_ ?_; exact Qa 0; (refine Qd ?_ ?_; exact Qp; (refine Qd ?_ ?_; exact Qp; exact Qn))))); (refine Qg ?_ ?_; (refine QD 2 Sc.nd ?_; (refine QE h_law_key hr (by decide) QA ?_; (refine Qd ?_ ?_; exact Qa 0; exact Qn))); (refine Qg ?_ ?_; (refine ZN ?_ ?_ ?_; (refine QM VY ?_ ?_ (QI _); exact Qa 1; exact Qp); (refine Qq ?_; (refine Qv ?_; (refine ZT ?_; (refine Qd ?_ ?_; exact J1; (refine Qd ?_ ?_; exact Qa 2; (refine Qd ?_ ?_; (refine QE h_law_worth hr (by decide) QA ?_; (refine Qd ?_ ?_; exact Qa 0; exact Qn)); exact Qn)))))); exact QR); (refine Qg ?_ ?_; (refine ZN ?_ ?_ ?_; (refine QM VY ?_ ?_ (QI _); exact Qa 1; exact Qp); (refine Qq ?_; (refine Qv ?_; (refine ZT ?_; (refine Qd ?_ ?_; exact J1; (refine Qd ?_ ?_; exact Qa 2; exact Qn))))); exact QR); (refine Qg ?_ ?_; (refine ZN ?_ ?_ ?_; (refine QM VY ?_ ?_ (QI _); exact Qa 1; exact Qp); (refine Qq ?_; (refine Qv ?_; (refine ZT ?_; (refine Qd ?_ ?_; exact J1; (refine Qd ?_ ?_; exact Qa 2; exact Qn))))); exact QR); (refine Qg ?_ ?_; (refine QD 3 Sc.nd ?_; (refine Z2 (Qbg rfl) z_min boot_min ?_; (refine Qd ?_ ?_; exact Qa 2; (refine Qd ?_ ?_; (refine Qy jb ?_ ?_; (refine Qy jk ?_ ?_; exact Qp; exact Qp); exact Qp); exact Qn)))); (refine Qg ?_ ?_; (refine QD 4 Sc.nd ?_; (refine Z2 (Qbg rfl) z_min boot_min ?_; (refine Qd ?_ ?_; (refine Qy jk ?_ ?_; exact Qp; exact Qp); (refine Qd ?_ ?_; (refine Qy Jf ?_ ?_; (refine Qy Jf ?_ ?_; exact Qa 3; exact Qp); (refine QE h_law_pick hr (by decide) QA ?_; (refine Qd ?_ ?_; exact Qa 0; (refine Qd ?_ ?_; exact Qp; (refine Qd ?_ ?_; exact Qp; exact Qn))))); exact Qn)))); (refine Qg ?_ ?_; (refine QD 5 Sc.nd ?_; (refine Z2 (Qbg rfl) z_min boot_min ?_; (refine Qd ?_ ?_; (refine Qy jk ?_ ?_; exact Qp; exact Qp); (refine Qd ?_ ?_; (refine Qy Jf ?_ ?_; (refine Qy Jf ?_ ?_; exact Qa 3; exact Qp); (refine QE h_law_pick hr (by decide) QA ?_; (refine Qd ?_ ?_; exact Qa 0; (refine Qd ?_ ?_; exact Qp; (refine Qd ?_ ?_; exact Qp; exact Qn))))); exact Qn)))); (refine Qq ?_; (refine Qv ?_; (refine ZT ?_; (refine Qd ?_ ?_; exact J1; (refine Qd ?_ ?_; exact Qa 3; (refine Qd ?_ ?_; (refine JZ ?_ ?_; (refine zH ?_; (refine Qd ?_ ?_; (refine Qy Jf ?_ ?_; exact Qa 3; exact Qp); (refine Qd ?_ ?_; exact Qa 4; (refine Qd ?_ ?_; exact Qa 5; (refine Qd ?_ ?_; (refine Qy jk ?_ ?_; exact Qp; exact Qp); exact Qn))))); (refine QE h_law_pick hr (by decide) QA ?_; (refine Qd ?_ ?_; exact Qa 0; (refine Qd ?_ ?_; exact Qp; (refine Qd ?_ ?_; exact Qp; exact Qn))))); exact Qn)))))))))))))
theorem yf : Qx ["shelf", "deed", "walk", "k"] ["shelf", "deed"] (Qk XY) := ⟨rfl, rfl, rfl, by decide +kernel, rfl, by decide +kernel, by decide +kernel⟩
theorem KB (F : Fun K "_law_done" "_law_done" XY g fd) (hm : mg "_law_done" = some (.ref g)) (h_Walk_step : ZP P w K mg base "Walk" "step" 6 1 Jm) (h_Walk_over : ZP P w K mg base "Walk" "over" 1 1 J4) (h_Walk___init__ : G3 P w K mg base "Walk" 1 3 Zp) (z_range : mg "range" = none) : Has P w K mg base "_law_done" 7 2 X8 :=
  Z1 F yf hm (fun _ _ _ _ _ _ us hl => match us, hl with | [_, _], _ => rfl) fun cdv A outer s H E hr => by
    have Sc := yf
    refine Qg ?_ ?_; (refine QD 2 Sc.nd ?_; (refine KC h_Walk___init__ hr (by decide) QA ?_; (refine Qd ?_ ?_; exact Qa 0; (refine Qd ?_ ?_; exact Qa 1; exact Qn)))); (refine Qg ?_ ?_; (refine yW PassesOwn.never rfl ?_ ?_ ?_; (refine X1 rfl z_range ?_; (refine Qd ?_ ?_; exact Qp; exact Qn)); exact za 3 Sc.nd; (refine Qg ?_ ?_; (refine ZN ?_ ?_ ?_; (refine zG ?_; (refine JI h_Walk_over hr (by decide) QA ?_; exact Qa 2)); (refine Qq ?_; (refine Qv ?_; exact Qa 2)); exact QR); (refine Qq ?_; (refine J8 ?_; (refine JI h_Walk_step hr (by decide) QA ?_; exact Qa 2))))); (refine Qq ?_; (refine Qv ?_; exact Qa 2)))
theorem qd : Qx ["self", "room"] ["self", "room"] (Qk Jd) := ⟨rfl, rfl, rfl, by decide +kernel, rfl, by decide +kernel, by decide +kernel⟩
theorem jx {C : Addr} (F : Fun K "__init__" "Shelf.__init__" Jd g fd) (nc : ClsN K "Shelf" C) (hm : mg "Shelf" = some (.ref C)) (me : Mk K C g) {a_EMPTY_LEAF : Addr} (g_EMPTY_LEAF : mg "EMPTY_LEAF" = some (.ref a_EMPTY_LEAF)) (q_EMPTY_LEAF : KRep K (.tup [.int 0, .tup [], .tup [], .non, .non]) (.ref a_EMPTY_LEAF)) (k_Shelf_write_count : QZ K "Shelf" "write_count") (k_Shelf_read_count : QZ K "Shelf" "read_count") (k_Shelf_top : QZ K "Shelf" "top") (k_Shelf_kept : QZ K "Shelf" "kept") (k_Shelf_page_room : QZ K "Shelf" "page_room") : G3 P w K mg base "Shelf" 1 2 ZL :=
  Gz nc hm me F qd (fun _ _ _ _ _ _ us hl => match us, hl with | [_, _], _ => rfl) fun cdv A outer s H E hr => by
    have Sc := qd
    refine Qg ?_ ?_; (refine Zs k_Shelf_page_room ?_ ?_; exact Qa 0; exact Qa 1); (refine Qg ?_ ?_; (refine Zs k_Shelf_kept ?_ ?_; exact Qa 0; (refine yK ?_; (refine Qd ?_ ?_; exact Qcn rfl g_EMPTY_LEAF q_EMPTY_LEAF; exact Qn))); (refine Qg ?_ ?_; (refine Zs k_Shelf_top ?_ ?_; exact Qa 0; exact Qp); (refine Qg ?_ ?_; (refine Zs k_Shelf_read_count ?_ ?_; exact Qa 0; exact Qp); (refine Qq ?_; (refine Zs k_Shelf_write_count ?_ ?_; exact Qa 0; exact Qp)))))
theorem jP : Qx ["cell", "table", "shelf", "many", "k", "key"] ["cell", "table"] (Qk XC) := ⟨rfl, rfl, rfl, by decide +kernel, rfl, by decide +kernel, by decide +kernel⟩
theorem V6 (F : Fun K "_law_begun" "_law_begun" XC g fd) (hm : mg "_law_begun" = some (.ref g)) (h_law_done : Has P w K mg base "_law_done" 7 2 X8) (h_law_pick : Has P w K mg base "_law_pick" 1 3 Qw) (h_Shelf___init__ : G3 P w K mg base "Shelf" 1 2 ZL) (z_range : mg "range" = none) : Has P w K mg base "_law_begun" 8 2 Yn :=
  Z1 F jP hm (fun _ _ _ _ _ _ us hl => match us, hl with | [_, _], _ => rfl) fun cdv A outer s H E hr => by
    have Sc := jP
    refine Qg ?_ ?_; (refine QD 2 Sc.nd ?_; (refine KC h_Shelf___init__ hr (by decide) QA ?_; (refine Qd ?_ ?_; (refine Qy Jf ?_ ?_; exact Qp; (refine Qy ym ?_ ?_; (refine QE h_law_pick hr (by decide) QA ?_; (refine Qd ?_ ?_; exact Qa 0; (refine Qd ?_ ?_; exact Qp; (refine Qd ?_ ?_; exact Qp; exact Qn)))); (refine QE h_law_pick hr (by decide) QA ?_; (refine Qd ?_ ?_; exact Qa 0; (refine Qd ?_ ?_; exact Qp; (refine Qd ?_ ?_; exact Qp; exact Qn)))))); exact Qn))); (refine Qg ?_ ?_; (refine QD 3 Sc.nd ?_; (refine QE h_law_pick hr (by decide) QA ?_; (refine Qd ?_ ?_; exact Qa 0; (refine Qd ?_ ?_; exact Qp; (refine Qd ?_ ?_; exact Qp; exact Qn))))); (refine Qg ?_ ?_; (refine ZN ?_ ?_ ?_; (refine QM (y1 hr.units) ?_ ?_ (QI _); (refine QE h_law_pick hr (by decide) QA ?_; (refine Qd ?_ ?_; exact Qa 0; (refine Qd ?_ ?_; exact Qp; (refine Qd ?_ ?_; exact Qp; exact Qn)))); exact Qp); (refine Qq ?_; (refine QD 3 Sc.nd ?_; exact Qp)); exact QR); (refine Qg ?_ ?_; (refine yW PassesOwn.never rfl ?_ ?_ ?_; (refine X1 rfl z_range ?_; (refine Qd ?_ ?_; exact Qa 3; exact Qn)); exact za 4 Sc.nd; (refine Qg ?_ ?_; (refine QD 5 Sc.nd ?_; (refine Qy jb ?_ ?_; (refine QE h_law_pick hr (by decide) QA ?_; (refine Qd ?_ ?_; (refine Qy Jf ?_ ?_; exact Qa 0; (refine Qy ym ?_ ?_; exact Qp; exact Qa 4)); (refine Qd ?_ ?_; exact Qp; (refine Qd ?_ ?_; exact Qp; exact Qn)))); exact Qp)); (refine Qg ?_ ?_; (refine J8 ?_; (refine QE h_law_done hr (by decide) QA ?_; (refine Qd ?_ ?_; exact Qa 2; (refine Qd ?_ ?_; (refine ZT ?_; (refine Qd ?_ ?_; exact J1; (refine Qd ?_ ?_; exact Qa 5; (refine Qd ?_ ?_; exact Qa 4; exact Qn)))); exact Qn)))); (refine Qq ?_; (refine Vv ?_ ?_; exact Qa 4; (refine Vl (QL hr) ?_ ?_; exact Qa 1; exact Qa 5)))))); (refine Qq ?_; (refine Qv ?_; exact Qa 2)))))
theorem zB : Qx ["script", "k"] ["script", "k"] (Qk JP) := ⟨rfl, rfl, rfl, by decide +kernel, rfl, by decide +kernel, by decide +kernel⟩
theorem yp (F : Fun K "_law_cell_at" "_law_cell_at" JP g fd) (hm : mg "_law_cell_at" = some (.ref g)) (z_len : mg "len" = none) : Has P w K mg base "_law_cell_at" 1 2 Jq :=
  Z1 F zB hm (fun _ _ _ _ _ _ us hl => match us, hl with | [_, _], _ => rfl) fun cdv A outer s H E hr => by
    have Sc := zB
    refine Qg ?_ ?_; (refine ZN ?_ ?_ ?_; (refine QM VY ?_ ?_ (QI _); exact Qa 1; (refine Z2 Us z_len PySem.boot_len ?_; (refine Qd ?_ ?_; exact Qa 0; exact Qn))); (refine Qq ?_; (refine Qv ?_; (refine JZ ?_ ?_; exact Qa 0; exact Qa 1))); exact QR); (refine Qq ?_; (refine Qv ?_; exact Qp))
theorem kB : Qx ["script", "first", "shelf", "hands", "walks", "cell", "hand", "k", "writings"] ["script"] (Qk jN) := ⟨rfl, rfl, rfl, by decide +kernel, rfl, by decide +kernel, by decide +kernel⟩
theorem law_fn (F : Fun K "law" "law" jN g fd) (h_law_pick : Has P w K mg base "_law_pick" 1 3 Qw) (h_Shelf_writings : ZP P w K mg base "Shelf" "writings" 1 1 Zv) (h_law_sound : Has P w K mg base "_law_sound" 3 1 J3) (h_Walk_step : ZP P w K mg base "Walk" "step" 6 1 Jm) (h_Walk_over : ZP P w K mg base "Walk" "over" 1 1 J4) (h_Walk___init__ : G3 P w K mg base "Walk" 1 3 Zp) (h_law_deed : Has P w K mg base "_law_deed" 3 1 Jr) (h_law_begun : Has P w K mg base "_law_begun" 8 2 Yn) (h_law_cell_at : Has P w K mg base "_law_cell_at" 1 2 Jq) (z_range : mg "range" = none) : zF P w K mg base CX0 9 g fd ["script"] (spD K 1 Gp) :=
  Qep F kB fun cdv A outer s H E hr => by
    have Sc := kB
    refine Qg ?_ ?_; (refine QD 1 Sc.nd ?_; (refine QE h_law_cell_at hr (by decide) QA ?_; (refine Qd ?_ ?_; exact Qa 0; (refine Qd ?_ ?_; exact Qp; exact Qn)))); (refine Qg ?_ ?_; (refine QD 2 Sc.nd ?_; (refine QE h_law_begun hr (by decide) QA ?_; (refine Qd ?_ ?_; exact Qa 1; (refine Qd ?_ ?_; exact j1; exact Qn)))); (refine Qg ?_ ?_; (refine ZN ?_ ?_ ?_; (refine jr ?_; (refine zG ?_; (refine QE h_law_sound hr (by decide) QA ?_; (refine Qd ?_ ?_; exact Qa 2; exact Qn)))); (refine Qq ?_; (refine Qv ?_; exact Yl)); exact QR); (refine Qg ?_ ?_; (refine QD 3 Sc.nd ?_; (refine Qy Jf ?_ ?_; exact Qp; (refine QE h_law_pick hr (by decide) QA ?_; (refine Qd ?_ ?_; exact Qa 1; (refine Qd ?_ ?_; exact Qp; (refine Qd ?_ ?_; exact Qp; exact Qn)))))); (refine Qg ?_ ?_; (refine Ve 4 Sc.nd (caps := []) (idx := []) ⟨by with_unfolding_all rfl, by decide +kernel, rfl, by decide +kernel, rfl, (by exact trivial), by with_unfolding_all rfl, (by exact trivial), by decide⟩ rfl ?_ ?_ ?_; (refine ur ?_; (refine X1 rfl z_range ?_; (refine Qd ?_ ?_; exact Qa 3; exact Qn))); (exact fun _ _ _ _ => by exact ub); (exact fun _ _ _ _ => by exact Zy)); (refine Qg ?_ ?_; (refine vP PassesOwn.never rfl ?_ ?_ ?_; (refine vX ?_; (refine qC ?_ ?_ ?_; exact Qa 0; exact Xd; (refine Xe ?_; exact Qp))); exact za 5 Sc.nd; (refine Qg ?_ ?_; (refine QD 6 Sc.nd ?_; (refine QE h_law_pick hr (by decide) QA ?_; (refine Qd ?_ ?_; exact Qa 5; (refine Qd ?_ ?_; exact Qp; (refine Qd ?_ ?_; exact Qa 3; exact Qn))))); (refine Qg ?_ ?_; (refine ZN ?_ ?_ ?_; (refine DW.pt ?_; (refine VD ?_ ?_; (refine QM KR ?_ ?_ (QI _); (refine QB (QL hr) ?_ ?_; exact Qa 4; exact Qa 6); exact Zy); (refine xP ?_; (refine zG ?_; (refine JI h_Walk_over hr (by decide) QA ?_; (refine QB (QL hr) ?_ ?_; exact Qa 4; exact Qa 6)))))); (refine Qq ?_; (refine Vv ?_ ?_; (refine KC h_Walk___init__ hr (by decide) QA ?_; (refine Qd ?_ ?_; exact Qa 2; (refine Qd ?_ ?_; (refine QE h_law_deed hr (by decide) QA ?_; (refine Qd ?_ ?_; exact Qa 5; exact Qn)); exact Qn))); (refine Vl (QL hr) ?_ ?_; exact Qa 4; exact Qa 6))); exact QR); (refine Qq ?_; (refine yW PassesOwn.never rfl ?_ ?_ ?_; (refine X1 rfl z_range ?_; (refine Qd ?_ ?_; (refine Qy Jf ?_ ?_; exact Qp; (refine QE h_law_pick hr (by decide) QA ?_; (refine Qd ?_ ?_; exact Qa 5; (refine Qd ?_ ?_; exact Qp; (refine Qd ?_ ?_; exact Qp; exact Qn))))); exact Qn)); exact za 7 Sc.nd; (refine Qg ?_ ?_; (refine QD 8 Sc.nd ?_; (refine JI h_Shelf_writings hr (by decide) QA ?_; exact Qa 2)); (refine Qg ?_ ?_; (refine J8 ?_; (refine JI h_Walk_step hr (by decide) QA ?_; (refine QB (QL hr) ?_ ?_; exact Qa 4; exact Qa 6))); (refine Qq ?_; (refine ZN ?_ ?_ ?_; (refine DW.pt ?_; (refine qY ?_ ?_; (refine QM (xf hr.units) ?_ ?_ (QI _); (refine JI h_Shelf_writings hr (by decide) QA ?_; exact Qa 2); exact Qa 8); (refine qT ?_; (refine jr ?_; (refine zG ?_; (refine QE h_law_sound hr (by decide) QA ?_; (refine Qd ?_ ?_; exact Qa 2; exact Qn))))))); (refine Qq ?_; (refine Qv ?_; exact Yl)); exact QR))))))))); (refine Qq ?_; (refine Qv ?_; exact Yl)))))))
end
def _root_.PySem.W.Fast.tw15813509370376219700 : Nat := 0
def _root_.PySem.W.Fast.tw14099455600047065423 : Nat := 0
def _root_.PySem.W.Fast.tw4350258547002102684 : Nat := 0
def _root_.PySem.W.Fast.tw12015675240891960680 : Nat := 0
def _root_.PySem.W.Fast.tw13820171364795576330 : Nat := 0
def _root_.PySem.W.Fast.tw13139653531072203317 : Nat := 0
def _root_.PySem.W.Fast.tw11633940190980379585 : Nat := 0
def _root_.PySem.W.Fast.tw9105589008251741777 : Nat := 0
def _root_.PySem.W.Fast.tw1426851114436150899 : Nat := 0
def _root_.PySem.W.Fast.tw1667222035529076581 : Nat := 0
def _root_.PySem.W.Fast.tw16599310685404872491 : Nat := 0
def _root_.PySem.W.Fast.tw11488115432684057783 : Nat := 0
def _root_.PySem.W.Fast.tw694494005029393172 : Nat := 0
def _root_.PySem.W.Fast.tw12578707221747912578 : Nat := 0
def _root_.PySem.W.Fast.tw443710749372018446 : Nat := 0
def _root_.PySem.W.Fast.tw10550605970978042964 : Nat := 0
def _root_.PySem.W.Fast.tw4064134754338127943 : Nat := 0
def _root_.PySem.W.Fast.tw2518175929025761303 : Nat := 0
def _root_.PySem.W.Fast.tw849554663035730430 : Nat := 0
def _root_.PySem.W.Fast.tw12245149038129873691 : Nat := 0
def shF (r : Int) (k : Nat) (t a b : Int) : List (Str × DV) := [("page_room", .int r), ("kept", .ref k), ("top", .int t), ("read_count", .int a), ("write_count", .int b)]
theorem Qaj (r : Int) (k : Nat) (t a b : Int) : List.lookup ("page_room" : Str) (shF r k t a b) = some (DV.int r) := by rfl
theorem qL (r : Int) (k : Nat) (t a b : Int) : List.lookup ("kept" : Str) (shF r k t a b) = some (DV.ref k) := by rfl
theorem uB (r : Int) (k : Nat) (t a b : Int) : List.lookup ("top" : Str) (shF r k t a b) = some (DV.int t) := by rfl
theorem Qal (r : Int) (k : Nat) (t a b : Int) : List.lookup ("write_count" : Str) (shF r k t a b) = some (DV.int b) := by rfl
theorem Qef (r : Int) (k : Nat) (t a b : Int) : List.lookup ("read_count" : Str) (shF r k t a b) = some (DV.int a) := by rfl
theorem GQ (r : Int) (k : Nat) (t a b c : Int) : XH ("write_count" : Str) (.int c) (shF r k t a b) = shF r k t a c := by rfl
theorem Qbf (r : Int) (k : Nat) (t a b c : Int) : XH ("read_count" : Str) (.int c) (shF r k t a b) = shF r k t c b := by rfl
theorem Qay (r : Int) (k : Nat) (t a b c : Int) : XH ("top" : Str) (.int c) (shF r k t a b) = shF r k c a b := by rfl
theorem yG (r : Int) (k : Nat) (t a b : Int) : (shF r k t a b).length = 5 := rfl
theorem xt (r : Int) (k : Nat) (t a b : Int) : List.lookup ("check_number" : Str) (shF r k t a b) = none := by rfl
theorem Uv (r : Int) (k : Nat) (t a b : Int) : List.lookup ("lay" : Str) (shF r k t a b) = none := by rfl
theorem yT (r : Int) (k : Nat) (t a b : Int) : List.lookup ("read" : Str) (shF r k t a b) = none := by rfl
theorem zx (r : Int) (k : Nat) (t a b : Int) : List.lookup ("write" : Str) (shF r k t a b) = none := by rfl
theorem Vp (r : Int) (k : Nat) (t a b : Int) : List.lookup ("root" : Str) (shF r k t a b) = none := by rfl
theorem KP (r : Int) (k : Nat) (t a b : Int) : List.lookup ("raise_root" : Str) (shF r k t a b) = none := by rfl
theorem K1 (r : Int) (k : Nat) (t a b : Int) : List.lookup ("room" : Str) (shF r k t a b) = none := by rfl
theorem x6 (r : Int) (k : Nat) (t a b : Int) : List.lookup ("pages" : Str) (shF r k t a b) = none := by rfl
theorem Gb (r : Int) (k : Nat) (t a b : Int) : List.lookup ("writings" : Str) (shF r k t a b) = none := by rfl
section
variable {r t a b : Int} {n k : Nat} {ps : List DV} {hp : Hs}
theorem K6 (h1 : hp[n]? = some (.ins "Shelf" (shF r k t a b))) (h2 : hp[k]? = some (.lst ps)) : Z8 [.ref n] hp = some (.int ps.length, hp) := by
  simp [Z8, jh, Q1, Qr, QC, QF, Xp, sIf, Q6, qv, YV, qq, qh, Qh, Qb, eC, eB, asB, Jh, eOr, JT, J6, qw, Xj, eIf, XF, Qm, Qc, ZF, JW, Qs, QN, Qu, gN, Zb, Zo, Q4, Zi, Zr, Zq, Zm, Xi, Xo, qr, Zw, ZO, Jo, Zc, Y4, VV, Yw, gSb, jR, Yv, Ys, QJ, jC, xa, onI, onL, onD, Jw, Yc, ji, YE, ixG, ZD, YG, zo, YF, qO, asI, jw, VR, QK, Xy, XS, JE, jc, evP, ZR, Ye, JJ, Xm, JM, Yf, Yh, Yb, Zj, QT, Ju, h1, h2, qL]
theorem ue (h1 : hp[n]? = some (.ins "Shelf" (shF r k t a b))) : Zx [.ref n] hp = some (.int t, hp) := by
  simp [Zx, xk, Q1, Qr, QC, QF, Xp, sIf, Q6, qv, YV, qq, qh, Qh, Qb, eC, eB, asB, Jh, eOr, JT, J6, qw, Xj, eIf, XF, Qm, Qc, ZF, JW, Qs, QN, Qu, gN, Zb, Zo, Q4, Zi, Zr, Zq, Zm, Xi, Xo, qr, Zw, ZO, Jo, Zc, Y4, VV, Yw, gSb, jR, Yv, Ys, QJ, jC, xa, onI, onL, onD, Jw, Yc, ji, YE, ixG, ZD, YG, zo, YF, qO, asI, jw, VR, QK, Xy, XS, JE, jc, evP, ZR, Ye, JJ, Xm, JM, Yf, Yh, Yb, Zj, QT, Ju, h1, uB]
theorem uJ (h1 : hp[n]? = some (.ins "Shelf" (shF r k t a b))) : Zz [.ref n] hp = some (.int r, hp) := by
  simp [Zz, xi, Q1, Qr, QC, QF, Xp, sIf, Q6, qv, YV, qq, qh, Qh, Qb, eC, eB, asB, Jh, eOr, JT, J6, qw, Xj, eIf, XF, Qm, Qc, ZF, JW, Qs, QN, Qu, gN, Zb, Zo, Q4, Zi, Zr, Zq, Zm, Xi, Xo, qr, Zw, ZO, Jo, Zc, Y4, VV, Yw, gSb, jR, Yv, Ys, QJ, jC, xa, onI, onL, onD, Jw, Yc, ji, YE, ixG, ZD, YG, zo, YF, qO, asI, jw, VR, QK, Xy, XS, JE, jc, evP, ZR, Ye, JJ, Xm, JM, Yf, Yh, Yb, Zj, QT, Ju, h1, Qaj]
theorem yc (h1 : hp[n]? = some (.ins "Shelf" (shF r k t a b))) : Zv [.ref n] hp = some (.int b, hp) := by
  simp [Zv, qH, Q1, Qr, QC, QF, Xp, sIf, Q6, qv, YV, qq, qh, Qh, Qb, eC, eB, asB, Jh, eOr, JT, J6, qw, Xj, eIf, XF, Qm, Qc, ZF, JW, Qs, QN, Qu, gN, Zb, Zo, Q4, Zi, Zr, Zq, Zm, Xi, Xo, qr, Zw, ZO, Jo, Zc, Y4, VV, Yw, gSb, jR, Yv, Ys, QJ, jC, xa, onI, onL, onD, Jw, Yc, ji, YE, ixG, ZD, YG, zo, YF, qO, asI, jw, VR, QK, Xy, XS, JE, jc, evP, ZR, Ye, JJ, Xm, JM, Yf, Yh, Yb, Zj, QT, Ju, h1, Qal]
theorem y3 {i : Int} (h1 : hp[n]? = some (.ins "Shelf" (shF r k t a b))) (h2 : hp[k]? = some (.lst ps)) (i0 : 0 <= i) (i1 : i < ps.length) :
    QX [.ref n, .int i] hp = some (.non, hp) := by
  have q0 : ¬ i < 0 := by omega
  have q1 : ¬ (ps.length : Int) <= i := by omega
  simp [QX, Yj, Q1, Qr, QC, QF, Xp, sIf, Q6, qv, YV, qq, qh, Qh, Qb, eC, eB, asB, Jh, eOr, JT, J6, qw, Xj, eIf, XF, Qm, Qc, ZF, JW, Qs, QN, Qu, gN, Zb, Zo, Q4, Zi, Zr, Zq, Zm, Xi, Xo, qr, Zw, ZO, Jo, Zc, Y4, VV, Yw, gSb, jR, Yv, Ys, QJ, jC, xa, onI, onL, onD, Jw, Yc, ji, YE, ixG, ZD, YG, zo, YF, qO, asI, jw, VR, QK, Xy, XS, JE, jc, evP, ZR, Ye, JJ, Xm, JM, Yf, Yh, Yb, Zj, QT, Ju, X6, h1, h2, qL, i0, i1, q0, q1]
theorem uz {i : Nat} {d : DV} (h1 : hp[n]? = some (.ins "Shelf" (shF r k t a b))) (h2 : hp[k]? = some (.lst ps)) (hnk : n ≠ k) (hd : ps[i]? = some d) :
    ZC [.ref n, .int i] hp = some (d, hp.set n (.ins "Shelf" (shF r k t (a + 1) b))) := by
  have i1 : i < ps.length := (List.getElem?_eq_some_iff.mp hd).1
  have c := y3 (i := (i : Int)) h1 h2 (by omega) (by omega)
  have hd' := YX hd
  simp [ZC, jF, Q1, Qr, QC, QF, Xp, sIf, Q6, qv, YV, qq, qh, Qh, Qb, eC, eB, asB, Jh, eOr, JT, J6, qw, Xj, eIf, XF, Qm, Qc, ZF, JW, Qs, QN, Qu, gN, Zb, Zo, Q4, Zi, Zr, Zq, Zm, Xi, Xo, qr, Zw, ZO, Jo, Zc, Y4, VV, Yw, gSb, jR, Yv, Ys, QJ, jC, xa, onI, onL, onD, Jw, Yc, ji, YE, ixG, ZD, YG, zo, YF, qO, asI, jw, VR, QK, Xy, XS, JE, jc, evP, ZR, Ye, JJ, Xm, JM, Yf, Yh, Yb, Zj, QT, Ju, h1, h2, c, qL, Qef, Qbf, yG, xt, hd', hnk, hnk.symm]
theorem VL {i : Nat} {d : DV} (h1 : hp[n]? = some (.ins "Shelf" (shF r k t a b))) (h2 : hp[k]? = some (.lst ps)) (hnk : n ≠ k) (i1 : i < ps.length) :
    Z6 [.ref n, .int i, d] hp = some (.non, (hp.set n (.ins "Shelf" (shF r k t a (b + 1)))).set k (.lst (ps.set i d))) := by
  have c := y3 (i := (i : Int)) h1 h2 (by omega) (by omega)
  simp [Z6, jp, Q1, Qr, QC, QF, Xp, sIf, Q6, qv, YV, qq, qh, Qh, Qb, eC, eB, asB, Jh, eOr, JT, J6, qw, Xj, eIf, XF, Qm, Qc, ZF, JW, Qs, QN, Qu, gN, Zb, Zo, Q4, Zi, Zr, Zq, Zm, Xi, Xo, qr, Zw, ZO, Jo, Zc, Y4, VV, Yw, gSb, jR, Yv, Ys, QJ, jC, xa, onI, onL, onD, Jw, Yc, ji, YE, ixG, ZD, YG, zo, YF, qO, asI, jw, VR, QK, Xy, XS, JE, jc, evP, ZR, Ye, JJ, Xm, JM, Yf, Yh, Yb, Zj, QT, Ju, h1, h2, c, qL, Qal, GQ, yG, xt, hnk, hnk.symm, uF i1]
theorem ki {pg : DV} (h1 : hp[n]? = some (.ins "Shelf" (shF r k t a b))) (h2 : hp[k]? = some (.lst ps)) (hnk : n ≠ k) (hl : ps.length < 99999) :
    J2 [.ref n, pg] hp = some (.int ps.length, (hp.set n (.ins "Shelf" (shF r k t a (b + 1)))).set k (.lst (ps ++ [pg]))) := by
  have hlim : ps.length < lim := by unfold lim; omega
  simp [J2, xW, Q1, Qr, QC, QF, Xp, sIf, Q6, qv, YV, qq, qh, Qh, Qb, eC, eB, asB, Jh, eOr, JT, J6, qw, Xj, eIf, XF, Qm, Qc, ZF, JW, Qs, QN, Qu, gN, Zb, Zo, Q4, Zi, Zr, Zq, Zm, Xi, Xo, qr, Zw, ZO, Jo, Zc, Y4, VV, Yw, gSb, jR, Yv, Ys, QJ, jC, xa, onI, onL, onD, Jw, Yc, ji, YE, ixG, ZD, YG, zo, YF, qO, asI, jw, VR, QK, Xy, XS, JE, jc, evP, ZR, Ye, JJ, Xm, JM, Yf, Yh, Yb, Zj, QT, Ju, h1, h2, qL, Qal, GQ, yG, hlim, hnk, hnk.symm]
end
def Zn (l : Int) (ks ps : List Int) (hi sd : Option Int) : DV := .tup [.int l, .tup (ks.map .int), .tup (ps.map .int), opt hi, opt sd]
def hiB (hi : Option Int) (k : Int) : Bool := match hi with
  | none => false
  | some h => decide (h <= k)
def cLe (ks : List Int) (k : Int) : Nat := (ks.filter fun x => decide (x <= k)).length
def cLt (ks : List Int) (k : Int) : Nat := (ks.filter fun x => decide (x < k)).length
theorem X4 (ks : List Int) (k : Int) : cLe ks k <= ks.length := List.length_filter_le _ _
theorem xT (ks : List Int) (k : Int) : cLt ks k <= ks.length := List.length_filter_le _ _
theorem UM (ks : List Int) (k : Int) (hl : ks.length <= 100) : QW [.tup (ks.map .int), .int k] = pure (.int (cLe ks k)) := by
  refine Yg (XM ?_) <;> try exact []
  have := VI (src := iTp (Qb 0)) (idx := [1]) (t := eB (Qh leD (Qb 0) (Qb 1))) (f := Qb 0) (env := [.val (.tup (ks.map .int)), .val (.int k)]) (ns := ks) (p := fun x => decide (x <= k)) (g := fun x => x) rfl (by omega) (fun _ => rfl) (fun _ => rfl)
  show QN YG (Qc (x8 (iTp (Qb 0)) [1] (eB (Qh leD (Qb 0) (Qb 1))) (Qb 0)) Qm) [.val (.tup (ks.map .int)), .val (.int k)] = _
  simp only [QN, Qc, Qm, this, pure_bind, KS, List.length_map]
  rfl
theorem QcG (ks : List Int) (k : Int) (hl : ks.length <= 100) : JQ [.tup (ks.map .int), .int k] = pure (.int (cLt ks k)) := by
  refine Yg (XM ?_) <;> try exact []
  have := VI (src := iTp (Qb 0)) (idx := [1]) (t := eB (Qh ltD (Qb 0) (Qb 1))) (f := Qb 0) (env := [.val (.tup (ks.map .int)), .val (.int k)]) (ns := ks) (p := fun x => decide (x < k)) (g := fun x => x) rfl (by omega) (fun _ => rfl) (fun _ => rfl)
  show QN YG (Qc (x8 (iTp (Qb 0)) [1] (eB (Qh ltD (Qb 0) (Qb 1))) (Qb 0)) Qm) [.val (.tup (ks.map .int)), .val (.int k)] = _
  simp only [QN, Qc, Qm, this, pure_bind, KS, List.length_map]
  rfl
theorem gm (l : Int) (ks ps : List Int) (hi sd : Option Int) (k : Int) : YJ [Zn l ks ps hi sd, .int k] = pure (.bl (hiB hi k)) := by
  cases hi <;> rfl
theorem QdF (l : Int) (ks ps : List Int) (hi sd : Option Int) (k : Int) (hl : ks.length <= 100) (hp : ps.length = ks.length + 1) : Yx [Zn l ks ps hi sd, .int k] = pure (.int (ps.getD (cLe ks k) 0)) := by
  have h := X4 ks k
  have a := UL ps (i := (cLe ks k : Int)) (by omega) (by omega)
  rw [Int.toNat_natCast] at a
  refine Yg (XM (zS (x := .tup (ps.map .int)) (y := .int (cLe ks k)) rfl (xB (x := .tup (ks.map .int)) (y := .int k) rfl rfl (UM ks k hl)) ?_)) <;> try exact []
  simp [ixD, a]
theorem Qav (l : Int) (ks ps : List Int) (hi sd : Option Int) (k : Int) (hl : ks.length <= 100) (hp : ps.length = ks.length) : Js [Zn l ks ps hi sd, .int k] = pure (if cLt ks k = cLe ks k then .non else .int (ps.getD (cLt ks k) 0)) := by
  have h := X4 ks k
  have hlt := xT ks k
  refine Yg (env := [.val (Zn l ks ps hi sd), .val (.int k), .val (.tup (ks.map .int)), .val (.int (cLt ks k))]) ?_
  refine (Z0 (Jg (d := .tup (ks.map .int)) rfl)).trans ?_
  refine (Z0 (Jg (d := .int (cLt ks k)) (xB (x := .tup (ks.map .int)) (y := .int k) rfl rfl (QcG ks k hl)))).trans ?_
  have tst : eB (Qh eqD (Qb 3) (Qs 2 QW (Qc (Qb 2) (Qc (Qb 1) Qm)))) [.val (Zn l ks ps hi sd), .val (.int k), .val (.tup (ks.map .int)), .val (.int (cLt ks k))] = pure (decide (cLt ks k = cLe ks k)) := by
    refine Qev (zS (x := .int (cLt ks k)) (y := .int (cLe ks k)) rfl (xB (x := .tup (ks.map .int)) (y := .int k) rfl rfl (UM ks k hl)) ?_)
    rw [Zw]
    congr 2
    rw [Bool.eq_iff_iff]; simp only [beq_iff_eq, decide_eq_true_eq]; omega
  by_cases hc : cLt ks k = cLe ks k
  . rw [if_pos hc]
    exact Qb4 ((Qen (tst.trans (by simp [hc]))).trans (XM rfl))
  . rw [if_neg hc]
    refine (Z0 ((QeU (tst.trans (by simp [hc]))).trans rfl)).trans ?_
    have hlt2 : cLt ks k < ks.length := by
      have : cLt ks k <= cLe ks k := by
        unfold cLt cLe
        rw [<- List.countP_eq_length_filter, <- List.countP_eq_length_filter]
        exact List.countP_mono_left fun x _ hx => by simp at hx ⊢; omega
      omega
    have a := UL ps (i := (cLt ks k : Int)) (by omega) (by omega)
    rw [Int.toNat_natCast] at a
    exact XM (zS (x := .tup (ps.map .int)) (y := .int (cLt ks k)) rfl rfl (by simp [ixD, a]))
theorem Qbh {F : List DV -> M DV} {f f' f'' f3 : DEx} {env : En} {x y z u d : DV} (h : f env = pure x) (h' : f' env = pure y) (h'' : f'' env = pure z) (h3 : f3 env = pure u) (hF : F [x, y, z, u] = pure d) : Qs 4 F (Qc f (Qc f' (Qc f'' (Qc f3 Qm)))) env = pure d := by simp [Qs, Qc, Qm, h, h', h'', h3, Qu, hF]
theorem yi (l : Int) (ks ps : List Int) (hi sd : Option Int) (a b : DV) : X5 [Zn l ks ps hi sd, a, b] = pure (.tup [.int l, a, b, opt hi, opt sd]) := rfl
theorem Qfa (ks ns : List Int) (a b : Nat) (h : ks.length <= 1000) (hn : ns.length <= 10) : (do let x <- slD (.tup (ks.map .int)) none (some (a : Int)); let y <- ZG x (.tup (ns.map .int)); let d <- slD (.tup (ks.map .int)) (some (b : Int)) none; ZG y d : M DV) = pure (.tup ((ks.take a ++ ns ++ ks.drop b).map .int)) := by
  rw [VG, Vx]
  simp only [pure_bind, ZG]
  rw [qB (by simp; omega)]
  simp only [Qu, if_true, pure_bind]
  rw [qB (by simp; omega)]
  simp [List.map_take, List.map_drop]
theorem QcL {f g h q : DEx} {env : En} {ks ns : List Int} {a b : Nat} (hf : f env = pure (.tup (ks.map .int))) (hg : g env = pure (.int (a : Int))) (hh : h env = pure (.int (b : Int))) (hq : q env = pure (.tup (ns.map .int))) (hl : ks.length <= 1000) (hn : ns.length <= 10) : Qh ZG (Qh ZG (eSl f Z7 (Z5 g)) q) (eSl f (Z5 h) Z7) env = pure (.tup ((ks.take a ++ ns ++ ks.drop b).map .int)) := by
  have e1 : eSl f Z7 (Z5 g) env = slD (.tup (ks.map .int)) none (some (a : Int)) := by simp only [eSl, hf, hg, Z7, Z5, asI, pure_bind]
  have e2 : eSl f (Z5 h) Z7 env = slD (.tup (ks.map .int)) (some (b : Int)) none := by simp only [eSl, hf, hh, Z7, Z5, asI, pure_bind]
  rw [<- Qfa ks ns a b hl hn]
  simp only [Qh, e1, e2, hq, pure_bind, bind_assoc]
theorem x5 (l : Int) (ks ps nk nw : List Int) (hi sd : Option Int) (k : Int) (hl : ks.length <= 100) (hp : ps.length <= 100) (h1 : nk.length <= 10) (h2 : nw.length <= 10) : X9 [Zn l ks ps hi sd, .int k, .tup (nk.map .int), .tup (nw.map .int)] = pure (Zn l (ks.take (cLt ks k) ++ nk ++ ks.drop (cLe ks k)) (ps.take (cLt ks k) ++ nw ++ ps.drop (cLe ks k)) hi sd) := by
  refine Yg (env := [.val (Zn l ks ps hi sd), .val (.int k), .val (.tup (nk.map .int)), .val (.tup (nw.map .int)), .val (.tup (ks.map .int)), .val (.tup (ps.map .int)), .val (.int (cLt ks k : Int)), .val (.int (cLe ks k : Int))]) ?_
  refine (Z0 (Jg (d := .tup (ks.map .int)) rfl)).trans ?_
  refine (Z0 (Jg (d := .tup (ps.map .int)) rfl)).trans ?_
  refine (Z0 (Jg (d := .int (cLt ks k : Int)) (xB (x := .tup (ks.map .int)) (y := .int k) rfl rfl (QcG ks k hl)))).trans ?_
  refine (Z0 (Jg (d := .int (cLe ks k : Int)) (xB (x := .tup (ks.map .int)) (y := .int k) rfl rfl (UM ks k hl)))).trans ?_
  exact XM (Qbe (x := Zn l ks ps hi sd) rfl (QcL rfl rfl rfl rfl (by omega) h1) (QcL rfl rfl rfl rfl (by omega) h2) (yi l ks ps hi sd _ _))
def G0 (ks : List Int) (c : Nat) (k : Int) : List Int := ks.take c ++ k :: ks.drop c
theorem QdV (ks : List Int) (c : Nat) (k : Int) (h : ks.length <= 1000) : (do let a <- slD (.tup (ks.map .int)) none (some (c : Int)); let b <- ZG a (.tup [.int k]); let d <- slD (.tup (ks.map .int)) (some (c : Int)) none; ZG b d : M DV) = pure (.tup ((G0 ks c k).map .int)) := by
  rw [VG, Vx]
  simp only [pure_bind, ZG]
  rw [qB (by simp; omega)]
  simp only [Qu, if_true, pure_bind]
  rw [qB (by simp; omega)]
  simp [G0, List.map_take, List.map_drop]
theorem vQ {f g h : DEx} {env : En} {ks : List Int} {c : Nat} {k : Int} (hf : f env = pure (.tup (ks.map .int))) (hg : g env = pure (.int (c : Int))) (hk : h env = pure (.int k)) (hl : ks.length <= 1000) : Qh ZG (Qh ZG (eSl f Z7 (Z5 g)) (ZF (Qc h Qm))) (eSl f (Z5 g) Z7) env = pure (.tup ((G0 ks c k).map .int)) := by
  have e1 : eSl f Z7 (Z5 g) env = slD (.tup (ks.map .int)) none (some (c : Int)) := by simp only [eSl, hf, hg, Z7, Z5, asI, pure_bind]
  have e2 : eSl f (Z5 g) Z7 env = slD (.tup (ks.map .int)) (some (c : Int)) none := by simp only [eSl, hf, hg, Z7, Z5, asI, pure_bind]
  have e3 : ZF (Qc h Qm) env = pure (.tup [.int k]) := by
    simp only [ZF, Qc, Qm, hk, pure_bind]; rfl
  rw [<- QdV ks c k hl]
  simp only [Qh, e1, e2, e3, pure_bind, bind_assoc]
theorem gK (l : Int) (ks ps : List Int) (hi sd : Option Int) (k kid : Int) (hl : ks.length <= 100) (hp : ps.length <= 1000) : YL [Zn l ks ps hi sd, .int k, .int kid] = pure (Zn l (G0 ks (cLe ks k) k) (G0 ps (cLe ks k + 1) kid) hi sd) := by
  refine Yg (env := [.val (Zn l ks ps hi sd), .val (.int k), .val (.int kid), .val (.tup (ks.map .int)), .val (.tup (ps.map .int)), .val (.int (cLe ks k : Int)), .val (.int ((cLe ks k : Int) + 1))]) ?_
  refine (Z0 (Jg (d := .tup (ks.map .int)) rfl)).trans ?_
  refine (Z0 (Jg (d := .tup (ps.map .int)) rfl)).trans ?_
  refine (Z0 (Jg (d := .int (cLe ks k : Int)) (xB (x := .tup (ks.map .int)) (y := .int k) rfl rfl (UM ks k hl)))).trans ?_
  refine (Z0 (Jg (d := .int ((cLe ks k : Int) + 1)) rfl)).trans ?_
  refine XM (Qbe (x := Zn l ks ps hi sd) (y := .tup ((G0 ks (cLe ks k) k).map .int)) (z := .tup ((G0 ps (cLe ks k + 1) kid).map .int)) rfl ?_ ?_ (yi l ks ps hi sd _ _))
  . exact vQ rfl rfl rfl (by omega)
  . exact vQ rfl (by show (pure (DV.int ((cLe ks k : Int) + 1)) : M DV) = _; rw [show ((cLe ks k : Int) + 1) = ((cLe ks k + 1 : Nat) : Int) by omega]) rfl hp
def ZE (l : Int) (n : Nat) : Nat := if l = 0 then n / 2 else n / 2 + 1
def kN (l : Int) (ks ps : List Int) (hi sd : Option Int) (num : Int) : DV :=
  .tup [Zn l (ks.take (ks.length / 2)) (ps.take (ZE l ks.length)) (some (ks.getD (ks.length / 2) 0)) (some num), Zn l (ks.drop (ZE l ks.length)) (ps.drop (ZE l ks.length)) hi sd, .int (ks.getD (ks.length / 2) 0)]
theorem gh (l : Int) (ks ps : List Int) (hi sd : Option Int) (num : Int) (h3 : 3 <= ks.length) (hl : ks.length <= 100) : zJ [Zn l ks ps hi sd, .int num] = pure (kN l ks ps hi sd num) := by
  have hm : ((ks.length : Int)) / 2 = ((ks.length / 2 : Nat) : Int) := by omega
  have a := UL ks (i := ((ks.length / 2 : Nat) : Int)) (by omega) (by omega)
  rw [Int.toNat_natCast] at a
  have hcut : (if l = 0 then DV.int ((ks.length / 2 : Nat) : Int) else .int (((ks.length / 2 : Nat) : Int) + 1)) = .int ((ZE l ks.length : Nat) : Int) := by
    unfold ZE
    split <;> simp
  generalize hC : ZE l ks.length = C at hcut
  generalize hK : ks.getD (ks.length / 2) 0 = kk at a
  have e7 : eIf (eB (Qh eqD (Qb 2) (eC (.int 0)))) (Qb 5) (Qh ZG (Qb 5) (eC (.int 1))) [.val (Zn l ks ps hi sd), .val (.int num), .val (.int l), .val (.tup (ks.map .int)), .val (.tup (ps.map .int)), .val (.int ((ks.length / 2 : Nat) : Int)), .val (.int kk), .un, .un, .un] = pure (.int (C : Int)) := by
    rw [<- hcut]
    by_cases q : l = 0
    . simp [eIf, eB, Qh, Qb, eC, Zw, asB, q]
    . have : (l == 0) = false := by simpa using q
      simp [eIf, eB, Qh, Qb, eC, Zw, asB, q, this, Zb]
  unfold kN
  rw [hC, hK]
  refine Yg (env := [.val (Zn l ks ps hi sd), .val (.int num), .val (.int l), .val (.tup (ks.map .int)), .val (.tup (ps.map .int)), .val (.int ((ks.length / 2 : Nat) : Int)), .val (.int kk), .val (.int (C : Int)), .val (Zn l (ks.take (ks.length / 2)) (ps.take C) (some kk) (some num)), .val (Zn l (ks.drop C) (ps.drop C) hi sd)]) ?_
  refine (Z0 (Jg (d := .int l) rfl)).trans ?_
  refine (Z0 (Jg (d := .tup (ks.map .int)) rfl)).trans ?_
  refine (Z0 (Jg (d := .tup (ps.map .int)) rfl)).trans ?_
  refine (Z0 (Jg (d := .int ((ks.length / 2 : Nat) : Int)) ?_)).trans ?_
  . refine zS (x := .int (ks.length : Int)) (y := .int 2) ?_ rfl ((KM _ 2 (by decide) (by decide)).trans (by rw [hm]))
    show (pure (DV.int ((ks.map DV.int).length : Int)) : M DV) = _
    rw [List.length_map]
  refine (Z0 (Jg (d := .int kk) (zS (x := .tup (ks.map .int)) (y := .int ((ks.length / 2 : Nat) : Int)) rfl rfl (Qbq a)))).trans ?_
  refine (Z0 (Jg (d := .int (C : Int)) e7)).trans ?_
  refine (Z0 (Jg (d := Zn l (ks.take (ks.length / 2)) (ps.take C) (some kk) (some num)) ?_)).trans ?_
  . have t1 := K7 (f := Qb 3) (g := Qb 5) (env := [.val (Zn l ks ps hi sd), .val (.int num), .val (.int l), .val (.tup (ks.map .int)), .val (.tup (ps.map .int)), .val (.int ((ks.length / 2 : Nat) : Int)), .val (.int kk), .val (.int (C : Int)), .un, .un]) (ds := ks.map .int) (m := ks.length / 2) rfl rfl
    have t2 := K7 (f := Qb 4) (g := Qb 7) (env := [.val (Zn l ks ps hi sd), .val (.int num), .val (.int l), .val (.tup (ks.map .int)), .val (.tup (ps.map .int)), .val (.int ((ks.length / 2 : Nat) : Int)), .val (.int kk), .val (.int (C : Int)), .un, .un]) (ds := ps.map .int) (m := C) rfl rfl
    simp only [List.set_cons_succ, List.set_cons_zero, List.map_cons, List.map_nil, List.length_cons, List.length_nil, List.cons_append, List.nil_append, List.replicate, ZF, Qc, Qm, t1, t2, pure_bind]
    simp only [Zn, List.map_take, opt]
    rfl
  refine (Z0 (Jg (d := Zn l (ks.drop C) (ps.drop C) hi sd) ?_)).trans ?_
  . have t1 := KU (f := Qb 3) (g := Qb 7) (env := [.val (Zn l ks ps hi sd), .val (.int num), .val (.int l), .val (.tup (ks.map .int)), .val (.tup (ps.map .int)), .val (.int ((ks.length / 2 : Nat) : Int)), .val (.int kk), .val (.int (C : Int)), .val (Zn l (ks.take (ks.length / 2)) (ps.take C) (some kk) (some num)), .un]) (ds := ks.map .int) (m := C) rfl rfl
    have t2 := KU (f := Qb 4) (g := Qb 7) (env := [.val (Zn l ks ps hi sd), .val (.int num), .val (.int l), .val (.tup (ks.map .int)), .val (.tup (ps.map .int)), .val (.int ((ks.length / 2 : Nat) : Int)), .val (.int kk), .val (.int (C : Int)), .val (Zn l (ks.take (ks.length / 2)) (ps.take C) (some kk) (some num)), .un]) (ds := ps.map .int) (m := C) rfl rfl
    simp only [List.set_cons_succ, List.set_cons_zero, List.map_cons, List.map_nil, List.length_cons, List.length_nil, List.cons_append, List.nil_append, List.replicate, ZF, Qc, Qm, t1, t2, pure_bind]
    simp only [Zn, List.map_drop]
    rfl
  exact XM rfl
theorem XW (p : TR.Pg) : pgD p = Zn p.lv p.ks p.ps p.hi (p.sd.map fun n => (n : Int)) := by
  unfold pgD Zn; cases p.sd <;> rfl
theorem gD (p : TR.Pg) (k : Int) : YJ [pgD p, .int k] = pure (.bl (TR.Yi p k)) := by
  rw [XW, gm]
  unfold hiB TR.Yi
  cases p.hi <;> rfl
theorem Qd2 (p : TR.Pg) (k c : Int) (hl : p.ks.length <= 100) (hp : p.ps.length = p.ks.length + 1) (hc : p.ps[TR.cLe p.ks k]? = some c) : Yx [pgD p, .int k] = pure (.int c) := by
  rw [XW, QdF _ _ _ _ _ _ hl hp]
  rw [List.getD_eq_getElem?_getD, show p.ps[cLe p.ks k]? = some c from hc]; rfl
theorem Qaa (p : TR.Pg) (k : Int) (hl : p.ks.length <= 100) (hp : p.ps.length = p.ks.length) : Js [pgD p, .int k] = pure (opt (TR.Q0 p k)) := by
  rw [XW, Qav _ _ _ _ _ _ hl hp]
  unfold TR.Q0
  by_cases h : cLt p.ks k = cLe p.ks k
  . rw [if_pos h, if_pos (show TR.cLt p.ks k = TR.cLe p.ks k from h)]; rfl
  . rw [if_neg h, if_neg (show ¬ TR.cLt p.ks k = TR.cLe p.ks k from h)]
    have h1 := TR.UJ p.ks k
    have h2 := TR.X4 p.ks k
    have h3 : ¬ TR.cLt p.ks k = TR.cLe p.ks k := h
    rw [List.getD_eq_getElem?_getD, show p.ps[cLt p.ks k]? = some (p.ps[TR.cLt p.ks k]'(by omega)) from List.getElem?_eq_getElem _, List.getElem?_eq_getElem (show TR.cLt p.ks k < p.ps.length by omega)]; rfl
theorem QbG (p : TR.Pg) (k x : Int) (hl : p.ks.length <= 100) (hp : p.ps.length <= 100) : Y8 [pgD p, .int k, .int x] = pure (pgD (TR.Q2 p k x)) := by
  have e := x5 p.lv p.ks p.ps [k] [x] p.hi (p.sd.map fun n => (n : Int)) k hl hp (by simp) (by simp)
  rw [XW, XW]
  refine Yg (env := [.val (Zn p.lv p.ks p.ps p.hi (p.sd.map fun n => (n : Int))), .val (.int k), .val (.int x)]) (XM (Qbh rfl rfl rfl rfl (e.trans ?_)))
  simp [TR.Q2, TR.cLt, TR.cLe, cLt, cLe]
theorem vC (p : TR.Pg) (k : Int) (hl : p.ks.length <= 100) (hp : p.ps.length <= 100) : zQ [pgD p, .int k] = pure (pgD (TR.without p k)) := by
  have e := x5 p.lv p.ks p.ps [] [] p.hi (p.sd.map fun n => (n : Int)) k hl hp (by simp) (by simp)
  rw [XW, XW]
  refine Yg (env := [.val (Zn p.lv p.ks p.ps p.hi (p.sd.map fun n => (n : Int))), .val (.int k)]) (XM (Qbh rfl rfl rfl rfl (e.trans ?_)))
  simp [TR.without, TR.cLt, TR.cLe, cLt, cLe]
theorem GT (p : TR.Pg) (k : Int) (c : Nat) (hl : p.ks.length <= 100) (hp : p.ps.length <= 1000) : YL [pgD p, .int k, .int c] = pure (pgD (TR.ZY p k c)) := by
  rw [XW, gK _ _ _ _ _ _ _ hl hp, XW]; rfl
theorem QbS (p : TR.Pg) (room : Nat) : XU [pgD p, .int room] = pure (.bl (decide (room < p.ks.length))) := by
  have e : (decide ((room : Int) < ((p.ks.map DV.int).length : Int))) = decide (room < p.ks.length) := by
    rw [List.length_map]; congr 1; rw [eq_iff_iff]; omega
  refine Yg (env := [.val (pgD p), .val (.int room)]) (XM (zS (x := .int ((p.ks.map DV.int).length : Int)) (y := .int room) rfl rfl ((Q4 _ _).trans ?_)))
  rw [<- e]
theorem gb (p : TR.Pg) (n : Nat) (h3 : 3 <= p.ks.length) (hl : p.ks.length <= 100) : zJ [pgD p, .int n] = pure (.tup [pgD (TR.Zk p n), pgD (TR.Q3 p), .int (TR.Xs p)]) := by
  rw [XW, gh _ _ _ _ _ _ h3 hl]
  unfold kN
  rw [XW, XW]
  have hc : ZE p.lv p.ks.length = TR.ZE p := by
    unfold ZE TR.ZE TR.mid
    by_cases h : p.lv = 0
    . simp [h]
    . rw [if_neg h, if_neg (by omega)]
  rw [hc]; rfl
structure At (hp : Hs) (n k a f q : Nat) (S : TR.Sh) (w : TR.Wk) : Prop where
  h1 : hp[n]? = some (.ins "Shelf" (shF S.room k S.top S.rd S.wr))
  h2 : hp[k]? = some (.lst (S.pg.map pgD))
  h3 : hp[a]? = some (wkO n f q w)
  h4 : hp[f]? = some (.dic (fkD w.forks))
  h5 : hp[q]? = some (.lst (prD w.pairs))
structure Dif (n k a f q : Nat) : Prop where
  nk : n ≠ k
  na : n ≠ a
  nf : n ≠ f
  nq : n ≠ q
  ka : k ≠ a
  kf : k ≠ f
  kq : k ≠ q
  af : a ≠ f
  aq : a ≠ q
  fq : f ≠ q
def Fr (hp hp' : Hs) (n k a f q : Nat) : Prop := hp.length <= hp'.length /\ ∀ i, i < hp.length -> i ≠ n -> i ≠ k -> i ≠ a -> i ≠ f -> i ≠ q -> hp'[i]? = hp[i]?
section
variable {hp hp' hp2 : Hs} {n k a f q : Nat} {S S' : TR.Sh} {w w' : TR.Wk}
theorem Fr.refl : Fr hp hp n k a f q := ⟨Nat.le_refl _, fun _ _ _ _ _ _ _ => rfl⟩
theorem Fr.trans (x : Fr hp hp' n k a f q) (y : Fr hp' hp2 n k a f q) : Fr hp hp2 n k a f q := ⟨Nat.le_trans x.1 y.1, fun i hi a1 a2 a3 a4 a5 => (y.2 i (Nat.lt_of_lt_of_le hi x.1) a1 a2 a3 a4 a5).trans (x.2 i hi a1 a2 a3 a4 a5)⟩
theorem gs {n m : Nat} {X : OV} {Y : Option OV} (h : n ≠ m) (h' : hp[m]? = Y) : (hp.set n X)[m]? = Y := (QT _ _ _ _ h).trans h'
theorem gss {n : Nat} {X Y : OV} (h' : hp[n]? = some Y) : (hp.set n X)[n]? = some X := Zj _ _ _ (by rw [h']; rfl)
theorem At.walk (A : At hp n k a f q S w) (D : Dif n k a f q) (w' : TR.Wk) (e1 : w'.forks = w.forks) (e2 : w'.pairs = w.pairs) : At (hp.set a (wkO n f q w')) n k a f q S w' /\ Fr hp (hp.set a (wkO n f q w')) n k a f q :=
  ⟨⟨gs D.na.symm A.h1, gs D.ka.symm A.h2, gss A.h3, gs D.af (by rw [e1]; exact A.h4), gs D.aq (by rw [e2]; exact A.h5)⟩, by simp, fun i hi a1 a2 a3 a4 a5 => QT _ _ _ _ (Ne.symm a3)⟩
theorem At.shelf (A : At hp n k a f q S w) (D : Dif n k a f q) (S' : TR.Sh) (e : S'.room = S.room) : At ((hp.set n (.ins "Shelf" (shF S.room k S'.top S'.rd S'.wr))).set k (.lst (S'.pg.map pgD))) n k a f q S' w /\ Fr hp ((hp.set n (.ins "Shelf" (shF S.room k S'.top S'.rd S'.wr))).set k (.lst (S'.pg.map pgD))) n k a f q :=
  ⟨⟨gs D.nk.symm (by rw [e]; exact gss A.h1), gss (gs D.nk A.h2), gs D.ka (gs D.na A.h3), gs D.kf (gs D.nf A.h4), gs D.kq (gs D.nq A.h5)⟩, by simp, fun i hi a1 a2 a3 a4 a5 => (QT _ _ _ _ (Ne.symm a2)).trans (QT _ _ _ _ (Ne.symm a1))⟩
theorem At.count (A : At hp n k a f q S w) (D : Dif n k a f q) (S' : TR.Sh) (e : S'.room = S.room) (e2 : S'.pg = S.pg) : At (hp.set n (.ins "Shelf" (shF S.room k S'.top S'.rd S'.wr))) n k a f q S' w /\ Fr hp (hp.set n (.ins "Shelf" (shF S.room k S'.top S'.rd S'.wr))) n k a f q :=
  ⟨⟨by rw [e]; exact gss A.h1, gs D.nk (by rw [e2]; exact A.h2), gs D.na A.h3, gs D.nf A.h4, gs D.nq A.h5⟩, by simp, fun i hi a1 a2 a3 a4 a5 => QT _ _ _ _ (Ne.symm a1)⟩
theorem At.fork (A : At hp n k a f q S w) (D : Dif n k a f q) (w' : TR.Wk) (h : wkO n f q w' = wkO n f q w) (e : w'.pairs = w.pairs) : At (hp.set f (.dic (fkD w'.forks))) n k a f q S w' /\ Fr hp (hp.set f (.dic (fkD w'.forks))) n k a f q :=
  ⟨⟨gs D.nf.symm A.h1, gs D.kf.symm A.h2, gs D.af.symm (by rw [h]; exact A.h3), gss A.h4, gs D.fq (by rw [e]; exact A.h5)⟩, by simp, fun i hi a1 a2 a3 a4 a5 => QT _ _ _ _ (Ne.symm a4)⟩
theorem At.pair (A : At hp n k a f q S w) (D : Dif n k a f q) (w' : TR.Wk) (h : wkO n f q w' = wkO n f q w) (e : w'.forks = w.forks) : At (hp.set q (.lst (prD w'.pairs))) n k a f q S w' /\ Fr hp (hp.set q (.lst (prD w'.pairs))) n k a f q :=
  ⟨⟨gs D.nq.symm A.h1, gs D.kq.symm A.h2, gs D.aq.symm (by rw [h]; exact A.h3), gs D.fq.symm (by rw [e]; exact A.h4), gss A.h5⟩, by simp, fun i hi a1 a2 a3 a4 a5 => QT _ _ _ _ (Ne.symm a5)⟩
theorem At.more (A : At hp n k a f q S w) (x : OV) : At (hp ++ [x]) n k a f q S w /\ Fr hp (hp ++ [x]) n k a f q := by
  have ap : ∀ {i : Nat} {y : OV}, hp[i]? = some y -> (hp ++ [x])[i]? = some y := fun {i y} h => by rw [List.getElem?_append_left (List.getElem?_eq_some_iff.mp h).1]; exact h
  exact ⟨⟨ap A.h1, ap A.h2, ap A.h3, ap A.h4, ap A.h5⟩, by simp, fun i hi _ _ _ _ _ => List.getElem?_append_left hi⟩
theorem uq (ps : List TR.Pg) (p : TR.Pg) : ps.map pgD ++ [pgD p] = (ps ++ [p]).map pgD := by simp
theorem map_set (ps : List TR.Pg) (i : Nat) (p : TR.Pg) : (ps.map pgD).set i (pgD p) = (ps.set i p).map pgD := by rw [List.map_set]
theorem XI (A : At hp n k a f q S w) {env : En} (h : env[0]? = some (.val (.ref a))) : QJ "Walk" "shelf" (Qb 0) env hp = some (.ref n, hp) := Za (Qe h) A.h3 (u0 ..)
theorem Uw (A : At hp n k a f q S w) (D : Dif n k a f q) {i : Nat} (hi : i < S.pg.length) (P : TR.Pg) (h3 : S.room < P.ks.length -> 3 <= P.ks.length) (hP : P.ks.length <= 100) (hl : S.pg.length < 90000) :
    ∃ hp', JL [.ref a, .int i, pgD P] hp = some (oN (TR.Zf S w i P).1, hp') /\ At hp' n k a f q (TR.Zf S w i P).2.1 (TR.Zf S w i P).2.2 /\ Fr hp hp' n k a f q := by
  have t0 : Qs 2 XU (Qc (Qb 2) (Qc (QK "Shelf" "room" 1 Zz (QJ "Walk" "shelf" (Qb 0)) Qm) Qm)) [.val (.ref a), .val (.int i), .val (pgD P), .un] hp = some (.bl (decide (S.room < P.ks.length)), hp) :=
    Zl (J5 (Qe rfl) (Q9 (XI A rfl) A.h1 (K1 ..) qI rfl (uJ A.h1))) rfl (Xl (QbS P S.room) hp)
  unfold TR.Zf
  by_cases hr : P.ks.length <= S.room
  . rw [if_pos hr]
    have hd : decide (S.room < P.ks.length) = false := decide_eq_false (by omega)
    rw [hd] at t0
    have t1 : JT (eB (Qs 2 XU (Qc (Qb 2) (Qc (QK "Shelf" "room" 1 Zz (QJ "Walk" "shelf" (Qb 0)) Qm) Qm)))) [.val (.ref a), .val (.int i), .val (pgD P), .un] hp = some (true, hp) := zd (b := false) (QU t0)
    have wr := VL (d := pgD P) (i := i) A.h1 A.h2 D.nk (by simpa using hi)
    rw [map_set] at wr
    obtain ⟨A1, F1⟩ := A.shelf D { S with pg := S.pg.set i P, wr := S.wr + 1 } rfl
    obtain ⟨A2, F2⟩ := A1.walk D { w with ended := true } rfl rfl
    refine ⟨_, ?_, A2, F1.trans F2⟩
    refine QY (env := [.val (.ref a), .val (.int i), .val (pgD P), .un]) (ZQ ((JV t1).trans ?_))
    refine (Qo (XR (Q9 (XI A rfl) A.h1 (zx ..) (J5 (Qe rfl) (Qe rfl)) rfl wr))).trans ?_
    exact (Qo (JF (v := .bl true) rfl (Qe rfl) A1.h3 wl)).trans (Q7 (d := .non) rfl)
  . rw [if_neg hr]
    have hd : decide (S.room < P.ks.length) = true := decide_eq_true (by omega)
    rw [hd] at t0
    have t1 : JT (eB (Qs 2 XU (Qc (Qb 2) (Qc (QK "Shelf" "room" 1 Zz (QJ "Walk" "shelf" (Qb 0)) Qm) Qm)))) [.val (.ref a), .val (.int i), .val (pgD P), .un] hp = some (false, hp) := zd (b := true) (QU t0)
    have pl : (S.pg.map pgD).length = S.pg.length := by simp
    have pe := gb P S.pg.length (h3 (by omega)) hP
    have ly := ki (pg := pgD (TR.Q3 P)) A.h1 A.h2 D.nk (by rw [pl]; omega)
    rw [pl, uq] at ly
    obtain ⟨A1, F1⟩ := A.shelf D { S with pg := S.pg ++ [TR.Q3 P], wr := S.wr + 1 } rfl
    obtain ⟨A2, F2⟩ := A1.walk D { w with newp := some S.pg.length } rfl rfl
    have wr := VL (d := pgD (TR.Zk P S.pg.length)) (i := i) A2.h1 A2.h2 D.nk (by simp; omega)
    rw [map_set] at wr
    obtain ⟨A3, F3⟩ := A2.shelf D { S with pg := (S.pg ++ [TR.Q3 P]).set i (TR.Zk P S.pg.length), wr := S.wr + 1 + 1 } rfl
    obtain ⟨A4, F4⟩ := A3.walk D { w with newp := some S.pg.length, aim := TR.Xs P } rfl rfl
    obtain ⟨A5, F5⟩ := A4.walk D { w with newp := some S.pg.length, aim := TR.Xs P, goal := P.lv + 1 } rfl rfl
    obtain ⟨A6, F6⟩ := A5.walk D { w with newp := some S.pg.length, aim := TR.Xs P, goal := P.lv + 1, place := TR.X7 w.forks (P.lv + 1) } rfl rfl
    refine ⟨_, ?_, A6, F1.trans (F2.trans (F3.trans (F4.trans (F5.trans F6))))⟩
    refine QY (env := [.val (.ref a), .val (.int i), .val (pgD P), .val (.tup [pgD (TR.Zk P S.pg.length), pgD (TR.Q3 P), .int (TR.Xs P)])]) ?_
    refine (Qo ((Zg t1).trans Zh)).trans ?_
    have pg := K6 A.h1 A.h2
    rw [pl] at pg
    refine (Qo (QP (Zl (J5 (Qe rfl) (Q9 (XI A rfl) A.h1 (x6 ..) qI rfl pg)) rfl (Xl pe hp)))).trans ?_
    refine (Qo (JF (Q9 (XI A rfl) A.h1 (Uv ..) (ZS (Ql (Qe rfl) rfl (Xh (i := 1) rfl _))) rfl ly) (Qe rfl) A1.h3 wl)).trans ?_
    refine (Qo (XR (Q9 (XI A2 rfl) A2.h1 (zx ..) (J5 (Qe rfl) (Ql (Qe rfl) rfl (Xh (i := 0) rfl _))) rfl wr))).trans ?_
    refine (Qo (JF (Ql (Qe rfl) rfl (Xh (i := 2) rfl _)) (Qe rfl) A3.h3 wl)).trans ?_
    refine (Qo (JF (v := .int ((P.lv + 1 : Nat) : Int)) (Ql (Ql (Qe rfl) rfl (xE P _)) rfl rfl) (Qe rfl) A4.h3 wl)).trans ?_
    have dg : Yv "dict" YE (QJ "Walk" "forks" (Qb 0)) (Qc (QJ "Walk" "goal" (Qb 0)) Qm) [.val (.ref a), .val (.int i), .val (pgD P), .val (.tup [pgD (TR.Zk P S.pg.length), pgD (TR.Q3 P), .int (TR.Xs P)])] _ = some (oN (TR.X7 w.forks (P.lv + 1)), _) :=
      Qbu (Za (Qe rfl) A5.h3 (Up ..)) A5.h4 (ZS (Za (Qe rfl) A5.h3 (GI ..)))
    refine (Qo (JF dg (Qe rfl) A5.h3 wl)).trans ?_
    exact Q7 (Za (Qe rfl) A6.h3 (UX ..))
end
theorem kC (x : DV) (xs : List DV) : atI (x :: xs) 0 = some x := YX (j := 0) rfl
theorem V1 {r a b : Int} {n k : Nat} {ps : List DV} {hp : Hs} {t i : Nat} {key : Int} {l : Int} {ks qs : List Int} {hi sd : Option Int} (h1 : hp[n]? = some (.ins "Shelf" (shF r k t a b))) (h2 : hp[k]? = some (.lst ps)) (hnk : n ≠ k) (hi1 : i < ps.length) (ht : ps[t]? = some (Zn l ks qs hi sd)) (hl : ps.length < 99999) :
    ZM [.ref n, .int key, .int i] hp = some (.int ps.length, (hp.set n (.ins "Shelf" (shF r k ps.length a (b + 1)))).set k (.lst (ps ++ [Zn (l + 1) [key] [(t : Int), (i : Int)] none none]))) := by
  have c := y3 (i := (i : Int)) h1 h2 (by omega) (by omega)
  have ht' : atI ps (t : Int) = some (.tup [.int l, .tup (ks.map .int), .tup (qs.map .int), opt hi, opt sd]) := YX ht
  have y := ki (pg := Zn (l + 1) [key] [(t : Int), (i : Int)] none none) h1 h2 hnk hl
  have pd : DV.tup [.int (l + 1), .tup [.int key], .tup [.int (t : Int), .int (i : Int)], .non, .non] = Zn (l + 1) [key] [(t : Int), (i : Int)] none none := rfl
  have g1 : ((hp.set n (.ins "Shelf" (shF r k t a (b + 1)))).set k (.lst (ps ++ [Zn (l + 1) [key] [(t : Int), (i : Int)] none none])))[n]? = some (.ins "Shelf" (shF r k t a (b + 1))) := by
    rw [QT _ _ _ _ hnk.symm]; exact Zj _ _ _ (by rw [h1]; rfl)
  have g2 : ∀ X Y Z : OV, ((hp.set n X).set k Y).set n Z = (hp.set n Z).set k Y := fun X Y Z => by
    rw [List.set_comm _ _ hnk, List.set_set, List.set_comm _ _ hnk.symm, List.set_comm _ _ hnk]
  have g3 : ((hp.set n (.ins "Shelf" (shF r k ps.length a (b + 1)))).set k (.lst (ps ++ [Zn (l + 1) [key] [(t : Int), (i : Int)] none none])))[n]? = some (.ins "Shelf" (shF r k ps.length a (b + 1))) := by
    rw [QT _ _ _ _ hnk.symm]; exact Zj _ _ _ (by rw [h1]; rfl)
  simp [ZM, YS, Q1, Qr, QC, QF, Xp, sIf, Q6, qv, YV, qq, qh, Qh, Qb, eC, eB, asB, Jh, eOr, JT, J6, qw, Xj, eIf, XF, Qm, Qc, ZF, JW, Qs, QN, Qu, gN, Zb, Zo, Q4, Zi, Zr, Zq, Zm, Xi, Xo, qr, Zw, ZO, Jo, Zc, Y4, VV, Yw, gSb, jR, Yv, Ys, QJ, jC, xa, onI, onL, onD, Jw, Yc, ji, YE, ixG, ZD, YG, zo, YF, qO, asI, jw, VR, QK, Xy, XS, JE, jc, evP, ZR, Ye, JJ, Xm, JM, Yf, Yh, Yb, Zj, QT, Ju, Xu, lim, ixD, h1, h2, c, qL, uB, Qay, yG, xt, Uv, ht', kC, pd, y, g1, g2, g3]
theorem kX {hp : Hs} {n k a f q : Nat} {S : TR.Sh} {w : TR.Wk} (A : At hp n k a f q S w) (D : Dif n k a f q) {c : Nat} {r : TR.Pg} {key : Int} (hc : c < S.pg.length) (hr : S.pg[S.top]? = some r) (hl : S.pg.length < 90000) :
    ZM [.ref n, .int key, .int c] hp = some (.int S.pg.length, (hp.set n (.ins "Shelf" (shF S.room k S.pg.length S.rd (S.wr + 1)))).set k (.lst ((S.pg ++ [(⟨r.lv + 1, [key], [(S.top : Int), (c : Int)], none, none⟩ : TR.Pg)]).map pgD))) := by
  have ht : (S.pg.map pgD)[S.top]? = some (Zn r.lv r.ks r.ps r.hi (r.sd.map fun n => (n : Int))) := by rw [List.getElem?_map, hr, Option.map_some, XW]
  have e := V1 (key := key) A.h1 A.h2 D.nk (i := c) (by simpa using hc) ht (by simp; omega)
  rw [e, List.length_map]
  rw [show Zn ((r.lv : Int) + 1) [key] [(S.top : Int), (c : Int)] none none = pgD ⟨r.lv + 1, [key], [(S.top : Int), (c : Int)], none, none⟩ from rfl, uq]
theorem UR (S : TR.Sh) (w : TR.Wk) (i : Nat) (P : TR.Pg) : (TR.Zf S w i P).2.2.worth = w.worth := by
  unfold TR.Zf; split <;> rfl
section
variable {hp : Hs} {n k a f q : Nat} {S : TR.Sh} {w : TR.Wk} {i : Nat} {p : TR.Pg}
theorem KG (A : At hp n k a f q S w) (D : Dif n k a f q) (word : Str) (t : Option Nat) : ∃ hp', JD [.ref a, .str word, .int i, oN t] hp = some (.tup [.str word, .int i, oN t], hp') /\ At hp' n k a f q S { w with place := t } /\ Fr hp hp' n k a f q := by
  obtain ⟨A1, F1⟩ := A.walk D { w with place := t } rfl rfl
  refine ⟨_, ?_, A1, F1⟩
  refine QY (env := [.val (.ref a), .val (.str word), .val (.int i), .val (oN t)]) ?_
  exact (Qo (JF (Qe rfl) (Qe rfl) A.h3 wl)).trans (Q7 (qo (Xk (Qe rfl) (Qe rfl) (Qe rfl)) (by simp)))
theorem V3 (A : At hp n k a f q S w) (D : Dif n k a f q) {c : Nat} {r : TR.Pg} (hw : w.newp = some c) (hc : c < S.pg.length) (hr : S.pg[S.top]? = some r) (hl : S.pg.length < 90000) : ∃ hp', ZB [.ref a, .int i] hp = some (.tup [.str "raised", .int i, .int S.pg.length], hp') /\ At hp' n k a f q { S with pg := S.pg ++ [⟨r.lv + 1, [w.aim], [(S.top : Int), (c : Int)], none, none⟩], top := S.pg.length, wr := S.wr + 1 } { w with ended := true } /\ Fr hp hp' n k a f q := by
  obtain ⟨A1, F1⟩ := A.walk D { w with ended := true } rfl rfl
  have e := kX (key := w.aim) A1 D hc hr hl
  obtain ⟨A2, F2⟩ := A1.shelf D { S with pg := S.pg ++ [⟨r.lv + 1, [w.aim], [(S.top : Int), (c : Int)], none, none⟩], top := S.pg.length, wr := S.wr + 1 } rfl
  refine ⟨_, ?_, A2, F1.trans F2⟩
  refine QY (env := [.val (.ref a), .val (.int i)]) ?_
  refine (Qo (JF (v := .bl true) rfl (Qe rfl) A.h3 wl)).trans ?_
  refine Q7 (qo (Xk rfl (Qe rfl) (Q9 (XI A1 rfl) A1.h1 (KP ..) (J5 (Za (Qe rfl) A1.h3 (YY ..)) (Za (d := .int c) (Qe rfl) A1.h3 ((UX ..).trans (by show some (oN w.newp) = _; rw [hw]; rfl)))) rfl e)) (by simp))
theorem yM (A : At hp n k a f q S w) (D : Dif n k a f q) {env : En} (e0 : env[0]? = some (.val (.ref a))) (e2 : env[2]? = some (.val (pgD p))) (h1 : p.ks.length <= 100) (h2 : p.ps.length = p.ks.length) :
    ∃ hp', Zc "Walk" "worth" (Qb 0) (Qs 2 Js (Qc (Qb 2) (Qc (QJ "Walk" "aim" (Qb 0)) Qm))) env hp = some ((.nx, env), hp') /\ At hp' n k a f q S { w with worth := TR.Q0 p w.aim } /\ Fr hp hp' n k a f q := by
  obtain ⟨A1, F1⟩ := A.walk D { w with worth := TR.Q0 p w.aim } rfl rfl
  exact ⟨_, JF (Zl (J5 (Qe e2) (Za (Qe e0) A.h3 (YY ..))) rfl (Xl (Qaa p w.aim h1 h2) hp)) (Qe e0) A.h3 wl, A1, F1⟩
theorem QbL (A : At hp n k a f q S w) (D : Dif n k a f q) (h1 : p.ks.length <= 100) (h2 : p.ps.length = p.ks.length) :
    ∃ hp', J0 [.ref a, .int i, pgD p] hp = some (.tup [.str "found", .int i, opt (TR.Q0 p w.aim)], hp') /\ At hp' n k a f q S { w with worth := TR.Q0 p w.aim, ended := true } /\ Fr hp hp' n k a f q := by
  obtain ⟨hp1, e1, A1, F1⟩ := yM (env := [.val (.ref a), .val (.int i), .val (pgD p)]) A D rfl rfl h1 h2
  obtain ⟨A2, F2⟩ := A1.walk D { w with worth := TR.Q0 p w.aim, ended := true } rfl rfl
  refine ⟨_, ?_, A2, F1.trans F2⟩
  refine QY (env := [.val (.ref a), .val (.int i), .val (pgD p)]) ?_
  refine (Qo e1).trans ((Qo (JF (v := .bl true) rfl (Qe rfl) A1.h3 wl)).trans ?_)
  exact Q7 (qo (Xk rfl (Qe rfl) (Za (Qe rfl) A2.h3 (qD ..))) (by simp))
theorem Qc7 (A : At hp n k a f q S w) (D : Dif n k a f q) (hi : i < S.pg.length) {x y : Int} (hd : w.deed = .put y x) (h1 : p.ks.length <= 90) (h2 : p.ps.length = p.ks.length) (h3 : S.room < (TR.Q2 p w.aim x).ks.length -> 3 <= (TR.Q2 p w.aim x).ks.length) (h4 : (TR.Q2 p w.aim x).ks.length <= 100) (hl : S.pg.length < 90000) :
    ∃ hp', Xr [.ref a, .int i, pgD p] hp = some (.tup [.str "put", .int i, opt (TR.Q0 p w.aim), oN (TR.Zf S { w with worth := TR.Q0 p w.aim } i (TR.Q2 p w.aim x)).1], hp') /\ At hp' n k a f q (TR.Zf S { w with worth := TR.Q0 p w.aim } i (TR.Q2 p w.aim x)).2.1 (TR.Zf S { w with worth := TR.Q0 p w.aim } i (TR.Q2 p w.aim x)).2.2 /\ Fr hp hp' n k a f q := by
  obtain ⟨hp1, e1, A1, F1⟩ := yM (env := [.val (.ref a), .val (.int i), .val (pgD p), .un]) A D rfl rfl (by omega) h2
  obtain ⟨hp2, e2, A2, F2⟩ := Uw A1 D hi (TR.Q2 p w.aim x) h3 h4 hl
  refine ⟨hp2, ?_, A2, F1.trans F2⟩
  refine QY (env := [.val (.ref a), .val (.int i), .val (pgD p), .val (oN (TR.Zf S { w with worth := TR.Q0 p w.aim } i (TR.Q2 p w.aim x)).1)]) ?_
  refine (Qo e1).trans ?_
  have dx : ixG (ZZ w.deed) (.int 2) hp1 = some (.int x, hp1) := by rw [hd]; exact Xh (i := 2) rfl hp1
  refine (Qo (QP (Q9 (Qe rfl) A1.h3 (QaS ..) (J5 (Qe rfl) (Zl (Xk (Qe rfl) (Za (Qe rfl) A1.h3 (YY ..)) (Ql (Za (Qe rfl) A1.h3 (xo ..)) rfl dx)) rfl (Xl (QbG p w.aim x (by omega) (by omega)) hp1))) rfl e2))).trans ?_
  refine Q7 (qo (kR rfl (Qe rfl) (Za (Qe rfl) A2.h3 ((qD ..).trans ?_)) (Qe rfl)) (by simp))
  rw [UR]
theorem Qdd (A : At hp n k a f q S w) (D : Dif n k a f q) (hi : i < S.pg.length) (h1 : p.ks.length <= 100) (h2 : p.ps.length = p.ks.length) :
    ∃ hp', XL [.ref a, .int i, pgD p] hp = some (.tup [.str "cut", .int i, opt (TR.Q0 p w.aim)], hp') /\ At hp' n k a f q (if (TR.Q0 p w.aim).isSome = true then { S with pg := S.pg.set i (TR.without p w.aim), wr := S.wr + 1 } else S) { w with worth := TR.Q0 p w.aim, ended := true } /\ Fr hp hp' n k a f q := by
  obtain ⟨hp1, e1, A1, F1⟩ := yM (env := [.val (.ref a), .val (.int i), .val (pgD p)]) A D rfl rfl h1 h2
  have t : ∀ b : Bool, (TR.Q0 p w.aim).isSome = b -> eB (Qh xr (QJ "Walk" "worth" (Qb 0)) (eC .non)) [.val (.ref a), .val (.int i), .val (pgD p)] hp1 = some (b, hp1) := fun b hb => QU (Ql (Za (Qe rfl) A1.h3 (qD ..)) rfl (by rw [vA, hb]; rfl))
  cases hs : (TR.Q0 p w.aim).isSome with
  | true =>
    rw [if_pos rfl]
    have wr := VL (d := pgD (TR.without p w.aim)) (i := i) A1.h1 A1.h2 D.nk (by simpa using hi)
    rw [map_set] at wr
    obtain ⟨A2, F2⟩ := A1.shelf D { S with pg := S.pg.set i (TR.without p w.aim), wr := S.wr + 1 } rfl
    obtain ⟨A3, F3⟩ := A2.walk D { w with worth := TR.Q0 p w.aim, ended := true } rfl rfl
    refine ⟨_, ?_, A3, F1.trans (F2.trans F3)⟩
    refine QY (env := [.val (.ref a), .val (.int i), .val (pgD p)]) ?_
    refine (Qo e1).trans ?_
    refine (Qo ((JV (t true hs)).trans (XR (Q9 (XI A1 rfl) A1.h1 (zx ..) (J5 (Qe rfl) (Zl (J5 (Qe rfl) (Za (Qe rfl) A1.h3 (YY ..))) rfl (Xl (vC p w.aim (by omega) (by omega)) hp1))) rfl wr)))).trans ?_
    refine (Qo (JF (v := .bl true) rfl (Qe rfl) A2.h3 wl)).trans ?_
    exact Q7 (qo (Xk rfl (Qe rfl) (Za (Qe rfl) A3.h3 (qD ..))) (by simp))
  | false =>
    rw [if_neg (by simp)]
    obtain ⟨A3, F3⟩ := A1.walk D { w with worth := TR.Q0 p w.aim, ended := true } rfl rfl
    refine ⟨_, ?_, A3, F1.trans F3⟩
    refine QY (env := [.val (.ref a), .val (.int i), .val (pgD p)]) ?_
    refine (Qo e1).trans ?_
    refine (Qo ((Zg (t false hs)).trans Zh)).trans ?_
    refine (Qo (JF (v := .bl true) rfl (Qe rfl) A1.h3 wl)).trans ?_
    exact Q7 (qo (Xk rfl (Qe rfl) (Za (Qe rfl) A3.h3 (qD ..))) (by simp))
theorem Qbo (A : At hp n k a f q S w) (D : Dif n k a f q) (hi : i < S.pg.length) {c : Nat} (hw : w.newp = some c) (h1 : p.ks.length <= 90) (h2 : p.ps.length <= 100) (h3 : S.room < (TR.ZY p w.aim c).ks.length -> 3 <= (TR.ZY p w.aim c).ks.length) (h4 : (TR.ZY p w.aim c).ks.length <= 100) (hl : S.pg.length < 90000) :
    ∃ hp', J7 [.ref a, .int i, pgD p] hp = some (.tup [.str "told", .int i, oN (TR.Zf S w i (TR.ZY p w.aim c)).1], hp') /\ At hp' n k a f q (TR.Zf S w i (TR.ZY p w.aim c)).2.1 (TR.Zf S w i (TR.ZY p w.aim c)).2.2 /\ Fr hp hp' n k a f q := by
  obtain ⟨hp2, e2, A2, F2⟩ := Uw A D hi (TR.ZY p w.aim c) h3 h4 hl
  refine ⟨hp2, ?_, A2, F2⟩
  refine QY (env := [.val (.ref a), .val (.int i), .val (pgD p), .val (oN (TR.Zf S w i (TR.ZY p w.aim c)).1)]) ?_
  have nw : QJ "Walk" "new_page" (Qb 0) [.val (.ref a), .val (.int i), .val (pgD p), .un] hp = some (.int c, hp) := Za (Qe rfl) A.h3 ((UX ..).trans (by rw [hw]; rfl))
  refine (Qo (QP (Q9 (Qe rfl) A.h3 (QaS ..) (J5 (Qe rfl) (Zl (Xk (Qe rfl) (Za (Qe rfl) A.h3 (YY ..)) nw) rfl (Xl (GT p w.aim c (by omega) (by omega)) hp))) rfl e2))).trans ?_
  exact Q7 (qo (Xk rfl (Qe rfl) (Qe rfl)) (by simp))
end
section
variable {hp : Hs} {n k a f q : Nat} {S : TR.Sh} {w : TR.Wk} {i : Nat} {p : TR.Pg}
theorem QaQ (A : At hp n k a f q S w) {l h : Int} (hl : p.ks.length <= 100) :
    Jv [.val (.ref a), .val (.int i), .val (pgD p), .val (.int l), .val (.int h), .un] hp = some (.ref hp.length, hp ++ [OV.lst (prD (TR.QV p l h))]) := by
  have e0 : QaW (Qh ixG (Qb 2) (eC (.int 1))) (Qh ixG (Qb 2) (eC (.int 2))) [.val (.ref a), .val (.int i), .val (pgD p), .val (.int l), .val (.int h), .un] hp = some (prD (p.ks.zip p.ps), hp) := by
    have x1 : Qh ixG (Qb 2) (eC (.int 1)) [.val (.ref a), .val (.int i), .val (pgD p), .val (.int l), .val (.int h), .un] hp = some (.tup (p.ks.map .int), hp) := Ql (Qe rfl) rfl (vF p hp)
    have x2 : Qh ixG (Qb 2) (eC (.int 2)) [.val (.ref a), .val (.int i), .val (pgD p), .val (.int l), .val (.int h), .un] hp = some (.tup (p.ps.map .int), hp) := Ql (Qe rfl) rfl (Vm p hp)
    unfold QaW
    rw [Qi x1]
    show (GV (.tup (p.ks.map .int)) >>= _) hp = _
    rw [show GV (.tup (p.ks.map .int)) = pure (p.ks.map .int) from rfl, pure_bind, Qi x2, show GV (.tup (p.ps.map .int)) = pure (p.ps.map .int) from rfl, pure_bind, uE]; rfl
  have e1 : xOf (QaW (Qh ixG (Qb 2) (eC (.int 1))) (Qh ixG (Qb 2) (eC (.int 2)))) [.val (.ref a), .val (.int i), .val (pgD p), .val (.int l), .val (.int h), .un] hp = some (nxD (prD (p.ks.zip p.ps)), hp) := by
    unfold xOf; rw [Qi e0]; rfl
  have hz : (p.ks.zip p.ps).length <= 100 := by rw [List.length_zip]; omega
  have e2 := uT (hp := hp) (t := fun d => eB (X6 leD ltD (Qb 1) (Qh ixG (Qb 0) (eC (.int 0))) (Qb 2)) (cE [3, 4] [.val (.ref a), .val (.int i), .val (pgD p), .val (.int l), .val (.int h), .un] d)) (f := fun d => Qb 0 (cE [3, 4] [.val (.ref a), .val (.int i), .val (pgD p), .val (.int l), .val (.int h), .un] d)) (p := Qb0 l h) (prD (p.ks.zip p.ps)) (fun d hd => by
      obtain ⟨z, _, rfl⟩ := List.mem_map.mp hd
      have c : cE [3, 4] [.val (.ref a), .val (.int i), .val (pgD p), .val (.int l), .val (.int h), .un] (.tup [.int z.1, .int z.2]) = [.val (.tup [.int z.1, .int z.2]), .val (.int l), .val (.int h)] := rfl
      show eB (X6 leD ltD (Qb 1) (Qh ixG (Qb 0) (eC (.int 0))) (Qb 2)) (cE [3, 4] [.val (.ref a), .val (.int i), .val (pgD p), .val (.int l), .val (.int h), .un] (.tup [.int z.1, .int z.2])) hp = _
      rw [c]
      have x1 : Qh ixG (Qb 0) (eC (.int 0)) [.val (.tup [.int z.1, .int z.2]), .val (.int l), .val (.int h)] hp = some (.int z.1, hp) := Ql (Qe rfl) rfl (Xh (i := 0) rfl hp)
      by_cases q1 : l <= z.1
      . by_cases q2 : z.1 < h <;> simp [eB, X6, ZR, JJ, x1, Qb, Zr, Zi, asB, Qb0, q1, q2]
      . simp [eB, X6, ZR, JJ, x1, Qb, Zr, Zi, asB, Qb0, q1])
    (fun d hd => rfl) (by rw [UF]; omega)
  rw [vc] at e2
  unfold Jv YD
  rw [Qi e1, Qi (show Xf _ _ _ lim 0 hp = _ from e2)]
  rfl
theorem VP (A : At hp n k a f q S w) (D : Dif n k a f q) {l h : Int} (hd : w.deed = .stretch l h) (h1 : p.ks.length <= 100) (hw : w.pairs.length <= 50000) (hlk : (p.hi = none /\ p.sd = none) ∨ ∃ x s, p.hi = some x /\ p.sd = some s) :
    ∃ hp', JX [.ref a, .int i, pgD p] hp = some (gY (TR.Xq S w i p).1, hp') /\ At hp' n k a f q (TR.Xq S w i p).2.1 (TR.Xq S w i p).2.2 /\ Fr hp hp' n k a f q := by
  have d1 : ixG (ZZ w.deed) (.int 1) hp = some (.int l, hp) := by rw [hd]; exact Xh (i := 1) rfl hp
  have d2 : ixG (ZZ w.deed) (.int 2) hp = some (.int h, hp) := by rw [hd]; exact Xh (i := 2) rfl hp
  obtain ⟨A1, F1⟩ := A.more (OV.lst (prD (TR.QV p l h)))
  obtain ⟨A2, F2⟩ := A1.pair D { w with pairs := w.pairs ++ TR.QV p l h } rfl rfl
  have pl : (TR.QV p l h).length <= 100 := by
    unfold TR.QV
    refine Nat.le_trans (List.length_filter_le _ _) ?_
    rw [List.length_zip]; omega
  have gl : (hp ++ [OV.lst (prD (TR.QV p l h))])[hp.length]? = some (.lst (prD (TR.QV p l h))) := by simp
  have ql : q ≠ hp.length := fun e => by
    have := (List.getElem?_eq_some_iff.mp A.h5).1; omega
  have ex := uU (o := QJ "Walk" "pairs" (Qb 0)) (fa := Qc (Qb 5) Qm) (env := [.val (.ref a), .val (.int i), .val (pgD p), .val (.int l), .val (.int h), .val (.ref hp.length)]) (Za (Qe rfl) A1.h3 (gw ..)) A1.h5 (ZS (Qe rfl)) gl (by rw [UF, UF]; omega)
  rw [Qbi] at ex
  have tw : ∀ {hpx : Hs} {env : En}, hpx[hp.length]? = some (.lst (prD (TR.QV p l h))) -> env[5]? = some (.val (.ref hp.length)) -> QN gq (Qc (Qb 5) Qm) env hpx = some (.tup (prD (TR.QV p l h)), hpx) := fun {hpx env} hx he => by
    unfold QN
    rw [Qi (ZS (Qe he))]
    show (Jt hp.length >>= _) hpx = _
    rw [Qi (Z3 hx)]; rfl
  have gl2 : ((hp ++ [OV.lst (prD (TR.QV p l h))]).set q (OV.lst (prD (w.pairs ++ TR.QV p l h))))[hp.length]? = some (.lst (prD (TR.QV p l h))) := gs ql gl
  have al : a ≠ hp.length := fun e => by
    have := (List.getElem?_eq_some_iff.mp A.h3).1; omega
  have start : ∀ (g : DSx) (r : (Fl × En) × Hs), g [.val (.ref a), .val (.int i), .val (pgD p), .val (.int l), .val (.int h), .val (.ref hp.length)] ((hp ++ [OV.lst (prD (TR.QV p l h))]).set q (OV.lst (prD (w.pairs ++ TR.QV p l h)))) = some r ->
      Qr (QC 3 (Qh ixG (QJ "Walk" "deed" (Qb 0)) (eC (.int 1)))) (Qr (QC 4 (Qh ixG (QJ "Walk" "deed" (Qb 0)) (eC (.int 2)))) (Qr (QC 5 Jv) (Qr (Jo (Yv "list" jS (QJ "Walk" "pairs" (Qb 0)) (Qc (Qb 5) Qm))) g))) [.val (.ref a), .val (.int i), .val (pgD p), .un, .un, .un] hp = some r := fun g r hg => by
    refine (Qo (QP (Ql (Za (Qe rfl) A.h3 (xo ..)) rfl d1))).trans ?_
    refine (Qo (QP (Ql (Za (Qe rfl) A.h3 (xo ..)) rfl d2))).trans ?_
    refine (Qo (QP (QaQ A h1))).trans ?_
    exact (Qo (XR ex)).trans hg
  have fin : ∃ hp', Qr (Zc "Walk" "ended" (Qb 0) (eC (.bl true))) (QF (ZF (Qc (eC (.str "read")) (Qc (Qb 1) (Qc (QN gq (Qc (Qb 5) Qm)) (Qc (eC .non) (Qc (eC .non) Qm))))))) [.val (.ref a), .val (.int i), .val (pgD p), .val (.int l), .val (.int h), .val (.ref hp.length)] ((hp ++ [OV.lst (prD (TR.QV p l h))]).set q (OV.lst (prD (w.pairs ++ TR.QV p l h)))) = some ((.rt (gY (.read i (TR.QV p l h) none)), [.val (.ref a), .val (.int i), .val (pgD p), .val (.int l), .val (.int h), .val (.ref hp.length)]), hp') /\ At hp' n k a f q S { w with pairs := w.pairs ++ TR.QV p l h, ended := true } /\ Fr hp hp' n k a f q := by
    obtain ⟨A3, F3⟩ := A2.walk D { w with pairs := w.pairs ++ TR.QV p l h, ended := true } rfl rfl
    refine ⟨_, ?_, A3, F1.trans (F2.trans F3)⟩
    refine (Qo (JF (v := .bl true) rfl (Qe rfl) A2.h3 wl)).trans ?_
    exact Q7 (qo (kS rfl (Qe rfl) (tw (gs al gl2) rfl) rfl rfl) (by simp))
  have hiE : ∀ hpx : Hs, Qh ixG (Qb 2) (eC (.int 3)) [.val (.ref a), .val (.int i), .val (pgD p), .val (.int l), .val (.int h), .val (.ref hp.length)] hpx = some (opt p.hi, hpx) := fun hpx => Ql (Qe rfl) rfl (UP p hpx)
  have sdE : ∀ hpx : Hs, Qh ixG (Qb 2) (eC (.int 4)) [.val (.ref a), .val (.int i), .val (pgD p), .val (.int l), .val (.int h), .val (.ref hp.length)] hpx = some (oN p.sd, hpx) := fun hpx => Ql (Qe rfl) rfl (Kw p hpx)
  rcases hlk with ⟨e1, e2⟩ | ⟨x, s, e1, e2⟩
  . rw [gt hd e1]
    obtain ⟨hp', ef, Af, Ff⟩ := fin
    refine ⟨hp', QY (start _ _ (ZQ ((JV (hp1 := _) ?_).trans ef))), Af, Ff⟩
    exact QcB (QU (Ql (hiE _) rfl (by rw [zU, e1]; rfl)))
  . rw [Qak hd e1 e2]
    by_cases hx : h <= x
    . rw [if_pos hx]
      obtain ⟨hp', ef, Af, Ff⟩ := fin
      refine ⟨hp', QY (start _ _ (ZQ ((JV (hp1 := _) ?_).trans ef))), Af, Ff⟩
      exact (xg (QU (b := false) (Ql (hiE _) rfl (by rw [zU, e1]; rfl)))).trans (QU (Ql (hiE _) (Qe rfl) (by rw [e1]; show geD (.int x) (.int h) _ = _; rw [Zq, decide_eq_true hx]; rfl)))
    . rw [if_neg hx]
      obtain ⟨A3, F3⟩ := A2.walk D { w with pairs := w.pairs ++ TR.QV p l h, aim := x } rfl rfl
      obtain ⟨A4, F4⟩ := A3.walk D { w with pairs := w.pairs ++ TR.QV p l h, aim := x, place := some s } rfl rfl
      refine ⟨_, QY (env := [.val (.ref a), .val (.int i), .val (pgD p), .val (.int l), .val (.int h), .val (.ref hp.length)]) (start _ _ ?_), A4, F1.trans (F2.trans (F3.trans F4))⟩
      refine (Qo ((Zg ((xg (QU (b := false) (Ql (hiE _) rfl (by rw [zU, e1]; rfl)))).trans (QU (b := false) (Ql (hiE _) (Qe rfl) (by rw [e1]; show geD (.int x) (.int h) _ = _; rw [Zq, decide_eq_false hx]; rfl))))).trans Zh)).trans ?_
      refine (Qo (JF (v := .int x) ((hiE _).trans (by rw [e1]; rfl)) (Qe rfl) A2.h3 wl)).trans ?_
      refine (Qo (JF (v := .int s) ((sdE _).trans (by rw [e2]; rfl)) (Qe rfl) A3.h3 wl)).trans ?_
      exact Q7 (qo (kS rfl (Qe rfl) (tw (gs al (gs al gl2)) rfl) (Za (Qe rfl) A4.h3 (qG ..)) (Za (Qe rfl) A4.h3 (YY ..))) (by simp))
end
section
variable {hp : Hs} {n k a f q : Nat} {S : TR.Sh} {w : TR.Wk} {i : Nat} {p : TR.Pg}
theorem zD : PyData.strOk "find" = true := by decide +kernel
theorem jZ : PyData.strOk "put" = true := by decide +kernel
theorem jI : PyData.strOk "cut" = true := by decide +kernel
theorem UZ : PyData.strOk "stretch" = true := by decide +kernel
def VB : TR.Deed -> Str
  | .find _ => "find"
  | .put _ _ => "put"
  | .cut _ => "cut"
  | .stretch _ _ => "stretch"
theorem gz (d : TR.Deed) (hp : Hs) : ixG (ZZ d) (.int 0) hp = some (.str (VB d), hp) := by cases d <;> exact Xh (i := 0) rfl hp
theorem vt (A : At hp n k a f q S w) (D : Dif n k a f q) (hi : i < S.pg.length) (h1 : p.ks.length <= 90) (h2 : p.ps.length = p.ks.length) (h3 : ∀ x, S.room < (TR.Q2 p w.aim x).ks.length -> 3 <= (TR.Q2 p w.aim x).ks.length) (h4 : ∀ x, (TR.Q2 p w.aim x).ks.length <= 100) (hl : S.pg.length < 90000) (hw : w.pairs.length <= 50000) (hlk : (p.hi = none /\ p.sd = none) ∨ ∃ x s, p.hi = some x /\ p.sd = some s) :
    ∃ hp', XQ [.ref a, .int i, pgD p] hp = some (gY (TR.Xq S w i p).1, hp') /\ At hp' n k a f q (TR.Xq S w i p).2.1 (TR.Xq S w i p).2.2 /\ Fr hp hp' n k a f q := by
  have s0 : QC 3 (Qh ixG (QJ "Walk" "deed" (Qb 0)) (eC (.int 0))) [.val (.ref a), .val (.int i), .val (pgD p), .un] hp = some ((.nx, [.val (.ref a), .val (.int i), .val (pgD p), .val (.str (VB w.deed))]), hp) := QP (Ql (Za (Qe rfl) A.h3 (xo ..)) rfl (gz w.deed hp))
  have tst : ∀ (x : Str) (b : Bool), PyData.strOk (VB w.deed) = true -> PyData.strOk x = true -> (VB w.deed == x) = b -> eB (Qh eqG (Qb 3) (eC (.str x))) [.val (.ref a), .val (.int i), .val (pgD p), .val (.str (VB w.deed))] hp = some (b, hp) := fun x b o1 o2 e => QU (Ql (Qe rfl) rfl (eqS hp o1 o2 e))
  have ag : ∀ (nm : Str) (fn : List DV -> M DV) (d : DV) (hp' : Hs), List.lookup nm (wkF n f q (ZZ w.deed) (.int w.aim) (.int w.goal) (oN w.place) (oN w.newp) (opt w.worth) (.bl w.ended)) = none -> fn [.ref a, .int i, pgD p] hp = some (d, hp') -> QF (QK "Walk" nm 3 fn (Qb 0) (Qc (Qb 1) (Qc (Qb 2) Qm))) [.val (.ref a), .val (.int i), .val (pgD p), .val (.str (VB w.deed))] hp = some ((.rt d, [.val (.ref a), .val (.int i), .val (pgD p), .val (.str (VB w.deed))]), hp') := fun nm fn d hp' e1 e2 => Q7 (Q9 (Qe rfl) A.h3 e1 (J5 (Qe rfl) (Qe rfl)) rfl e2)
  cases hd : w.deed with
  | find y =>
    obtain ⟨hp', e, A', F'⟩ := QbL (i := i) A D (by omega) h2
    refine ⟨hp', ?_, by rw [Vs hd]; exact A', F'⟩
    rw [Vs hd]
    have t := tst "find" true (by rw [hd]; exact zD) zD (by rw [hd]; show (("find" : Str) == ("find" : Str)) = true; decide)
    exact QY ((Qo s0).trans (ZQ ((JV t).trans (ag _ _ _ _ (Qde ..) e))))
  | put y x =>
    obtain ⟨hp', e, A', F'⟩ := Qc7 (i := i) A D hi hd h1 h2 (h3 x) (h4 x) hl
    refine ⟨hp', ?_, by rw [UC hd]; exact A', F'⟩
    rw [UC hd]
    have t1 := tst "find" false (by rw [hd]; exact jZ) zD (by rw [hd]; show (("put" : Str) == ("find" : Str)) = false; decide)
    have t2 := tst "put" true (by rw [hd]; exact jZ) jZ (by rw [hd]; show (("put" : Str) == ("put" : Str)) = true; decide)
    exact QY ((Qo s0).trans ((Qo ((Zg t1).trans Zh)).trans (ZQ ((JV t2).trans (ag _ _ _ _ (Qdb ..) e)))))
  | cut y =>
    obtain ⟨hp', e, A', F'⟩ := Qdd (i := i) A D hi (by omega) h2
    refine ⟨hp', ?_, by rw [Uu hd]; exact A', F'⟩
    rw [Uu hd]
    have t1 := tst "find" false (by rw [hd]; exact jI) zD (by rw [hd]; show (("cut" : Str) == ("find" : Str)) = false; decide)
    have t2 := tst "put" false (by rw [hd]; exact jI) jZ (by rw [hd]; show (("cut" : Str) == ("put" : Str)) = false; decide)
    have t3 := tst "cut" true (by rw [hd]; exact jI) jI (by rw [hd]; show (("cut" : Str) == ("cut" : Str)) = true; decide)
    exact QY ((Qo s0).trans ((Qo ((Zg t1).trans Zh)).trans ((Qo ((Zg t2).trans Zh)).trans (ZQ ((JV t3).trans (ag _ _ _ _ (Qdm ..) e))))))
  | stretch l h =>
    obtain ⟨hp', e, A', F'⟩ := VP (i := i) A D hd (by omega) hw hlk
    refine ⟨hp', ?_, A', F'⟩
    have t1 := tst "find" false (by rw [hd]; exact UZ) zD (by rw [hd]; show (("stretch" : Str) == ("find" : Str)) = false; decide)
    have t2 := tst "put" false (by rw [hd]; exact UZ) jZ (by rw [hd]; show (("stretch" : Str) == ("put" : Str)) = false; decide)
    have t3 := tst "cut" false (by rw [hd]; exact UZ) jI (by rw [hd]; show (("stretch" : Str) == ("cut" : Str)) = false; decide)
    exact QY ((Qo s0).trans ((Qo ((Zg t1).trans Zh)).trans ((Qo ((Zg t2).trans Zh)).trans ((Qo ((Zg t3).trans Zh)).trans (ag _ _ _ _ (QdB ..) e)))))
theorem uc {bg : TR.Bg} {r : TR.Row} {S' : TR.Sh} {w' : TR.Wk} (T : TR.Tree S bg) (W : TR.WOk S bg w) (hr : S.room <= 50) (A : At hp n k a f q S w) (D : Dif n k a f q) (hl : S.pg.length < 90000) (hf : w.forks.length < 5000) (hw : w.pairs.length <= 50000) (hs : TR.Vn S w = some (r, S', w')) :
    ∃ hp', Jm [.ref a] hp = some (gY r, hp') /\ At hp' n k a f q S' w' /\ Fr hp hp' n k a f q := by
  have env0 : ([DV.ref a].map Sl.val ++ List.replicate (3 - [DV.ref a].length) Sl.un) = [.val (.ref a), .un, .un] := rfl
  cases he : w.ended with
  | true =>
    unfold TR.Vn at hs
    rw [if_pos he] at hs
    cases hs
    refine ⟨hp, ?_, A, Fr.refl⟩
    exact QY (env := [.val (.ref a), .un, .un]) (ZQ ((JV (QU (Za (Qe rfl) A.h3 ((zW ..).trans (by rw [he]))))).trans (Q7 (d := .non) rfl)))
  | false =>
    obtain ⟨m, hm0, hpl⟩ : ∃ m, w.place.getD S.top = m /\ (w.place = some m ∨ (w.place = none /\ m = S.top)) := by
      cases e : w.place with
      | none => exact ⟨S.top, rfl, .inr ⟨rfl, rfl⟩⟩
      | some m => exact ⟨m, rfl, .inl rfl⟩
    unfold TR.Vn at hs
    rw [if_neg (by rw [he]; simp), hm0] at hs
    cases hg : S.pg[m]? with
    | none => rw [hg] at hs; cases hs
    | some p =>
      rw [hg] at hs
      simp only at hs
      have ok := T.page m p hg
      have hml : m < S.pg.length := (List.getElem?_eq_some_iff.mp hg).1
      have hps : p.ps.length <= 100 := by have a1 := ok.parts; have a2 := ok.few; split at a1 <;> omega
      have hks : p.ks.length <= 90 := by have a2 := ok.few; omega
      have r2 := T.room2
      have st0 : sIf (eB (QJ "Walk" "ended" (Qb 0))) (QF (eC .non)) Q6 [.val (.ref a), .un, .un] hp = some ((.nx, [.val (.ref a), .un, .un]), hp) := (Zg (QU (Za (Qe rfl) A.h3 ((zW ..).trans (by rw [he]))))).trans Zh
      have num : eIf (eB (Qh isD (QJ "Walk" "place" (Qb 0)) (eC .non))) (QK "Shelf" "root" 1 Zx (QJ "Walk" "shelf" (Qb 0)) Qm) (QJ "Walk" "place" (Qb 0)) [.val (.ref a), .un, .un] hp = some (.int m, hp) := by
        rcases hpl with e | ⟨e, rfl⟩
        . exact (Qec (QU (b := false) (Ql (Za (Qe rfl) A.h3 (qG ..)) rfl (by rw [jD, e]; rfl)))).trans (Za (Qe rfl) A.h3 ((qG ..).trans (by rw [e]; rfl)))
        . exact (Qeb (QU (Ql (Za (Qe rfl) A.h3 (qG ..)) rfl (by rw [jD, e]; rfl)))).trans (Q9 (XI A rfl) A.h1 (Vp ..) qI rfl (ue A.h1))
      have rd := uz (i := m) (d := pgD p) A.h1 A.h2 D.nk (by rw [List.getElem?_map, hg]; rfl)
      obtain ⟨A1, F1⟩ := A.count D { S with rd := S.rd + 1 } rfl rfl
      have st1 := QP (i := 1) num
      have st2 : QC 2 (QK "Shelf" "read" 2 ZC (QJ "Walk" "shelf" (Qb 0)) (Qc (Qb 1) Qm)) [.val (.ref a), .val (.int m), .un] hp = some ((.nx, [.val (.ref a), .val (.int m), .val (pgD p)]), (hp.set n (.ins "Shelf" (shF S.room k S.top (S.rd + 1) S.wr)))) := QP (Q9 (XI A rfl) A.h1 (yT ..) (ZS (Qe rfl)) rfl rd)
      have lvE : ∀ hpx : Hs, Qh ixG (Qb 2) (eC (.int 0)) [.val (.ref a), .val (.int m), .val (pgD p)] hpx = some (.int p.lv, hpx) := fun hpx => Ql (Qe rfl) rfl (xE p hpx)
      have plE : eB (Qh isD (QJ "Walk" "place" (Qb 0)) (eC .non)) [.val (.ref a), .val (.int m), .val (pgD p)] (hp.set n (.ins "Shelf" (shF S.room k S.top (S.rd + 1) S.wr))) = some (w.place.isNone, (hp.set n (.ins "Shelf" (shF S.room k S.top (S.rd + 1) S.wr)))) := QU (Ql (Za (Qe rfl) A1.h3 (qG ..)) rfl (by rw [jD]; rfl))
      have glE : QJ "Walk" "goal" (Qb 0) [.val (.ref a), .val (.int m), .val (pgD p)] (hp.set n (.ins "Shelf" (shF S.room k S.top (S.rd + 1) S.wr))) = some (.int w.goal, (hp.set n (.ins "Shelf" (shF S.room k S.top (S.rd + 1) S.wr)))) := Za (Qe rfl) A1.h3 (GI ..)
      have t1 : Jh (eB (Qh isD (QJ "Walk" "place" (Qb 0)) (eC .non))) (eB (Qh ltD (Qh ixG (Qb 2) (eC (.int 0))) (QJ "Walk" "goal" (Qb 0)))) [.val (.ref a), .val (.int m), .val (pgD p)] (hp.set n (.ins "Shelf" (shF S.room k S.top (S.rd + 1) S.wr))) = some (decide (w.place = none /\ p.lv < w.goal), (hp.set n (.ins "Shelf" (shF S.room k S.top (S.rd + 1) S.wr)))) := by
        cases hp0 : w.place with
        | none =>
          rw [hp0] at plE
          refine (qZ plE).trans (QU (Ql (lvE _) glE ?_))
          rw [Zi]
          show some (DV.bl _, _) = _
          congr 3
          by_cases z : p.lv < w.goal
          . rw [decide_eq_true (show (p.lv : Int) < w.goal by omega), decide_eq_true (show (none : Option Nat) = none /\ p.lv < w.goal from ⟨rfl, z⟩)]
          . rw [decide_eq_false (show ¬ (p.lv : Int) < w.goal by omega), decide_eq_false (fun h => z h.2)]
        | some z =>
          rw [hp0] at plE
          rw [decide_eq_false (fun h => by cases h.1)]
          exact qV plE
      have go : ∀ (g : DSx) (x : (Fl × En) × Hs), g [.val (.ref a), .val (.int m), .val (pgD p)] (hp.set n (.ins "Shelf" (shF S.room k S.top (S.rd + 1) S.wr))) = some x -> Qr (sIf (eB (QJ "Walk" "ended" (Qb 0))) (QF (eC .non)) Q6) (Qr (QC 1 (eIf (eB (Qh isD (QJ "Walk" "place" (Qb 0)) (eC .non))) (QK "Shelf" "root" 1 Zx (QJ "Walk" "shelf" (Qb 0)) Qm) (QJ "Walk" "place" (Qb 0)))) (Qr (QC 2 (QK "Shelf" "read" 2 ZC (QJ "Walk" "shelf" (Qb 0)) (Qc (Qb 1) Qm))) g)) [.val (.ref a), .un, .un] hp = some x := fun g x hg => (Qo st0).trans ((Qo st1).trans ((Qo st2).trans hg))
      by_cases hr1 : w.place = none /\ p.lv < w.goal
      . rw [if_pos hr1] at hs
        rw [decide_eq_true hr1] at t1
        cases hn : w.newp with
        | none => rw [hn] at hs; cases hs
        | some c =>
          rw [hn] at hs
          simp only [Option.some.injEq, Prod.mk.injEq] at hs
          obtain ⟨rfl, rfl, rfl⟩ := hs
          have htop : m = S.top := by
            rcases hpl with e | ⟨_, e⟩
            . rw [hr1.1] at e; cases e
            . exact e
          subst htop
          obtain ⟨c', z, b1, b2, _⟩ := W.tell (by omega)
          rw [hn] at b1; cases b1
          obtain ⟨hp', e, A', F'⟩ := V3 (i := S.top) A1 D hn (List.getElem?_eq_some_iff.mp b2).1 hg hl
          rw [hn] at A'
          refine ⟨hp', ?_, A', F1.trans F'⟩
          exact QY (go _ _ (ZQ ((JV t1).trans (Q7 (Q9 (Qe rfl) A1.h3 (QcZ ..) (ZS (Qe rfl)) rfl e)))))
      . rw [if_neg hr1] at hs
        rw [decide_eq_false hr1] at t1
        have t2 : eB (Qs 2 YJ (Qc (Qb 2) (Qc (QJ "Walk" "aim" (Qb 0)) Qm))) [.val (.ref a), .val (.int m), .val (pgD p)] (hp.set n (.ins "Shelf" (shF S.room k S.top (S.rd + 1) S.wr))) = some (TR.Yi p w.aim, (hp.set n (.ins "Shelf" (shF S.room k S.top (S.rd + 1) S.wr)))) := QU (Zl (J5 (Qe rfl) (Za (Qe rfl) A1.h3 (YY ..))) rfl (Xl (gD p w.aim) _))
        have go2 : ∀ (g : DSx) (x : (Fl × En) × Hs), g [.val (.ref a), .val (.int m), .val (pgD p)] (hp.set n (.ins "Shelf" (shF S.room k S.top (S.rd + 1) S.wr))) = some x -> Qr (sIf (Jh (eB (Qh isD (QJ "Walk" "place" (Qb 0)) (eC .non))) (eB (Qh ltD (Qh ixG (Qb 2) (eC (.int 0))) (QJ "Walk" "goal" (Qb 0))))) (QF (QK "Walk" "raise_root_over" 2 ZB (Qb 0) (Qc (Qb 1) Qm))) Q6) g [.val (.ref a), .val (.int m), .val (pgD p)] (hp.set n (.ins "Shelf" (shF S.room k S.top (S.rd + 1) S.wr))) = some x := fun g x hg => (Qo ((Zg t1).trans Zh)).trans hg
        cases hb : TR.Yi p w.aim with
        | true =>
          rw [hb, if_pos rfl] at hs
          rw [hb] at t2
          cases hsd : p.sd with
          | none => rw [hsd] at hs; cases hs
          | some s =>
            rw [hsd] at hs
            simp only [Option.some.injEq, Prod.mk.injEq] at hs
            obtain ⟨rfl, rfl, rfl⟩ := hs
            obtain ⟨hp', e, A', F'⟩ := KG (i := m) A1 D "side" (some s)
            refine ⟨hp', ?_, A', F1.trans F'⟩
            refine QY (go _ _ (go2 _ _ (ZQ ((JV t2).trans (Q7 (Q9 (Qe rfl) A1.h3 (Qas ..) (Xk rfl (Qe rfl) (Ql (Qe rfl) rfl (Kw p _))) rfl ?_))))))
            rw [hsd]; exact e
        | false =>
          rw [hb, if_neg (by simp)] at hs
          rw [hb] at t2
          have t3 : eB (Qh gtD (Qh ixG (Qb 2) (eC (.int 0))) (QJ "Walk" "goal" (Qb 0))) [.val (.ref a), .val (.int m), .val (pgD p)] (hp.set n (.ins "Shelf" (shF S.room k S.top (S.rd + 1) S.wr))) = some (decide (w.goal < p.lv), (hp.set n (.ins "Shelf" (shF S.room k S.top (S.rd + 1) S.wr)))) := QU (Ql (lvE _) glE (by
            rw [Q4]
            show some (DV.bl _, _) = _
            congr 3
            by_cases z : w.goal < p.lv
            . rw [decide_eq_true z, decide_eq_true (by omega)]
            . rw [decide_eq_false z, decide_eq_false (by omega)]))
          by_cases hd : w.goal < p.lv
          . rw [if_pos hd] at hs
            rw [decide_eq_true hd] at t3
            cases hc : p.ps[TR.cLe p.ks w.aim]? with
            | none => rw [hc] at hs; cases hs
            | some c =>
              rw [hc] at hs
              simp only [Option.some.injEq, Prod.mk.injEq] at hs
              obtain ⟨rfl, rfl, rfl⟩ := hs
              have pl := ok.parts
              rw [if_neg (by omega)] at pl
              obtain ⟨c', z, b1, b2, _⟩ := T.kid m p hg (by omega) _ _ hc
              subst b1
              obtain ⟨A2, F2⟩ := A1.fork D { w with forks := TR.yB w.forks p.lv m } rfl rfl
              obtain ⟨hp', e, A', F'⟩ := KG (i := m) A2 D "down" (some c')
              refine ⟨hp', ?_, by rw [Int.toNat_natCast]; exact A', F1.trans (F2.trans F')⟩
              have ke := Qd2 p w.aim c' (by omega) pl hc
              have pt : Yw (Qb 1) (gSb (QJ "Walk" "forks" (Qb 0)) (Qh ixG (Qb 2) (eC (.int 0)))) [.val (.ref a), .val (.int m), .val (pgD p)] (hp.set n (.ins "Shelf" (shF S.room k S.top (S.rd + 1) S.wr))) = some ((.nx, [.val (.ref a), .val (.int m), .val (pgD p)]), (hp.set n (.ins "Shelf" (shF S.room k S.top (S.rd + 1) S.wr))).set f (.dic (fkD (TR.yB w.forks p.lv m)))) := QdX (Qe rfl) (Za (Qe rfl) A1.h3 (Up ..)) (lvE _) A1.h4 hf
              refine QY (go _ _ (go2 _ _ ((Qo ((Zg t2).trans Zh)).trans (ZQ ((JV t3).trans ((Qo pt).trans (Q7 (Q9 (Qe rfl) A2.h3 (Qas ..) (Xk rfl (Qe rfl) (Zl (J5 (Qe rfl) (Za (Qe rfl) A2.h3 (YY ..))) rfl (Xl ke _))) rfl ?_))))))))
              rw [show gY (TR.Row.down m (c' : Int).toNat) = .tup [.str "down", .int m, .int c'] from by rw [Int.toNat_natCast]; rfl]
              exact e
          . rw [if_neg hd] at hs
            rw [decide_eq_false hd] at t3
            have go3 : ∀ (g : DSx) (x : (Fl × En) × Hs), g [.val (.ref a), .val (.int m), .val (pgD p)] (hp.set n (.ins "Shelf" (shF S.room k S.top (S.rd + 1) S.wr))) = some x -> Qr (sIf (eB (Qs 2 YJ (Qc (Qb 2) (Qc (QJ "Walk" "aim" (Qb 0)) Qm)))) (QF (QK "Walk" "go_on" 4 JD (Qb 0) (Qc (eC (.str "side")) (Qc (Qb 1) (Qc (Qh ixG (Qb 2) (eC (.int 4))) Qm))))) Q6) (Qr (sIf (eB (Qh gtD (Qh ixG (Qb 2) (eC (.int 0))) (QJ "Walk" "goal" (Qb 0)))) (Qr (Yw (Qb 1) (gSb (QJ "Walk" "forks" (Qb 0)) (Qh ixG (Qb 2) (eC (.int 0))))) (QF (QK "Walk" "go_on" 4 JD (Qb 0) (Qc (eC (.str "down")) (Qc (Qb 1) (Qc (Qs 2 Yx (Qc (Qb 2) (Qc (QJ "Walk" "aim" (Qb 0)) Qm))) Qm)))))) Q6) g) [.val (.ref a), .val (.int m), .val (pgD p)] (hp.set n (.ins "Shelf" (shF S.room k S.top (S.rd + 1) S.wr))) = some x := fun g x hg => (Qo ((Zg t2).trans Zh)).trans ((Qo ((Zg t3).trans Zh)).trans hg)
            have t4 : eB (Qh gtD (QJ "Walk" "goal" (Qb 0)) (eC (.int 0))) [.val (.ref a), .val (.int m), .val (pgD p)] (hp.set n (.ins "Shelf" (shF S.room k S.top (S.rd + 1) S.wr))) = some (decide (0 < w.goal), (hp.set n (.ins "Shelf" (shF S.room k S.top (S.rd + 1) S.wr)))) := QU (Ql glE rfl (by
              rw [Q4]
              show some (DV.bl _, _) = _
              congr 3
              by_cases z : 0 < w.goal
              . rw [decide_eq_true z, decide_eq_true (by omega)]
              . rw [decide_eq_false z, decide_eq_false (by omega)]))
            have glv : w.goal <= p.lv := by
              rcases hpl with e | ⟨e, _⟩
              . obtain ⟨p', b1, b2, _⟩ := W.at_ m e
                rw [hg] at b1; cases b1; exact b2
              . exact Nat.le_of_not_lt fun h => hr1 ⟨e, h⟩
            by_cases h0 : 0 < w.goal
            . rw [if_pos h0] at hs
              rw [decide_eq_true h0] at t4
              cases hn : w.newp with
              | none => rw [hn] at hs; cases hs
              | some c =>
                rw [hn] at hs
                simp only [Option.some.injEq, Prod.mk.injEq] at hs
                obtain ⟨rfl, rfl, rfl⟩ := hs
                have kl := TR.ya ok (k := w.aim) (c := c)
                obtain ⟨hp', e, A', F'⟩ := Qbo (i := m) (p := p) A1 D hml hn hks hps (fun z => by have : S.room < (TR.ZY p w.aim c).ks.length := z; omega) (by omega) hl
                refine ⟨hp', ?_, A', F1.trans F'⟩
                exact QY (go _ _ (go2 _ _ (go3 _ _ (ZQ ((JV t4).trans (Q7 (Q9 (Qe rfl) A1.h3 (Qc5 ..) (J5 (Qe rfl) (Qe rfl)) rfl e)))))))
            . rw [if_neg h0] at hs
              rw [decide_eq_false h0] at t4
              have hz : p.lv = 0 := by omega
              have pl := ok.parts
              rw [if_pos hz] at pl
              have kl : ∀ x, (TR.Q2 p w.aim x).ks.length <= S.room + 1 := fun x => TR.j2 ok
              obtain ⟨hp', e, A', F'⟩ := vt (i := m) (p := p) A1 D hml hks (by omega) (fun x z => by have : S.room < (TR.Q2 p w.aim x).ks.length := z; omega) (fun x => by have := kl x; omega) hl hw ((T.link m p hg).imp id fun ⟨x, s, _, b1, b2, _⟩ => ⟨x, s, b1, b2⟩)
              have hs' := Option.some.inj hs
              refine ⟨hp', ?_, ?_, F1.trans F'⟩
              . rw [show r = (TR.Xq { S with rd := S.rd + 1 } w m p).1 by rw [hs']]
                exact QY (go _ _ (go2 _ _ (go3 _ _ ((Qo ((Zg t4).trans Zh)).trans (Q7 (Q9 (Qe rfl) A1.h3 (Qc0 ..) (J5 (Qe rfl) (Qe rfl)) rfl e))))))
              . rw [show S' = (TR.Xq { S with rd := S.rd + 1 } w m p).2.1 by rw [hs'], show w' = (TR.Xq { S with rd := S.rd + 1 } w m p).2.2 by rw [hs']]
                exact A'
end
theorem VT {room : Nat} {b : Option Int} {p : TR.Pg} (ok : TR.JU room b p) (hk : (p.hi = none /\ p.sd = none) ∨ ∃ x s, p.hi = some x /\ p.sd = some s) (hr : room <= 50) (hp : Hs) : JA [pgD p, .int p.lv, .int room, opt b] hp = some (.bl true, hp) := by
  have few := ok.few
  let E : DV -> En := fun x => [.val (pgD p), .val (.int p.lv), .val (.int room), .val (opt b), .val (.lst (p.ks.map .int)), .val x]
  have s1 : QC 4 (QN vw (Qc (Qh ixG (Qb 0) (eC (.int 1))) Qm)) [.val (pgD p), .val (.int p.lv), .val (.int room), .val (opt b), .un, .un] hp = some ((.nx, [.val (pgD p), .val (.int p.lv), .val (.int room), .val (opt b), .val (.lst (p.ks.map .int)), .un]), hp) := QP (XJ (ZS (Ql (Qe rfl) rfl (vF p hp))) (Ge _ hp))
  have len4 : ∀ z : Sl, QN ZD (Qc (Qb 4) Qm) [.val (pgD p), .val (.int p.lv), .val (.int room), .val (opt b), .val (.lst (p.ks.map .int)), z] hp = some (.int p.ks.length, hp) := fun z => (XJ (ZS (Qe rfl)) (kj _ hp)).trans (by rw [List.length_map])
  have tlv : ∀ z : Sl, eB (Qh gtD (Qb 1) (eC (.int 0))) [.val (pgD p), .val (.int p.lv), .val (.int room), .val (opt b), .val (.lst (p.ks.map .int)), z] hp = some (decide (0 < p.lv), hp) := fun z => QU (Ql (Qe rfl) rfl (by
    rw [Q4]
    show some (DV.bl _, _) = _
    congr 3
    by_cases q : 0 < p.lv
    . rw [decide_eq_true q, decide_eq_true (by omega)]
    . rw [decide_eq_false q, decide_eq_false (by omega)]))
  have t2 : eOr (eB (Qh neG (Qh ixG (Qb 0) (eC (.int 0))) (Qb 1))) (eOr (eB (Qh gtD (QN ZD (Qc (Qb 4) Qm)) (Qb 2))) (eB (Qh neG (QN ZD (Qc (Qh ixG (Qb 0) (eC (.int 2))) Qm)) (Qh ZG (QN ZD (Qc (Qb 4) Qm)) (QN G4 (Qc (Qh gtD (Qb 1) (eC (.int 0))) Qm)))))) [.val (pgD p), .val (.int p.lv), .val (.int room), .val (opt b), .val (.lst (p.ks.map .int)), .un] hp = some (false, hp) := by
    refine (xg (QU (Ql (Ql (Qe rfl) rfl (xE p hp)) (Qe rfl) (Qc6 _ hp)))).trans ?_
    have gt0 : gtD (.int p.ks.length) (.int room) hp = some (.bl false, hp) := by rw [Q4, decide_eq_false (by omega)]; rfl
    refine (xg (QU (b := false) (Ql (len4 _) (Qe rfl) gt0))).trans ?_
    . have gl : Qh gtD (Qb 1) (eC (.int 0)) [.val (pgD p), .val (.int p.lv), .val (.int room), .val (opt b), .val (.lst (p.ks.map .int)), .un] hp = some (.bl (decide (0 < p.lv)), hp) := Ql (Qe rfl) rfl (by
        rw [Q4]
        show some (DV.bl _, _) = _
        congr 3
        by_cases q : 0 < p.lv
        . rw [decide_eq_true q, decide_eq_true (by omega)]
        . rw [decide_eq_false q, decide_eq_false (by omega)])
      have pl := ok.parts
      have iv : QN G4 (Qc (Qh gtD (Qb 1) (eC (.int 0))) Qm) [.val (pgD p), .val (.int p.lv), .val (.int room), .val (opt b), .val (.lst (p.ks.map .int)), .un] hp = some (.int (if decide (0 < p.lv) = true then 1 else 0), hp) := XJ (ZS gl) (by cases decide (0 < p.lv) <;> rfl)
      have sm : Qh ZG (QN ZD (Qc (Qb 4) Qm)) (QN G4 (Qc (Qh gtD (Qb 1) (eC (.int 0))) Qm)) [.val (pgD p), .val (.int p.lv), .val (.int room), .val (opt b), .val (.lst (p.ks.map .int)), .un] hp = some (.int p.ps.length, hp) := Ql (len4 _) iv (by
        show some (DV.int _, _) = _
        congr 3
        rw [pl]
        by_cases q : p.lv = 0
        . simp [q]
        . have : 0 < p.lv := by omega
          simp [q, this])
      have lp : QN ZD (Qc (Qh ixG (Qb 0) (eC (.int 2))) Qm) [.val (pgD p), .val (.int p.lv), .val (.int room), .val (opt b), .val (.lst (p.ks.map .int)), .un] hp = some (.int p.ps.length, hp) := (XJ (ZS (Ql (Qe rfl) rfl (Vm p hp))) (KK _ hp)).trans (by rw [List.length_map])
      exact QU (Ql lp sm (Qc6 _ hp))
  have t3 : eB (Qh neG (Qh isD (Qh ixG (Qb 0) (eC (.int 3))) (eC .non)) (Qh isD (Qh ixG (Qb 0) (eC (.int 4))) (eC .non))) [.val (pgD p), .val (.int p.lv), .val (.int room), .val (opt b), .val (.lst (p.ks.map .int)), .un] hp = some (false, hp) := by
    refine QU (Ql (x := .bl p.hi.isNone) (y := .bl p.hi.isNone) (Ql (Ql (Qe rfl) rfl (UP p hp)) rfl (by rw [zU]; rfl)) (Ql (Ql (Qe rfl) rfl (Kw p hp)) rfl ?_) (Qfh _ hp))
    rw [jD]
    rcases hk with ⟨a, c⟩ | ⟨x, s, a, c⟩ <;> rw [a, c] <;> rfl
  have t7 : ∀ z : Sl, QF (Qh eqG JG (JW Qm)) [.val (pgD p), .val (.int p.lv), .val (.int room), .val (opt b), .val (.lst (p.ks.map .int)), z] hp = some ((.rt (.bl true), [.val (pgD p), .val (.int p.lv), .val (.int room), .val (opt b), .val (.lst (p.ks.map .int)), z]), hp) := fun z => by
    have c : JG [.val (pgD p), .val (.int p.lv), .val (.int room), .val (opt b), .val (.lst (p.ks.map .int)), z] hp = some (.lst [], hp) := by
      have src : xOf (kA (Qc (eC (.int 1)) (Qc (QN ZD (Qc (Qb 4) Qm)) Qm))) [.val (pgD p), .val (.int p.lv), .val (.int room), .val (opt b), .val (.lst (p.ks.map .int)), z] hp = some (nxD (Zd 1 (p.ks.length - 1)), hp) := vi (Qbs (a := 1) (b := p.ks.length) (J5 rfl (len4 z)) (by omega) (by omega))
      have cx := vK (hp := hp) (t := fun d => eB (Qh geD (Qh ixG (Qb 1) (Qh zk (Qb 0) (eC (.int 1)))) (Qh ixG (Qb 1) (Qb 0))) (cE [4] [.val (pgD p), .val (.int p.lv), .val (.int room), .val (opt b), .val (.lst (p.ks.map .int)), z] d)) (f := fun d => Qb 0 (cE [4] [.val (pgD p), .val (.int p.lv), .val (.int room), .val (opt b), .val (.lst (p.ks.map .int)), z] d)) (Zd 1 (p.ks.length - 1)) (fun d hd => by
        obtain ⟨i, hi⟩ := List.mem_iff_getElem?.mp hd
        obtain ⟨i1, i2⟩ := Vt hi
        subst i2
        show eB _ [.val (.int (1 + (i : Int))), .val (.lst (p.ks.map .int))] hp = _
        have g1 : p.ks[i]? = some (p.ks[i]'(by omega)) := List.getElem?_eq_getElem _
        have g2 : p.ks[i + 1]? = some (p.ks[i + 1]'(by omega)) := List.getElem?_eq_getElem _
        have lt := TR.YR ok.sorted g1 g2 (by omega)
        refine QU (b := false) (Ql (Ql (Qe rfl) (Ql (Qe rfl) rfl (d := .int (i : Int)) (by show some (DV.int (1 + (i : Int) - 1), hp) = _; rw [show 1 + (i : Int) - 1 = i by omega])) (ixL g1 hp)) (Ql (Qe rfl) (Qe rfl) (by rw [show 1 + (i : Int) = ((i + 1 : Nat) : Int) by omega]; exact ixL g2 hp)) ?_)
        rw [Zq, decide_eq_false (by omega)]; rfl) (by rw [Je]; omega)
      unfold JG YD
      rw [Qi src, Qi (show Xf _ _ _ lim 0 hp = _ from cx)]; rfl
    exact Q7 (Ql c rfl (Qcl hp))
  have hiE : ∀ z : Sl, Qh ixG (Qb 0) (eC (.int 3)) [.val (pgD p), .val (.int p.lv), .val (.int room), .val (opt b), .val (.lst (p.ks.map .int)), z] hp = some (opt p.hi, hp) := fun z => Ql (Qe rfl) rfl (UP p hp)
  have t6 : ∀ row : List Int, (∀ x h, row.getLast? = some x -> p.hi = some h -> x < h) -> sIf (Jh (eB (Qh xr (Qh ixG (Qb 0) (eC (.int 3))) (eC .non))) (Jh (eB (Qh neG (Qb 5) (JW Qm))) (eB (Qh geD (Qh ixG (Qb 5) (XF (eC (.int 1)))) (Qh ixG (Qb 0) (eC (.int 3))))))) (QF (eC (.bl false))) Q6 (E (.lst (row.map .int))) hp = some ((.nx, E (.lst (row.map .int))), hp) := fun row hrow => by
    refine (Zg ?_).trans Zh
    cases hh : p.hi with
    | none => exact qV (QU (b := false) (Ql (hiE _) rfl (by rw [hh]; rfl)))
    | some h =>
      refine (qZ (QU (b := true) (Ql (hiE _) rfl (by rw [hh]; rfl)))).trans ?_
      cases hl : row.getLast? with
      | none =>
        have : row = [] := List.getLast?_eq_none_iff.mp hl
        exact qV (QU (b := false) (Ql (Qe rfl) rfl ((UQ row hp).trans (by rw [this]; rfl))))
      | some x =>
        have hne : row ≠ [] := fun e => by rw [e] at hl; cases hl
        refine (qZ (QU (b := true) (Ql (Qe rfl) rfl ((UQ row hp).trans (by rw [decide_eq_false hne]; rfl))))).trans ?_
        refine QU (b := false) (Ql (Ql (Qe rfl) rfl (QaU hl hp)) ((hiE _).trans (by rw [hh])) ?_)
        show geD (.int x) (.int h) hp = _
        have := hrow x h hl hh
        rw [Zq, decide_eq_false (by omega)]; rfl
  have nk : ∀ z : Sl, eB (Qh neG (Qb 4) (JW Qm)) [.val (pgD p), .val (.int p.lv), .val (.int room), .val (opt b), .val (.lst (p.ks.map .int)), z] hp = some (!decide (p.ks = []), hp) := fun z => QU (Ql (Qe rfl) rfl (UQ p.ks hp))
  have pre : ∀ (g : DSx) (r : (Fl × En) × Hs), g (E (.lst (p.ks.map .int))) hp = some r -> Qr (QC 4 (QN vw (Qc (Qh ixG (Qb 0) (eC (.int 1))) Qm))) (Qr (sIf (eOr (eB (Qh neG (Qh ixG (Qb 0) (eC (.int 0))) (Qb 1))) (eOr (eB (Qh gtD (QN ZD (Qc (Qb 4) Qm)) (Qb 2))) (eB (Qh neG (QN ZD (Qc (Qh ixG (Qb 0) (eC (.int 2))) Qm)) (Qh ZG (QN ZD (Qc (Qb 4) Qm)) (QN G4 (Qc (Qh gtD (Qb 1) (eC (.int 0))) Qm))))))) (QF (eC (.bl false))) Q6) (Qr (sIf (eB (Qh neG (Qh isD (Qh ixG (Qb 0) (eC (.int 3))) (eC .non)) (Qh isD (Qh ixG (Qb 0) (eC (.int 4))) (eC .non)))) (QF (eC (.bl false))) Q6) (Qr (QC 5 (Qb 4)) g))) [.val (pgD p), .val (.int p.lv), .val (.int room), .val (opt b), .un, .un] hp = some r := fun g r hg => (Qo s1).trans ((Qo ((Zg t2).trans Zh)).trans ((Qo ((Zg t3).trans Zh)).trans ((Qo (env1 := E (.lst (p.ks.map .int))) (QP (Qe rfl))).trans hg)))
  cases hb : b with
  | none =>
    subst hb
    refine QY (env := E (.lst (p.ks.map .int))) (pre _ _ ?_)
    refine (Qo ((Zg (QU (b := false) (Ql (Qe rfl) rfl rfl))).trans Zh)).trans ?_
    exact (Qo (t6 p.ks fun x h hx hh => ok.high x (List.mem_of_getLast? hx) h hh)).trans (t7 _)
  | some v =>
    subst hb
    have row : Qh ZG (JW (Qc (Qb 3) Qm)) (Qb 4) (E (.lst (p.ks.map .int))) hp = some (.lst ((v :: p.ks).map .int), hp) := by
      refine Ql (x := .lst [.int v]) (y := .lst (p.ks.map .int)) rfl (Qe rfl) ?_
      show (Qu (Xu ([DV.int v] ++ p.ks.map .int)) >>= fun _ => pure (DV.lst ([DV.int v] ++ p.ks.map .int))) hp = _
      rw [show Xu ([DV.int v] ++ p.ks.map .int) = true from decide_eq_true (by simp; unfold lim; omega)]; rfl
    have inner : sIf (eOr (Jh (eB (Qh neG (Qb 4) (JW Qm))) (eB (Qh ltD (Qh ixG (Qb 4) (eC (.int 0))) (Qb 3)))) (Jh (eB (Qh neG (Qb 4) (JW Qm))) (Jh (eB (Qh gtD (Qb 1) (eC (.int 0)))) (eB (Qh eqG (Qh ixG (Qb 4) (eC (.int 0))) (Qb 3)))))) (QF (eC (.bl false))) Q6 (E (.lst ((v :: p.ks).map .int))) hp = some ((.nx, E (.lst ((v :: p.ks).map .int))), hp) := by
      refine (Zg ?_).trans Zh
      cases hks : p.ks with
      | nil =>
        have n0 := nk (.val (.lst ((v :: p.ks).map .int)))
        rw [decide_eq_true hks] at n0
        rw [<- hks]
        exact (xg (qV n0)).trans (qV n0)
      | cons k0 kr =>
        have n0 := nk (.val (.lst ((v :: p.ks).map .int)))
        rw [decide_eq_false (by rw [hks]; simp)] at n0
        rw [<- hks]
        have g0 : p.ks[0]? = some k0 := by rw [hks]; rfl
        have lo := ok.low k0 (by rw [hks]; simp) v rfl
        refine (xg ((qZ n0).trans (QU (b := false) (Ql (Ql (Qe rfl) rfl (ixL (i := 0) g0 hp)) (Qe rfl) ?_)))).trans ((qZ n0).trans ?_)
        . show ltD (.int k0) (.int v) hp = _
          rw [Zi, decide_eq_false (by omega)]; rfl
        . by_cases q : 0 < p.lv
          . have lf := ok.lowF q k0 (by rw [hks]; simp) v rfl
            refine (qZ ((tlv _).trans (by rw [decide_eq_true q]))).trans (QU (b := false) (Ql (Ql (Qe rfl) rfl (ixL (i := 0) g0 hp)) (Qe rfl) ((eqI k0 v hp).trans ?_)))
            rw [show (k0 == v) = false by simp; omega]
          . exact qV ((tlv _).trans (by rw [decide_eq_false q]))
    refine QY (env := E (.lst ((v :: p.ks).map .int))) (pre _ _ ?_)
    refine (Qo ((JV (QU (b := true) (Ql (Qe rfl) rfl rfl))).trans ((Qo (env1 := E (.lst ((v :: p.ks).map .int))) (QP row)).trans inner))).trans ?_
    refine (Qo (t6 (v :: p.ks) fun x h hx hh => ?_)).trans (t7 _)
    have hm := List.mem_of_getLast? hx
    rcases List.mem_cons.mp hm with rfl | hm
    . exact ok.wide h hh x rfl
    . exact ok.high x hm h hh
theorem VX {hp : Hs} {b : Option Int} {p : TR.Pg} {d : Nat} {kvs : List (Key × DV)} {bg : TR.Bg} (hd : hp[d]? = some (.dic kvs)) (hl : p.ks.length <= 90) (hp2 : p.ps.length = p.ks.length + 1)
    (hk : ∀ j k, p.ps[j]? = some k -> ∃ c : Nat, k = (c : Int) /\ YU kvs (.inl (c : Int)) = some (opt (TR.JH b p.ks j))) : Jy [pgD p, opt b, .ref d] hp = some (.bl true, hp) := by
  have s1 : Qh ZG (JW (Qc (Qb 1) Qm)) (QN vw (Qc (Qh ixG (Qb 0) (eC (.int 1))) Qm)) [.val (pgD p), .val (opt b), .val (.ref d), .un, .un] hp = some (.lst (opt b :: p.ks.map .int), hp) := by
    refine Ql (x := .lst [opt b]) (y := .lst (p.ks.map .int)) (by cases b <;> rfl) (XJ (ZS (Ql (Qe rfl) rfl (vF p hp))) (Ge _ hp)) ?_
    show (Qu (Xu ([opt b] ++ p.ks.map .int)) >>= fun _ => pure (DV.lst ([opt b] ++ p.ks.map .int))) hp = _
    rw [show Xu ([opt b] ++ p.ks.map .int) = true from decide_eq_true (by simp; unfold lim; omega)]; rfl
  have st : ∀ j, j < p.ps.length -> ixG (.lst (opt b :: p.ks.map .int)) (.int (j : Int)) hp = some (opt (TR.JH b p.ks j), hp) := fun j hj => by
    show ixD (.lst (opt b :: p.ks.map .int)) (.int (j : Int)) hp = _
    have : (opt b :: p.ks.map DV.int)[j]? = some (opt (TR.JH b p.ks j)) := by
      cases j with
      | zero => rfl
      | succ i =>
        have hi : i < p.ks.length := by omega
        rw [List.getElem?_cons_succ, List.getElem?_map, List.getElem?_eq_getElem hi]
        show some (DV.int p.ks[i]) = some (opt (p.ks[i]?))
        rw [List.getElem?_eq_getElem hi]; rfl
    simp only [ixD, YX this]; rfl
  have W : WP (jV (fun d env => do let env' <- gN 4 d env; YK env') (Zd 0 p.ps.length) [.val (pgD p), .val (opt b), .val (.ref d), .val (.lst (opt b :: p.ks.map .int)), .un]) hp fun q w => ∃ z, q = (.nx, [.val (pgD p), .val (opt b), .val (.ref d), .val (.lst (opt b :: p.ks.map .int)), z]) /\ w = hp := by
    refine jJ (fun i env w => ∃ z, env = [.val (pgD p), .val (opt b), .val (.ref d), .val (.lst (opt b :: p.ks.map .int)), z] /\ w = hp) _ ⟨.un, rfl, rfl⟩ (fun i d0 hd0 env w ⟨z, e, ew⟩ => ?_) (fun env w ⟨z, e, ew⟩ => ⟨z, by rw [e], ew⟩)
    subst e ew
    obtain ⟨hi, hd'⟩ := zV hd0
    subst hd'
    obtain ⟨c, c1, c2⟩ := hk i _ (List.getElem?_eq_getElem hi)
    have kd : Qh ixG (Qh ixG (Qb 0) (eC (.int 2))) (Qb 4) [.val (pgD p), .val (opt b), .val (.ref d), .val (.lst (opt b :: p.ks.map .int)), .val (.int (i : Int))] w = some (.int (c : Int), w) := Ql (Ql (Qe rfl) rfl (Vm p w)) (Qe rfl) (Xh (i := i) (by rw [List.getElem?_map, List.getElem?_eq_getElem hi, c1]; rfl) w)
    refine ⟨_, _, (Zg ((xg (QU (b := false) (Ql kd (Qe rfl) (Qbk hd c2)))).trans (QU (b := false) (Ql (Ql (Qe rfl) kd (QcX hd c2)) (Ql (Qe rfl) (Qe rfl) (st i hi)) ((neO _ _ w).trans (by simp)))))).trans Zh, ⟨_, rfl, rfl⟩⟩
  obtain ⟨q, w, e, z, rfl, rfl⟩ := W
  have hl1 : QN ZD (Qc (Qh ixG (Qb 0) (eC (.int 2))) Qm) [.val (pgD p), .val (opt b), .val (.ref d), .val (.lst (opt b :: p.ks.map .int)), .un] w = some (.int p.ps.length, w) := (XJ (ZS (Ql (Qe rfl) rfl (Vm p w))) (KK _ w)).trans (by rw [List.length_map])
  have L : YH [.val (pgD p), .val (opt b), .val (.ref d), .val (.lst (opt b :: p.ks.map .int)), .un] w = some ((.nx, [.val (pgD p), .val (opt b), .val (.ref d), .val (.lst (opt b :: p.ks.map .int)), z]), w) := qy (qS (m := p.ps.length) (ZS hl1) (by omega)) e
  exact QY ((Qo (QP s1)).trans ((Qo L).trans (Q7 (d := .bl true) rfl)))
theorem gO {S : TR.Sh} {pl fl : Nat} (hpf : pl ≠ fl) {n : Nat} {r : List Nat} (c : TR.Chain S n r) : ∀ (hp : Hs) (F : List Nat) (fuel : Nat), hp[pl]? = some (.lst (S.pg.map pgD)) -> hp[fl]? = some (.lst (nD F)) -> (∀ x ∈ r, x ∉ F) -> r.Nodup -> F.length + r.length < 100000 -> r.length < fuel ->
    XG (eB (Qh xr (Qb 1) (eC .non))) zc fuel [.val (.ref pl), .val (.int n), .val (.ref fl)] hp = some ((.nx, [.val (.ref pl), .val .non, .val (.ref fl)]), hp.set fl (.lst (nD (F ++ r)))) := by
  have turn : ∀ (hp : Hs) (F : List Nat) (n : Nat) (p : TR.Pg), hp[pl]? = some (.lst (S.pg.map pgD)) -> hp[fl]? = some (.lst (nD F)) -> n ∉ F -> F.length < 100000 -> S.pg[n]? = some p -> zc [.val (.ref pl), .val (.int n), .val (.ref fl)] hp = some ((.nx, [.val (.ref pl), .val (oN p.sd), .val (.ref fl)]), hp.set fl (.lst (nD (F ++ [n])))) := fun hp F n p h1 h2 h3 h4 h5 => by
    have hn : n < S.pg.length := (List.getElem?_eq_some_iff.mp h5).1
    have len : QN ZD (Qc (Qb 0) Qm) [.val (.ref pl), .val (.int n), .val (.ref fl)] hp = some (.int (S.pg.length : Nat), hp) := (XJ (ZS (Qe rfl)) (YM h1)).trans (by rw [List.length_map])
    have t1 : eB (Qh inG (Qb 1) (Qb 2)) [.val (.ref pl), .val (.int n), .val (.ref fl)] hp = some (false, hp) := QU (Ql (Qe rfl) (Qe rfl) ((QeH h2).trans (by rw [decide_eq_false h3])))
    have t2 : JT (eB (X6 leD ltD (eC (.int 0)) (Qb 1) (QN ZD (Qc (Qb 0) Qm)))) [.val (.ref pl), .val (.int n), .val (.ref fl)] hp = some (false, hp) := zd (b := true) (QU (Qau rfl (Qe rfl) len (by omega) (by omega)))
    have ap := Ua (o := Qb 2) (e := Qb 1) (env := [.val (.ref pl), .val (.int n), .val (.ref fl)]) (Qe rfl) h2 (Qe rfl) (by rw [qW]; omega)
    rw [show nD F ++ [.int (n : Int)] = nD (F ++ [n]) by simp [nD]] at ap
    refine (Qo ((Zg ((xg t1).trans t2)).trans Zh)).trans ((Qo (XR ap)).trans ?_)
    exact QP (Ql (Ql (Qe rfl) (Qe rfl) (Y9 (i := n) ((QT _ _ _ _ (Ne.symm hpf)).trans h1) (by rw [List.getElem?_map, h5]; rfl))) rfl (Kw p _))
  have tst : ∀ (hp : Hs) (i : Int), eB (Qh xr (Qb 1) (eC .non)) [.val (.ref pl), .val (.int i), .val (.ref fl)] hp = some (true, hp) := fun hp i => QU (Ql (Qe rfl) rfl rfl)
  have tsf : ∀ (hp : Hs), eB (Qh xr (Qb 1) (eC .non)) [.val (.ref pl), .val .non, .val (.ref fl)] hp = some (false, hp) := fun hp => QU (Ql (Qe rfl) rfl rfl)
  induction c with
  | @last n p hn hs =>
    intro hp F fuel h1 h2 h3 h4 h5 h6
    obtain ⟨g, rfl⟩ : ∃ g, fuel = g + 1 + 1 := ⟨fuel - 2, by simp at h6; omega⟩
    have tn := turn hp F n p h1 h2 (h3 n (by simp)) (by omega) hn
    rw [hs] at tn
    rw [Kj (tst hp n) tn]
    exact uG (tsf _)
  | @next n p s r hn hs c ih =>
    intro hp F fuel h1 h2 h3 h4 h5 h6
    obtain ⟨g, rfl⟩ : ∃ g, fuel = g + 1 := ⟨fuel - 1, by omega⟩
    have tn := turn hp F n p h1 h2 (h3 n (by simp)) (by omega) hn
    rw [hs] at tn
    rw [Kj (tst hp n) tn]
    obtain ⟨n1, n2⟩ := List.nodup_cons.mp h4
    have e := ih (hp.set fl (.lst (nD (F ++ [n])))) (F ++ [n]) g ((QT _ _ _ _ (Ne.symm hpf)).trans h1) (gss h2) (fun x hx hm => by
      rcases List.mem_append.mp hm with hm | hm
      . exact h3 x (List.mem_cons_of_mem _ hx) hm
      . rw [List.mem_singleton.mp hm] at hx; exact n1 hx) n2 (by simp at h5 ⊢; omega) (by simp at h6; omega)
    rw [show (oN (some s) : DV) = .int (s : Int) from rfl, e, List.set_set, List.append_assoc]; rfl
theorem Qbp {S : TR.Sh} {hp : Hs} {pl n : Nat} {r : List Nat} (h : hp[pl]? = some (.lst (S.pg.map pgD))) (c : TR.Chain S n r) (hn : r.Nodup) (hl : r.length < 99000) : YI [.ref pl, .int n] hp = some (.ref hp.length, hp ++ [.lst (nD r)]) := by
  have lp : pl < hp.length := (List.getElem?_eq_some_iff.mp h).1
  have e := gO (pl := pl) (fl := hp.length) (by omega) c (hp ++ [.lst (nD [])]) [] 100000 ((List.getElem?_append_left lp).trans h) (by simp) (fun x _ => by simp) hn (by simp; omega) (by omega)
  rw [List.set_append_right _ _ (Nat.le_refl _), Nat.sub_self, List.set_cons_zero, List.nil_append] at e
  have L : qR [.val (.ref pl), .val (.int n), .val (.ref hp.length)] (hp ++ [.lst (nD [])]) = some ((.nx, [.val (.ref pl), .val .non, .val (.ref hp.length)]), hp ++ [.lst (nD r)]) := by
    unfold qR; exact e
  have s1 : QC 2 (XS Qm) [.val (.ref pl), .val (.int n), .un] hp = some ((.nx, [.val (.ref pl), .val (.int n), .val (.ref hp.length)]), hp ++ [.lst (nD [])]) := rfl
  exact QY ((Qo s1).trans ((Qo L).trans (Q7 (Qe rfl))))
theorem VM {S : TR.Sh} {n : Nat} {r : List Nat} (c : TR.Chain S n r) : r[0]? = some n := by cases c <;> rfl
theorem vH {S : TR.Sh} {n : Nat} {r : List Nat} (c : TR.Chain S n r) : ∀ (i m m' : Nat), r[i]? = some m -> r[i + 1]? = some m' -> ∃ p, S.pg[m]? = some p /\ p.sd = some m' := by
  induction c with
  | last hn hs => intro i m m' h h'; simp at h'
  | @next n p s r hn hs c ih =>
    intro i m m' h h'
    match i, h, h' with
    | 0, h, h' =>
      cases h
      rw [List.getElem?_cons_succ, VM c] at h'
      cases h'
      exact ⟨p, hn, hs⟩
    | i + 1, h, h' => exact ih i m m' (by simpa using h) (by simpa using h')
theorem kE {S : TR.Sh} {bg : TR.Bg} (T : TR.Tree S bg) {hp : Hs} {pl n d : Nat} {r below : List Nat} {p : TR.Pg} (hr : S.room <= 50) (h : hp[pl]? = some (.lst (S.pg.map pgD))) (hd : hp[d]? = some (.dic (bgD bg below))) (hn : S.pg[n]? = some p) (hb : bg n = none) (c : TR.Chain S n r) (hl : r.length < 99000)
    (hbl : 0 < p.lv -> ∀ m q, S.pg[m]? = some q -> q.lv + 1 = p.lv -> m ∈ below) :
    Yo [.ref pl, .int S.room, .int p.lv, .int n, .ref d] hp = some (.ref (hp.length + 1), hp ++ [.lst (nD r), .dic (bgD bg r)]) := by
  obtain ⟨f1, f2, f3, f4, f5⟩ := c.facts T p hn
  have nod := TR.xU f3
  have lp : pl < hp.length := (List.getElem?_eq_some_iff.mp h).1
  have ld : d < hp.length := (List.getElem?_eq_some_iff.mp hd).1
  let W : List Nat -> Hs := fun s => hp ++ [.lst (nD r), .dic (bgD bg s)]
  have wp : ∀ s, (W s)[pl]? = some (.lst (S.pg.map pgD)) := fun s => (List.getElem?_append_left lp).trans h
  have wd : ∀ s, (W s)[d]? = some (.dic (bgD bg below)) := fun s => (List.getElem?_append_left ld).trans hd
  have wr : ∀ s, (W s)[hp.length]? = some (.lst (nD r)) := fun s => by show (hp ++ _)[hp.length]? = _; simp
  have wb : ∀ s, (W s)[hp.length + 1]? = some (.dic (bgD bg s)) := fun s => by
    show (hp ++ _)[hp.length + 1]? = _
    rw [List.getElem?_append_right (by omega)]; simp
  have ws : ∀ s s', (W s).set (hp.length + 1) (.dic (bgD bg s')) = W s' := fun s s' => by
    show (hp ++ _).set _ _ = _
    rw [List.set_append_right _ _ (by omega)]; simp [W]
  have M : WP (xw (nxW hp.length) (fun d env => do let env' <- gN 3 d env; jn env') 100000 0 [.val (.ref pl), .val (.int S.room), .val (.int p.lv), .val (.int n), .val (.ref d), .val (.ref hp.length), .val (.ref (hp.length + 1)), .val .non, .un]) (W []) fun q w => ∃ z3 z7 z8, q = (.nx, [.val (.ref pl), .val (.int S.room), .val (.int p.lv), z3, .val (.ref d), .val (.ref hp.length), .val (.ref (hp.length + 1)), z7, z8]) /\ w = W r := by
    refine uP (nD r) (fun i env w => ∃ z3 z8 b, env = [.val (.ref pl), .val (.int S.room), .val (.int p.lv), z3, .val (.ref d), .val (.ref hp.length), .val (.ref (hp.length + 1)), .val (opt b), z8] /\ w = W (r.take i) /\ ∀ m, r[i]? = some m -> b = bg m) (by rw [qW]; omega) (fun i env w _ ⟨z3, z8, b, _, ew, _⟩ => by rw [ew]; exact QdS (wr _) i) ⟨_, _, none, rfl, rfl, fun m hm => ?_⟩ (fun i d0 hd0 env w ⟨z3, z8, b, e, ew, eb⟩ => ?_) (fun env w ⟨z3, z8, b, e, ew, eb⟩ => ⟨z3, .val (opt b), z8, by rw [e], by rw [ew, qW, List.take_length]⟩)
    . rw [VM c] at hm; cases hm; exact hb.symm
    . subst e ew
      have hi : i < r.length := by have := (List.getElem?_eq_some_iff.mp hd0).1; rw [qW] at this; exact this
      have hm : r[i]? = some r[i] := List.getElem?_eq_getElem hi
      have hd1 := vz hm
      rw [hd1] at hd0; cases hd0
      have eb' := eb _ hm
      subst eb'
      obtain ⟨q, q1, q2⟩ := f1 r[i] (List.getElem_mem hi)
      have ok := T.page _ q q1
      have few := ok.few
      have lk := (T.link _ q q1).imp id fun ⟨x, s, _, b1, b2, _⟩ => (⟨x, s, b1, b2⟩ : ∃ x s, q.hi = some x /\ q.sd = some s)
      have ps := VT ok lk hr (W (r.take i))
      rw [q2] at ps
      let E : DV -> DV -> En := fun x y => [.val (.ref pl), .val (.int S.room), .val (.int p.lv), .val (.int (r[i] : Nat)), .val (.ref d), .val (.ref hp.length), .val (.ref (hp.length + 1)), .val x, .val y]
      have s1 : QC 8 (Qh ixG (Qb 0) (Qb 3)) [.val (.ref pl), .val (.int S.room), .val (.int p.lv), .val (.int (r[i] : Nat)), .val (.ref d), .val (.ref hp.length), .val (.ref (hp.length + 1)), .val (opt (bg r[i])), z8] (W (r.take i)) = some ((.nx, E (opt (bg r[i])) (pgD q)), W (r.take i)) := QP (Ql (Qe rfl) (Qe rfl) (Y9 (i := r[i]) (wp _) (by rw [List.getElem?_map, q1]; rfl)))
      have s2 : sIf (JT (eB (Qs 4 JA (Qc (Qb 8) (Qc (Qb 2) (Qc (Qb 1) (Qc (Qb 7) Qm))))))) (QF (eC .non)) Q6 (E (opt (bg r[i])) (pgD q)) (W (r.take i)) = some ((.nx, E (opt (bg r[i])) (pgD q)), W (r.take i)) := (Zg (zd (b := true) (QU (Zl (kR (Qe rfl) (Qe rfl) (Qe rfl) (Qe rfl)) rfl ps)))).trans Zh
      have tl : ∀ b : Bool, decide (0 < p.lv) = b -> eB (Qh gtD (Qb 2) (eC (.int 0))) (E (opt (bg r[i])) (pgD q)) (W (r.take i)) = some (b, W (r.take i)) := fun b hb => QU (Ql (Qe rfl) rfl (by
        rw [Q4, <- hb]
        show some (DV.bl _, _) = _
        congr 3
        by_cases z : 0 < p.lv
        . rw [decide_eq_true z, decide_eq_true (by omega)]
        . rw [decide_eq_false z, decide_eq_false (by omega)]))
      have s3 : sIf (Jh (eB (Qh gtD (Qb 2) (eC (.int 0)))) (JT (eB (Qs 3 Jy (Qc (Qb 8) (Qc (Qb 7) (Qc (Qb 4) Qm))))))) (QF (eC .non)) Q6 (E (opt (bg r[i])) (pgD q)) (W (r.take i)) = some ((.nx, E (opt (bg r[i])) (pgD q)), W (r.take i)) := by
        by_cases z : 0 < p.lv
        . have pl0 := ok.parts
          rw [if_neg (by omega)] at pl0
          have ks := VX (bg := bg) (b := bg r[i]) (p := q) (wd (r.take i)) (by omega) pl0 (fun j k hj => by
            obtain ⟨c', y, a1, a2, a3, a4⟩ := T.kid _ q q1 (by omega) j k hj
            exact ⟨c', a1, by rw [Qcm bg (hbl z c' y a2 (by omega)), a4]⟩)
          exact (Zg ((qZ (tl true (decide_eq_true z))).trans (zd (b := true) (QU (Zl (Xk (Qe rfl) (Qe rfl) (Qe rfl)) rfl ks))))).trans Zh
        . exact (Zg (qV (tl false (decide_eq_false z)))).trans Zh
      have nin : r[i] ∉ r.take i := fun hm' => by
        obtain ⟨j, hj, e⟩ := List.mem_iff_getElem.mp hm'
        rw [List.getElem_take] at e
        have hj' : j < i := by rw [List.length_take] at hj; omega
        exact absurd ((List.getElem_inj nod).mp e) (by omega)
      have s4 := QbZ (e := Qb 7) (o := Qb 6) (j := Qb 3) (env := E (opt (bg r[i])) (pgD q)) (n := r[i]) (Qe rfl) (Qe rfl) (Qe rfl) (wb (r.take i)) (by rw [ux, List.length_take]; omega)
      rw [Qb2 bg nin, ws] at s4
      have tk : r.take i ++ [r[i]] = r.take (i + 1) := by rw [List.take_succ, hm]; rfl
      rw [tk] at s4
      have s5 : QC 7 (Qh ixG (Qb 8) (eC (.int 3))) (E (opt (bg r[i])) (pgD q)) (W (r.take (i + 1))) = some ((.nx, E (opt q.hi) (pgD q)), W (r.take (i + 1))) := QP (Ql (Qe rfl) rfl (UP q _))
      refine ⟨(.nx, E (opt q.hi) (pgD q)), W (r.take (i + 1)), (Qo s1).trans ((Qo s2).trans ((Qo s3).trans ((Qo s4).trans s5))), ⟨_, _, q.hi, rfl, rfl, fun m hm' => ?_⟩⟩
      obtain ⟨q', g1, g2⟩ := vH c i _ m hm hm'
      rw [q1] at g1; cases g1
      obtain ⟨x, y, k1, k2, k3, k4, k5⟩ := TR.Ke T q1 g2
      rw [k1, k4]
  obtain ⟨q, w, e, z3, z7, z8, rfl, rfl⟩ := M
  have L : qu [.val (.ref pl), .val (.int S.room), .val (.int p.lv), .val (.int n), .val (.ref d), .val (.ref hp.length), .val (.ref (hp.length + 1)), .val .non, .un] (W []) = some ((.nx, [.val (.ref pl), .val (.int S.room), .val (.int p.lv), z3, .val (.ref d), .val (.ref hp.length), .val (.ref (hp.length + 1)), z7, z8]), W r) := by
    unfold qu Ut
    have x : xLs (Qb 5) [.val (.ref pl), .val (.int S.room), .val (.int p.lv), .val (.int n), .val (.ref d), .val (.ref hp.length), .val (.ref (hp.length + 1)), .val .non, .un] (W []) = some (nxW hp.length, W []) := by
      unfold xLs
      rw [Qi (Qe rfl)]
      show (Jt hp.length >>= _) _ = _
      rw [Qi (Z3 (wr []))]; rfl
    rw [Qi x]; exact e
  have li := Qbp h c nod hl
  have s1 : QC 5 (Qs 2 YI (Qc (Qb 0) (Qc (Qb 3) Qm))) [.val (.ref pl), .val (.int S.room), .val (.int p.lv), .val (.int n), .val (.ref d), .un, .un, .un, .un] hp = some ((.nx, [.val (.ref pl), .val (.int S.room), .val (.int p.lv), .val (.int n), .val (.ref d), .val (.ref hp.length), .un, .un, .un]), hp ++ [.lst (nD r)]) := QP (Zl (J5 (Qe rfl) (Qe rfl)) rfl li)
  have s2 : sIf (eB (Qh isD (Qb 5) (eC .non))) (QF (eC .non)) Q6 [.val (.ref pl), .val (.int S.room), .val (.int p.lv), .val (.int n), .val (.ref d), .val (.ref hp.length), .un, .un, .un] (hp ++ [.lst (nD r)]) = some ((.nx, [.val (.ref pl), .val (.int S.room), .val (.int p.lv), .val (.int n), .val (.ref d), .val (.ref hp.length), .un, .un, .un]), hp ++ [.lst (nD r)]) := (Zg (QU (b := false) (Ql (Qe rfl) rfl rfl))).trans Zh
  have s3 : QC 6 JE [.val (.ref pl), .val (.int S.room), .val (.int p.lv), .val (.int n), .val (.ref d), .val (.ref hp.length), .un, .un, .un] (hp ++ [.lst (nD r)]) = some ((.nx, [.val (.ref pl), .val (.int S.room), .val (.int p.lv), .val (.int n), .val (.ref d), .val (.ref hp.length), .val (.ref (hp.length + 1)), .un, .un]), W []) := by
    refine QP (d := .ref (hp.length + 1)) ?_
    show some (DV.ref (hp ++ [OV.lst (nD r)]).length, (hp ++ [OV.lst (nD r)]) ++ [OV.dic []]) = _
    simp [W, bgD]
  exact QY ((Qo s1).trans ((Qo s2).trans ((Qo s3).trans ((Qo (QP (d := .non) rfl)).trans ((Qo L).trans (Q7 (Qe rfl)))))))
section
variable {hp : Hs} {n k : Nat} {S : TR.Sh}
theorem vo (h1 : hp[n]? = some (.ins "Shelf" (shF S.room k S.top S.rd S.wr))) (h2 : hp[k]? = some (.lst (S.pg.map pgD))) (nk : n ≠ k) (hl : S.pg.length < 99000) (e1 e2 e3 e4 e5 : Sl) :
    Yd [.val (.ref n), e1, e2, e3, e4, e5] hp = some (.ref hp.length, hp.set n (.ins "Shelf" (shF S.room k S.top (S.rd + S.pg.length) S.wr)) ++ [.lst (S.pg.map pgD)]) := by
  let W : Nat -> Hs := fun i => hp.set n (.ins "Shelf" (shF S.room k S.top (S.rd + i) S.wr))
  have w1 : ∀ i, (W i)[n]? = some (.ins "Shelf" (shF S.room k S.top (S.rd + i) S.wr)) := fun i => gss h1
  have w2 : ∀ i, (W i)[k]? = some (.lst (S.pg.map pgD)) := fun i => gs nk h2
  have ws : ∀ i, (W i).set n (.ins "Shelf" (shF S.room k S.top (S.rd + i + 1) S.wr)) = W (i + 1) := fun i => by
    show (hp.set n _).set n _ = hp.set n _
    rw [List.set_set, show S.rd + (i : Int) + 1 = S.rd + ((i + 1 : Nat) : Int) by omega]
  have w0 : W 0 = hp := by
    show hp.set n _ = hp
    rw [show S.rd + ((0 : Nat) : Int) = S.rd by simp]; exact uu h1
  have cx : ∀ (m i fuel : Nat), m + i = S.pg.length -> m < fuel -> Xf (nxD (Zd 0 S.pg.length)) (fun d => gF (cE [0] [.val (.ref n), e1, e2, e3, e4, e5] d)) (fun d => QK "Shelf" "read" 2 ZC (Qb 1) (Qc (Qb 0) Qm) (cE [0] [.val (.ref n), e1, e2, e3, e4, e5] d)) fuel i (W i) = some ((S.pg.drop i).map pgD, W S.pg.length) := by
    intro m
    induction m with
    | zero =>
      intro i fuel e hf
      obtain ⟨g, rfl⟩ : ∃ g, fuel = g + 1 := ⟨fuel - 1, by omega⟩
      have : i = S.pg.length := by omega
      subst this
      have x := zg (Zd 0 S.pg.length) S.pg.length (by rw [Je]; omega) (W S.pg.length)
      rw [List.getElem?_eq_none (by rw [Je]; omega)] at x
      rw [Xf, Qi x, List.drop_length]; rfl
    | succ m ih =>
      intro i fuel e hf
      obtain ⟨g, rfl⟩ : ∃ g, fuel = g + 1 := ⟨fuel - 1, by omega⟩
      have hi : i < S.pg.length := by omega
      have x := zg (Zd 0 S.pg.length) i (by rw [Je]; omega) (W i)
      have gi : (Zd 0 S.pg.length)[i]? = some (.int (i : Int)) := by
        have := List.getElem?_eq_getElem (l := Zd 0 S.pg.length) (i := i) (by rw [Je]; exact hi)
        rw [this]; congr 1
        exact (zV this).2
      rw [gi] at x
      have hg : S.pg[i]? = some S.pg[i] := List.getElem?_eq_getElem hi
      have rd := uz (i := i) (d := pgD S.pg[i]) (w1 i) (w2 i) nk (by rw [List.getElem?_map, hg]; rfl)
      rw [ws] at rd
      have me : QK "Shelf" "read" 2 ZC (Qb 1) (Qc (Qb 0) Qm) (cE [0] [.val (.ref n), e1, e2, e3, e4, e5] (.int (i : Int))) (W i) = some (pgD S.pg[i], W (i + 1)) := Q9 (Qe rfl) (w1 i) (yT ..) (ZS (Qe rfl)) rfl rd
      rw [Xf, Qi x]
      simp only
      rw [show (gF (cE [0] [.val (.ref n), e1, e2, e3, e4, e5] (.int (i : Int)))) = pure true from rfl, pure_bind]
      simp only [if_true]
      rw [Qi me, Qi (ih (i + 1) g (by omega) (by omega)), List.drop_eq_getElem_cons hi]; rfl
  have src : xOf (yA (Qc (QK "Shelf" "pages" 1 Z8 (Qb 0) Qm) Qm)) [.val (.ref n), e1, e2, e3, e4, e5] hp = some (nxD (Zd 0 S.pg.length), hp) := vi (qS (m := S.pg.length) (ZS ((Q9 (Qe rfl) h1 (x6 ..) qI rfl (K6 h1 h2)).trans (by rw [List.length_map]))) (by omega))
  have c0 := cx S.pg.length 0 lim rfl (by unfold lim; omega)
  rw [w0, List.drop_zero] at c0
  unfold Yd YD
  rw [Qi src, Qi c0]
  show some (DV.ref (W S.pg.length).length, _) = _
  rw [show (W S.pg.length).length = hp.length from by show (hp.set n _).length = _; simp]
theorem Qaw {fl m : Nat} {F : List Nat} (h : hp[fl]? = some (.lst (nD (F ++ [m])))) : ixG (.ref fl) (.int (-1)) hp = some (.int (m : Int), hp) := by
  show (Jt fl >>= _) hp = _
  rw [Qi (Z3 h)]
  show (zo (atI (nD (F ++ [m])) (-1))) hp = _
  rw [show nD (F ++ [m]) = nD F ++ [.int (m : Int)] by simp [nD], Ga]; rfl
theorem vp {bg : TR.Bg} {pl fl : Nat} (hpf : pl ≠ fl) {m : Nat} {r : List Nat} (c : TR.Lefts S bg m r) : ∀ (hp : Hs) (F : List Nat) (fuel : Nat) (e0 e3 e4 e5 : Sl), hp[pl]? = some (.lst (S.pg.map pgD)) -> hp[fl]? = some (.lst (nD (F ++ [m]))) -> F.length + r.length <= S.pg.length -> S.pg.length < 99000 -> r.length <= fuel ->
    XG (Jh (eB (Qh gtD (Qh ixG (Qh ixG (Qb 1) (Qh ixG (Qb 2) (XF (eC (.int 1))))) (eC (.int 0))) (eC (.int 0)))) (eB (Qh leD (QN ZD (Qc (Qb 2) Qm)) (QN ZD (Qc (Qb 1) Qm))))) qp fuel [e0, .val (.ref pl), .val (.ref fl), e3, e4, e5] hp = some ((.nx, [e0, .val (.ref pl), .val (.ref fl), e3, e4, e5]), hp.set fl (.lst (nD (F ++ r)))) := by
  have lv : ∀ (hp : Hs) (F : List Nat) (m : Nat) (p : TR.Pg) (e0 e3 e4 e5 : Sl), hp[pl]? = some (.lst (S.pg.map pgD)) -> hp[fl]? = some (.lst (nD (F ++ [m]))) -> S.pg[m]? = some p -> Qh ixG (Qb 1) (Qh ixG (Qb 2) (XF (eC (.int 1)))) [e0, .val (.ref pl), .val (.ref fl), e3, e4, e5] hp = some (pgD p, hp) := fun hp F m p e0 e3 e4 e5 h1 h2 h3 => Ql (Qe rfl) (Ql (Qe rfl) rfl (Qaw h2)) (Y9 (i := m) h1 (by rw [List.getElem?_map, h3]; rfl))
  induction c with
  | @leaf m p hn h0 hb =>
    intro hp F fuel e0 e3 e4 e5 h1 h2 h3 h4 h5
    obtain ⟨g, rfl⟩ : ∃ g, fuel = g + 1 := ⟨fuel - 1, by simp at h5; omega⟩
    rw [uG (qV (QU (b := false) (Ql (Ql (lv hp F m p e0 e3 e4 e5 h1 h2 hn) rfl (xE p hp)) rfl (by rw [Q4, decide_eq_false (by omega)]; rfl)))), uu h2]
  | @fork m c p r hn h0 hb hc l ih =>
    intro hp F fuel e0 e3 e4 e5 h1 h2 h3 h4 h5
    obtain ⟨g, rfl⟩ : ∃ g, fuel = g + 1 := ⟨fuel - 1, by simp at h5; omega⟩
    have a1 : QN ZD (Qc (Qb 2) Qm) [e0, .val (.ref pl), .val (.ref fl), e3, e4, e5] hp = some (.int ((F ++ [m]).length : Nat), hp) := (XJ (ZS (Qe rfl)) (YM h2)).trans (by rw [qW])
    have a2 : QN ZD (Qc (Qb 1) Qm) [e0, .val (.ref pl), .val (.ref fl), e3, e4, e5] hp = some (.int (S.pg.length : Nat), hp) := (XJ (ZS (Qe rfl)) (YM h1)).trans (by rw [List.length_map])
    have t1 := lv hp F m p e0 e3 e4 e5 h1 h2 hn
    have tst : Jh (eB (Qh gtD (Qh ixG (Qh ixG (Qb 1) (Qh ixG (Qb 2) (XF (eC (.int 1))))) (eC (.int 0))) (eC (.int 0)))) (eB (Qh leD (QN ZD (Qc (Qb 2) Qm)) (QN ZD (Qc (Qb 1) Qm)))) [e0, .val (.ref pl), .val (.ref fl), e3, e4, e5] hp = some (true, hp) :=
      (qZ (QU (b := true) (Ql (Ql t1 rfl (xE p hp)) rfl (by rw [Q4, decide_eq_true (by omega)]; rfl)))).trans (QU (b := true) (Ql a1 a2 (by rw [Zr, decide_eq_true (by simp at h3 ⊢; omega)]; rfl)))
    have ap := Ua (o := Qb 2) (e := Qh ixG (Qh ixG (Qh ixG (Qb 1) (Qh ixG (Qb 2) (XF (eC (.int 1))))) (eC (.int 2))) (eC (.int 0))) (env := [e0, .val (.ref pl), .val (.ref fl), e3, e4, e5]) (d := .int (c : Int)) (Qe rfl) h2 (Ql (Ql t1 rfl (Vm p hp)) rfl (Xh (i := 0) (by rw [List.getElem?_map, hc]; rfl) hp)) (by rw [qW]; simp at h3 ⊢; omega)
    rw [show nD (F ++ [m]) ++ [.int (c : Int)] = nD (F ++ [m] ++ [c]) by simp [nD]] at ap
    rw [Kj (b := qp) tst (XR ap)]
    have e := ih (hp.set fl (.lst (nD (F ++ [m] ++ [c])))) (F ++ [m]) g e0 e3 e4 e5 ((QT _ _ _ _ (Ne.symm hpf)).trans h1) (gss h2) (by simp at h3 ⊢; omega) h4 (by simp at h5; omega)
    rw [e, List.set_set, List.append_assoc]; rfl
theorem vB {bg : TR.Bg} (T : TR.Tree S bg) {m : Nat} {r : List Nat} (c : TR.Lefts S bg m r) {p : TR.Pg} (hm : S.pg[m]? = some p) : r.length <= S.pg.length := by
  obtain ⟨g1, g2⟩ := c.get T p hm
  have cnt : ∀ j, j <= p.lv + 1 -> j <= ((List.range S.pg.length).filter (TR.lvB S fun x => decide (x < j))).length := fun j => by
    induction j with
    | zero => intro _; exact Nat.zero_le _
    | succ j ih =>
      intro hj
      rw [TR.xL]
      have i1 := ih (by omega)
      have hx : p.lv - j < r.length := by omega
      obtain ⟨q, q1, q2, _⟩ := g2 (p.lv - j) _ (List.getElem?_eq_getElem hx)
      have : 0 < ((List.range S.pg.length).filter (TR.lvB S fun x => decide (x = j))).length := by
        refine List.length_pos_of_mem (a := r[p.lv - j]) (List.mem_filter.mpr ⟨List.mem_range.mpr (List.getElem?_eq_some_iff.mp q1).1, ?_⟩)
        unfold TR.lvB; rw [q1]; simp; omega
      omega
  have := cnt (p.lv + 1) (Nat.le_refl _)
  have le := List.length_filter_le (TR.lvB S fun x => decide (x < p.lv + 1)) (List.range S.pg.length)
  rw [List.length_range] at le
  omega
theorem Gd {bg : TR.Bg} (T : TR.Tree S bg) (hr : S.room <= 50) (h1 : hp[n]? = some (.ins "Shelf" (shF S.room k S.top S.rd S.wr))) (h2 : hp[k]? = some (.lst (S.pg.map pgD))) (nk : n ≠ k) (hl : S.pg.length < 99000) :
    ∃ hp' rd', J3 [.ref n] hp = some (.bl true, hp') /\ hp'[n]? = some (.ins "Shelf" (shF S.room k S.top rd' S.wr)) /\ hp.length <= hp'.length /\ ∀ i, i < hp.length -> i ≠ n -> hp'[i]? = hp[i]? := by
  have ln : n < hp.length := (List.getElem?_eq_some_iff.mp h1).1
  have rdE := vo h1 h2 nk hl .un .un .un .un .un
  generalize hB : hp.set n (.ins "Shelf" (shF S.room k S.top (S.rd + S.pg.length) S.wr)) = B at rdE
  have Bl : B.length = hp.length := by rw [<- hB]; simp
  have Bn : B[n]? = some (.ins "Shelf" (shF S.room k S.top (S.rd + S.pg.length) S.wr)) := by rw [<- hB]; exact gss h1
  have Bo : ∀ i, i ≠ n -> B[i]? = hp[i]? := fun i hi => by rw [<- hB]; exact QT _ _ _ _ (Ne.symm hi)
  rw [<- Bl] at rdE
  obtain ⟨p, hp0, hmax⟩ := T.root
  obtain ⟨r, lf, lr⟩ := TR.K0 T p.lv S.top p rfl hp0 T.rbg
  have lN := vB T lf hp0
  obtain ⟨_, lget⟩ := lf.get T p hp0
  let W1 : List Nat -> Hs := fun L => B ++ [.lst (S.pg.map pgD), .lst (nD L)]
  have wp : ∀ L (ext : Hs), (W1 L ++ ext)[B.length]? = some (.lst (S.pg.map pgD)) := fun L ext => by show (B ++ _ ++ ext)[_]? = _; simp
  have wl : ∀ L (ext : Hs), (W1 L ++ ext)[B.length + 1]? = some (.lst (nD L)) := fun L ext => by
    show (B ++ _ ++ ext)[_]? = _
    rw [List.append_assoc, List.getElem?_append_right (by omega)]; simp
  have wn : ∀ L (ext : Hs), (W1 L ++ ext)[n]? = some (.ins "Shelf" (shF S.room k S.top (S.rd + S.pg.length) S.wr)) := fun L ext => by
    show (B ++ _ ++ ext)[_]? = _
    rw [List.append_assoc, List.getElem?_append_left (by omega)]; exact Bn
  have lfl := vp (S := S) (bg := bg) (pl := B.length) (fl := B.length + 1) (by omega) lf (W1 [S.top]) [] 100000 (.val (.ref n)) .un .un .un (by simpa using wp [S.top] []) (by simpa using wl [S.top] []) (by simpa using lN) hl (by omega)
  rw [show (W1 [S.top]).set (B.length + 1) (.lst (nD ([] ++ r))) = W1 r from by
    show (B ++ _).set _ _ = _
    rw [List.set_append_right _ _ (by omega)]; simp [W1]] at lfl
  have L2 : qg [.val (.ref n), .val (.ref B.length), .val (.ref (B.length + 1)), .un, .un, .un] (W1 [S.top]) = some ((.nx, [.val (.ref n), .val (.ref B.length), .val (.ref (B.length + 1)), .un, .un, .un]), W1 r) := by
    unfold qg; exact lfl
  have M : WP (jV (fun d env => do let env' <- gN 5 d env; jo env') (Zd 0 r.length) [.val (.ref n), .val (.ref B.length), .val (.ref (B.length + 1)), .val (.ref (B.length + 2)), .val (.int 0), .un]) (W1 r ++ [.dic []]) fun q w => ∃ ext z3 z5, q = (.nx, [.val (.ref n), .val (.ref B.length), .val (.ref (B.length + 1)), z3, .val (.int S.pg.length), z5]) /\ w = W1 r ++ ext := by
    refine jJ (fun i env w => ∃ ext d below z5, env = [.val (.ref n), .val (.ref B.length), .val (.ref (B.length + 1)), .val (.ref d), .val (.int ((List.range S.pg.length).filter (TR.lvB S fun x => decide (x < i))).length), z5] /\ w = W1 r ++ ext /\ w[d]? = some (.dic (bgD bg below)) /\ (0 < i -> ∀ m q, S.pg[m]? = some q -> q.lv + 1 = i -> m ∈ below)) _ ⟨[.dic []], B.length + 2, [], .un, by rw [TR.GU]; rfl, rfl, ?_, fun h => by omega⟩ (fun i d0 hd0 env w ⟨ext, d, below, z5, e, ew, ed, eb⟩ => ?_) (fun env w ⟨ext, d, below, z5, e, ew, ed, eb⟩ => ⟨ext, .val (.ref d), z5, ?_, ew⟩)
    . show (B ++ _ ++ _)[_]? = _
      rw [List.append_assoc, List.getElem?_append_right (by omega)]; simp [bgD]
    . subst e
      obtain ⟨hi, hd'⟩ := zV hd0
      subst hd'
      have hx : r.length - 1 - i < r.length := by omega
      obtain ⟨q, q1, q2, q3⟩ := lget (r.length - 1 - i) _ (List.getElem?_eq_getElem hx)
      have qi : q.lv = i := by omega
      obtain ⟨row, rc, rn, rm⟩ := TR.Qds T q1 q3
      have rl := TR.Qb3 T rn rm
      have rle : row.length <= S.pg.length := by rw [rl]; exact Nat.le_trans (List.length_filter_le _ _) (by rw [List.length_range]; omega)
      have le := kE (hp := w) T hr (pl := B.length) (d := d) (by rw [ew]; exact wp r ext) ed q1 q3 rc (by omega) (fun h m z hm hz => eb (by omega) m z hm (by omega))
      rw [qi] at le
      have nE : ∀ z, QN ZD (Qc (Qb 2) Qm) [.val (.ref n), .val (.ref B.length), .val (.ref (B.length + 1)), .val (.ref d), .val (.int ((List.range S.pg.length).filter (TR.lvB S fun x => decide (x < i))).length), z] w = some (.int (r.length : Nat), w) := fun z => (XJ (ZS (Qe rfl)) (YM (by rw [ew]; exact wl r ext))).trans (by rw [qW])
      have ix : Qh ixG (Qb 2) (Qh zk (Qh zk (QN ZD (Qc (Qb 2) Qm)) (eC (.int 1))) (Qb 5)) [.val (.ref n), .val (.ref B.length), .val (.ref (B.length + 1)), .val (.ref d), .val (.int ((List.range S.pg.length).filter (TR.lvB S fun x => decide (x < i))).length), .val (.int (i : Int))] w = some (.int ((r[r.length - 1 - i] : Nat) : Int), w) := by
        refine Ql (Qe rfl) (Ql (Ql (nE _) rfl (d := .int ((r.length : Int) - 1)) rfl) (Qe rfl) (d := .int ((r.length - 1 - i : Nat) : Int)) ?_) (Y9 (i := r.length - 1 - i) (by rw [ew]; exact wl r ext) (vz (List.getElem?_eq_getElem hx)))
        show some (DV.int ((r.length : Int) - 1 - i), w) = _
        rw [show (r.length : Int) - 1 - i = ((r.length - 1 - i : Nat) : Int) by omega]
      have sN : w[n]? = some (.ins "Shelf" (shF S.room k S.top (S.rd + S.pg.length) S.wr)) := by rw [ew]; exact wn r ext
      have s1 : QC 3 (Qs 5 Yo (Qc (Qb 1) (Qc (QK "Shelf" "room" 1 Zz (Qb 0) Qm) (Qc (Qb 5) (Qc (Qh ixG (Qb 2) (Qh zk (Qh zk (QN ZD (Qc (Qb 2) Qm)) (eC (.int 1))) (Qb 5))) (Qc (Qb 3) Qm)))))) [.val (.ref n), .val (.ref B.length), .val (.ref (B.length + 1)), .val (.ref d), .val (.int ((List.range S.pg.length).filter (TR.lvB S fun x => decide (x < i))).length), .val (.int (i : Int))] w = some ((.nx, [.val (.ref n), .val (.ref B.length), .val (.ref (B.length + 1)), .val (.ref (w.length + 1)), .val (.int ((List.range S.pg.length).filter (TR.lvB S fun x => decide (x < i))).length), .val (.int (i : Int))]), w ++ [.lst (nD row), .dic (bgD bg row)]) := QP (Zl (kS (Qe rfl) (Q9 (Qe rfl) sN (K1 ..) qI rfl (uJ sN)) (Qe rfl) ix (Qe rfl)) rfl le)
      have wd : (w ++ [.lst (nD row), .dic (bgD bg row)])[w.length + 1]? = some (.dic (bgD bg row)) := by rw [List.getElem?_append_right (by omega)]; simp
      have s2 : sIf (eB (Qh isD (Qb 3) (eC .non))) (QF (eC (.bl false))) Q6 [.val (.ref n), .val (.ref B.length), .val (.ref (B.length + 1)), .val (.ref (w.length + 1)), .val (.int ((List.range S.pg.length).filter (TR.lvB S fun x => decide (x < i))).length), .val (.int (i : Int))] (w ++ [.lst (nD row), .dic (bgD bg row)]) = some ((.nx, [.val (.ref n), .val (.ref B.length), .val (.ref (B.length + 1)), .val (.ref (w.length + 1)), .val (.int ((List.range S.pg.length).filter (TR.lvB S fun x => decide (x < i))).length), .val (.int (i : Int))]), w ++ [.lst (nD row), .dic (bgD bg row)]) := (Zg (QU (b := false) (Ql (Qe rfl) rfl rfl))).trans Zh
      have s3 : QC 4 (Qh ZG (Qb 4) (QN ZD (Qc (Qb 3) Qm))) [.val (.ref n), .val (.ref B.length), .val (.ref (B.length + 1)), .val (.ref (w.length + 1)), .val (.int ((List.range S.pg.length).filter (TR.lvB S fun x => decide (x < i))).length), .val (.int (i : Int))] (w ++ [.lst (nD row), .dic (bgD bg row)]) = some ((.nx, [.val (.ref n), .val (.ref B.length), .val (.ref (B.length + 1)), .val (.ref (w.length + 1)), .val (.int ((List.range S.pg.length).filter (TR.lvB S fun x => decide (x < i + 1))).length), .val (.int (i : Int))]), w ++ [.lst (nD row), .dic (bgD bg row)]) := by
        refine QP (Ql (Qe rfl) (XJ (ZS (Qe rfl)) (ko wd)) ?_)
        show some (DV.int _, _) = _
        rw [ux, rl, TR.xL, qi]
        congr 3
      refine ⟨_, _, (Qo s1).trans ((Qo s2).trans s3), ⟨ext ++ [.lst (nD row), .dic (bgD bg row)], w.length + 1, row, _, rfl, by rw [ew, List.append_assoc], wd, fun _ m z hm hz => (rm m).mpr ⟨z, hm, by omega⟩⟩⟩
    . rw [e, Je, lr, TR.u8 hmax]
  obtain ⟨q, w, eM, ext, z3, z5, rfl, rfl⟩ := M
  have lE : ∀ z3 z4 z5 (ext : Hs), QN ZD (Qc (Qb 2) Qm) [.val (.ref n), .val (.ref B.length), .val (.ref (B.length + 1)), z3, z4, z5] (W1 r ++ ext) = some (.int (r.length : Nat), W1 r ++ ext) := fun z3 z4 z5 ext => (XJ (ZS (Qe rfl)) (YM (wl r ext))).trans (by rw [qW])
  have L1 : jf [.val (.ref n), .val (.ref B.length), .val (.ref (B.length + 1)), .val (.ref (B.length + 2)), .val (.int 0), .un] (W1 r ++ [.dic []]) = some ((.nx, [.val (.ref n), .val (.ref B.length), .val (.ref (B.length + 1)), z3, .val (.int S.pg.length), z5]), W1 r ++ ext) := qy (qS (m := r.length) (ZS (lE _ _ _ _)) (by omega)) eM
  have t0 : lf = lf := rfl
  have h0 : r[0]? = some S.top := by cases lf <;> rfl
  refine ⟨W1 r ++ ext, _, ?_, wn r ext, by simp [W1, Bl], fun i hi hin => ?_⟩
  . have s1 : QC 1 Yd [.val (.ref n), .un, .un, .un, .un, .un] hp = some ((.nx, [.val (.ref n), .val (.ref B.length), .un, .un, .un, .un]), B ++ [.lst (S.pg.map pgD)]) := QP rdE
    have Bn' : (B ++ [OV.lst (S.pg.map pgD)])[n]? = some (.ins "Shelf" (shF S.room k S.top (S.rd + S.pg.length) S.wr)) := by rw [List.getElem?_append_left (by omega)]; exact Bn
    have s2 : QC 2 (XS (Qc (QK "Shelf" "root" 1 Zx (Qb 0) Qm) Qm)) [.val (.ref n), .val (.ref B.length), .un, .un, .un, .un] (B ++ [.lst (S.pg.map pgD)]) = some ((.nx, [.val (.ref n), .val (.ref B.length), .val (.ref (B.length + 1)), .un, .un, .un]), W1 [S.top]) := by
      refine QP (d := .ref (B.length + 1)) ?_
      have a : Qc (QK "Shelf" "root" 1 Zx (Qb 0) Qm) Qm [.val (.ref n), .val (.ref B.length), .un, .un, .un, .un] (B ++ [.lst (S.pg.map pgD)]) = some ([.int S.top], B ++ [.lst (S.pg.map pgD)]) := ZS (Q9 (Qe rfl) Bn' (Vp ..) qI rfl (ue Bn'))
      unfold XS
      rw [Qi a]
      show some (DV.ref (B ++ [OV.lst (S.pg.map pgD)]).length, (B ++ [OV.lst (S.pg.map pgD)]) ++ [OV.lst [DV.int S.top]]) = _
      simp [W1, nD]
    have rt : Qh ZG (Qh ixG (Qh ixG (Qb 1) (Qh ixG (Qb 2) (eC (.int 0)))) (eC (.int 0))) (eC (.int 1)) [.val (.ref n), .val (.ref B.length), .val (.ref (B.length + 1)), .un, .un, .un] (W1 r) = some (.int (r.length : Nat), W1 r) := by
      refine Ql (Ql (Ql (Qe rfl) (Ql (Qe rfl) rfl (Y9 (i := 0) (by simpa using wl r []) (vz h0))) (Y9 (i := S.top) (by simpa using wp r []) (by rw [List.getElem?_map, hp0]; rfl))) rfl (xE p _)) rfl ?_
      show some (DV.int ((p.lv : Int) + 1), _) = _
      rw [lr]; rfl
    have lE0 : QN ZD (Qc (Qb 2) Qm) [.val (.ref n), .val (.ref B.length), .val (.ref (B.length + 1)), .un, .un, .un] (W1 r) = some (.int (r.length : Nat), W1 r) := (XJ (ZS (Qe rfl)) (YM (by simpa using wl r []))).trans (by rw [qW])
    have s4 : sIf (eB (Qh neG (QN ZD (Qc (Qb 2) Qm)) (Qh ZG (Qh ixG (Qh ixG (Qb 1) (Qh ixG (Qb 2) (eC (.int 0)))) (eC (.int 0))) (eC (.int 1))))) (QF (eC (.bl false))) Q6 [.val (.ref n), .val (.ref B.length), .val (.ref (B.length + 1)), .un, .un, .un] (W1 r) = some ((.nx, [.val (.ref n), .val (.ref B.length), .val (.ref (B.length + 1)), .un, .un, .un]), W1 r) := (Zg (QU (b := false) (Ql lE0 rt (Qc6 _ _)))).trans Zh
    have s5 : QC 3 JE [.val (.ref n), .val (.ref B.length), .val (.ref (B.length + 1)), .un, .un, .un] (W1 r) = some ((.nx, [.val (.ref n), .val (.ref B.length), .val (.ref (B.length + 1)), .val (.ref (B.length + 2)), .un, .un]), W1 r ++ [.dic []]) := by
      refine QP (d := .ref (B.length + 2)) ?_
      show some (DV.ref (W1 r).length, W1 r ++ [OV.dic []]) = _
      simp [W1]
    have fin : QF (Qh eqG (Qb 4) (QN ZD (Qc (Qb 1) Qm))) [.val (.ref n), .val (.ref B.length), .val (.ref (B.length + 1)), z3, .val (.int S.pg.length), z5] (W1 r ++ ext) = some ((.rt (.bl true), [.val (.ref n), .val (.ref B.length), .val (.ref (B.length + 1)), z3, .val (.int S.pg.length), z5]), W1 r ++ ext) := by
      refine Q7 (Ql (Qe rfl) ((XJ (ZS (Qe rfl)) (YM (wp r ext))).trans (by rw [List.length_map])) ((eqI _ _ _).trans (by simp)))
    exact QY ((Qo s1).trans ((Qo s2).trans ((Qo L2).trans ((Qo s4).trans ((Qo s5).trans ((Qo (QP (d := .int 0) rfl)).trans ((Qo L1).trans fin)))))))
  . show (B ++ _ ++ ext)[i]? = _
    rw [List.append_assoc, List.getElem?_append_left (by omega)]
    exact Bo i hin
end
theorem Qa0 (n : Nat) (d : TR.Deed) (hp : Hs) : Zp [.ref hp.length, .ref n, ZZ d] (hp ++ [.ins "Walk" []]) = some (.non, hp ++ [wkO n (hp.length + 1) (hp.length + 2) (TR.fresh d), .dic [], .lst []]) := by
  have st : ∀ (nm : Str) (e : DEx) (v : DV) (fs : List (Str × DV)) (t t' : Hs), e [.val (.ref hp.length), .val (.ref n), .val (ZZ d)] (hp ++ .ins "Walk" fs :: t) = some (v, hp ++ .ins "Walk" fs :: t') -> fs.length < 1000 -> Zc "Walk" nm (Qb 0) e [.val (.ref hp.length), .val (.ref n), .val (ZZ d)] (hp ++ .ins "Walk" fs :: t) = some ((.nx, [.val (.ref hp.length), .val (.ref n), .val (ZZ d)]), hp ++ .ins "Walk" (XH nm v fs) :: t') := fun nm e v fs t t' he hl => by
    rw [JF he (Qe rfl) (Qap hp _ _) hl, QaP]
  have a1 : ∀ fs, JE [.val (.ref hp.length), .val (.ref n), .val (ZZ d)] (hp ++ .ins "Walk" fs :: []) = some (.ref (hp.length + 1), hp ++ .ins "Walk" fs :: [.dic []]) := fun fs => by
    show some (DV.ref (hp ++ [OV.ins "Walk" fs]).length, (hp ++ [OV.ins "Walk" fs]) ++ [OV.dic []]) = _
    simp
  have a2 : ∀ fs, XS Qm [.val (.ref hp.length), .val (.ref n), .val (ZZ d)] (hp ++ .ins "Walk" fs :: [.dic []]) = some (.ref (hp.length + 2), hp ++ .ins "Walk" fs :: [.dic [], .lst []]) := fun fs => by
    show some (DV.ref (hp ++ [OV.ins "Walk" fs, OV.dic []]).length, (hp ++ [OV.ins "Walk" fs, OV.dic []]) ++ [OV.lst []]) = _
    simp
  refine QbH (env := [.val (.ref hp.length), .val (.ref n), .val (ZZ d)]) ?_
  refine (Qo (st "shelf" _ (.ref n) [] [] [] (Qe rfl) (Nat.lt_of_le_of_lt (m := 20) (by repeat (first | exact Nat.zero_le _ | refine Xn ?_)) (by decide)))).trans ?_
  refine (Qo (st "deed" _ (ZZ d) _ [] [] (Qe rfl) (Nat.lt_of_le_of_lt (m := 20) (by repeat (first | exact Nat.zero_le _ | refine Xn ?_)) (by decide)))).trans ?_
  refine (Qo (st "aim" _ (.int d.key) _ [] [] (Ql (Qe rfl) rfl (Qa3 d _)) (Nat.lt_of_le_of_lt (m := 20) (by repeat (first | exact Nat.zero_le _ | refine Xn ?_)) (by decide)))).trans ?_
  refine (Qo (st "goal" _ (.int 0) _ [] [] rfl (Nat.lt_of_le_of_lt (m := 20) (by repeat (first | exact Nat.zero_le _ | refine Xn ?_)) (by decide)))).trans ?_
  refine (Qo (st "place" _ .non _ [] [] rfl (Nat.lt_of_le_of_lt (m := 20) (by repeat (first | exact Nat.zero_le _ | refine Xn ?_)) (by decide)))).trans ?_
  refine (Qo (st "forks" _ (.ref (hp.length + 1)) _ [] [.dic []] (a1 _) (Nat.lt_of_le_of_lt (m := 20) (by repeat (first | exact Nat.zero_le _ | refine Xn ?_)) (by decide)))).trans ?_
  refine (Qo (st "new_page" _ .non _ [.dic []] [.dic []] rfl (Nat.lt_of_le_of_lt (m := 20) (by repeat (first | exact Nat.zero_le _ | refine Xn ?_)) (by decide)))).trans ?_
  refine (Qo (st "worth" _ .non _ [.dic []] [.dic []] rfl (Nat.lt_of_le_of_lt (m := 20) (by repeat (first | exact Nat.zero_le _ | refine Xn ?_)) (by decide)))).trans ?_
  refine (Qo (st "pairs" _ (.ref (hp.length + 2)) _ [.dic []] [.dic [], .lst []] (a2 _) (Nat.lt_of_le_of_lt (m := 20) (by repeat (first | exact Nat.zero_le _ | refine Xn ?_)) (by decide)))).trans ?_
  exact st "ended" _ (.bl false) _ [.dic [], .lst []] [.dic [], .lst []] rfl (Nat.lt_of_le_of_lt (m := 20) (by repeat (first | exact Nat.zero_le _ | refine Xn ?_)) (by decide))
theorem Gw {n : Nat} {d : TR.Deed} {fa : DAx} {env : En} {hp0 hp : Hs} (ha : fa env hp0 = some ([.ref n, ZZ d], hp)) : Xy "Walk" 3 Zp fa env hp0 = some (.ref hp.length, hp ++ [wkO n (hp.length + 1) (hp.length + 2) (TR.fresh d), .dic [], .lst []]) := by
  unfold Xy
  rw [Qi ha]
  have al : qP (.ins "Walk" []) hp = some (.ref hp.length, hp ++ [.ins "Walk" []]) := rfl
  have gd : Qu (decide ([DV.ref n, ZZ d].length + 1 = 3)) hp = some ((), hp) := rfl
  rw [Qi gd, Qi al, Qi (Qa0 n d hp)]; rfl
theorem uh {hp : Hs} {n f q a : Nat} {w : TR.Wk} (h : hp[a]? = some (wkO n f q w)) : J4 [.ref a] hp = some (.bl w.ended, hp) := QY (Q7 (Za (Qe rfl) h (zW ..)))
theorem QbY {hp : Hs} {n k : Nat} {S : TR.Sh} {bg : TR.Bg} (T : TR.Tree S bg) (hr : S.room <= 50) (h1 : hp[n]? = some (.ins "Shelf" (shF S.room k S.top S.rd S.wr))) (h2 : hp[k]? = some (.lst (S.pg.map pgD))) (nk : n ≠ k) (hl : S.pg.length + 1000 < 90000) (d : TR.Deed) :
    ∃ x hp' S' bg', X8 [.ref n, ZZ d] hp = some (x, hp') /\ TR.Tree S' bg' /\ S'.room = S.room /\ S'.pg.length <= S.pg.length + 1000 /\ hp'[n]? = some (.ins "Shelf" (shF S'.room k S'.top S'.rd S'.wr)) /\ hp'[k]? = some (.lst (S'.pg.map pgD)) /\ hp.length <= hp'.length /\ ∀ i, i < hp.length -> i ≠ n -> i ≠ k -> hp'[i]? = hp[i]? := by
  have ln : n < hp.length := (List.getElem?_eq_some_iff.mp h1).1
  have lk : k < hp.length := (List.getElem?_eq_some_iff.mp h2).1
  have D : Dif n k hp.length (hp.length + 1) (hp.length + 2) := ⟨nk, by omega, by omega, by omega, by omega, by omega, by omega, by omega, by omega, by omega⟩
  have A0 : At (hp ++ [wkO n (hp.length + 1) (hp.length + 2) (TR.fresh d), .dic [], .lst []]) n k hp.length (hp.length + 1) (hp.length + 2) S (TR.fresh d) := ⟨(List.getElem?_append_left ln).trans h1, (List.getElem?_append_left lk).trans h2, by simp, by rw [List.getElem?_append_right (by omega)]; simp; rfl, by rw [List.getElem?_append_right (by omega)]; simp; rfl⟩
  let Ok : Nat -> Hs -> Prop := fun i w => ∃ S' bg' wk, TR.Tree S' bg' /\ S'.room = S.room /\ S'.pg.length <= S.pg.length + i /\ At w n k hp.length (hp.length + 1) (hp.length + 2) S' wk /\ (wk.ended = false -> TR.WOk S' bg' wk) /\ (wk.ended = false -> 0 < wk.goal -> ∀ c, wk.newp = some c -> TR.Untold S' c) /\ wk.forks.length <= i /\ wk.pairs.length <= 50 * i /\ hp.length <= w.length /\ ∀ j, j < hp.length -> j ≠ n -> j ≠ k -> w[j]? = hp[j]?
  have M : WP (jV (fun d env => do let env' <- gN 3 d env; j6 env') (Zd 0 1000) [.val (.ref n), .val (ZZ d), .val (.ref hp.length), .un]) (hp ++ [wkO n (hp.length + 1) (hp.length + 2) (TR.fresh d), .dic [], .lst []]) fun q w => (∃ i, i <= 1000 /\ Ok i w) /\ ∃ z, q.2 = [.val (.ref n), .val (ZZ d), .val (.ref hp.length), z] /\ (q.1 = .nx ∨ ∃ x, q.1 = .rt x) := by
    refine jJ (fun i env w => (∃ z, env = [.val (.ref n), .val (ZZ d), .val (.ref hp.length), z]) /\ Ok i w) _ ⟨⟨_, rfl⟩, S, bg, TR.fresh d, T, rfl, by omega, A0, fun _ => TR.WOk.fresh rfl rfl rfl, fun _ h => (by cases h), (by simp [TR.fresh]), (by simp [TR.fresh]), (by simp), fun j hj _ _ => List.getElem?_append_left hj⟩ (fun i d0 hd0 env w ⟨⟨z, e⟩, S', bg', wk, T', r', l', A', W', u', f', p', x1, x2⟩ => ?_) (fun env w ⟨⟨z, e⟩, o⟩ => ⟨⟨1000, Nat.le_refl _, by rw [Je] at o; exact o⟩, z, e, .inl rfl⟩)
    subst e
    obtain ⟨hi, hd'⟩ := zV hd0
    subst hd'
    have ov := uh A'.h3
    cases he : wk.ended with
    | true =>
      rw [he] at ov
      refine ⟨(.rt (.ref hp.length), [.val (.ref n), .val (ZZ d), .val (.ref hp.length), .val (.int (i : Int))]), w, ZQ ((JV (QU (Q9 (Qe rfl) A'.h3 (Ky ..) qI rfl ov))).trans (Q7 (Qe rfl))), ⟨i, by omega, S', bg', wk, T', r', l', A', W', u', f', p', x1, x2⟩, _, rfl, .inr ⟨_, rfl⟩⟩
    | false =>
      rw [he] at ov
      obtain ⟨rw, S2, w2, bg2, es, st⟩ := TR.ul T' (W' he) he (u' he)
      obtain ⟨hp2, e2, A2, F2⟩ := uc T' (W' he) (by omega) A' D (by omega) (by omega) (by omega) es
      have sz := TR.VJ (m := 50) (fun m p hm => by have := (T'.page m p hm).few; omega) es
      refine ⟨(.nx, [.val (.ref n), .val (ZZ d), .val (.ref hp.length), .val (.int (i : Int))]), hp2, (Qo ((Zg (QU (Q9 (Qe rfl) A'.h3 (Ky ..) qI rfl ov))).trans Zh)).trans (XR (Q9 (Qe rfl) A'.h3 (uk ..) qI rfl e2)), ⟨⟨_, rfl⟩, S2, bg2, w2, st.tree, by rw [st.room, r'], by have := st.len; omega, A2, st.wok, fun a1 a2 c a3 => (st.new c a1 a2 a3).1, by omega, by omega, by have := F2.1; omega, fun j hj hjn hjk => ?_⟩⟩
      rw [F2.2 j (by omega) hjn hjk (by omega) (by omega) (by omega)]
      exact x2 j hj hjn hjk
  obtain ⟨⟨fl, env⟩, w, eM, ⟨i, hi, S', bg', wk, T', r', l', A', W', u', f', p', x1, x2⟩, z, he, hf⟩ := M
  simp only at he hf
  subst he
  have mk : QC 2 (Xy "Walk" 3 Zp (Qc (Qb 0) (Qc (Qb 1) Qm))) [.val (.ref n), .val (ZZ d), .un, .un] hp = some ((.nx, [.val (.ref n), .val (ZZ d), .val (.ref hp.length), .un]), hp ++ [wkO n (hp.length + 1) (hp.length + 2) (TR.fresh d), .dic [], .lst []]) := QP (Gw (J5 (Qe rfl) (Qe rfl)))
  have L : j7 [.val (.ref n), .val (ZZ d), .val (.ref hp.length), .un] (hp ++ [wkO n (hp.length + 1) (hp.length + 2) (TR.fresh d), .dic [], .lst []]) = some ((fl, [.val (.ref n), .val (ZZ d), .val (.ref hp.length), z]), w) := qy (qS (m := 1000) (ZS rfl) (by omega)) eM
  have fin : ∃ x, X8 [.ref n, ZZ d] hp = some (x, w) := by
    rcases hf with rfl | ⟨x, rfl⟩
    . exact ⟨_, QY ((Qo mk).trans ((Qo L).trans (Q7 (Qe rfl))))⟩
    . exact ⟨x, QY ((Qo mk).trans (ZQ L))⟩
  obtain ⟨x, ex⟩ := fin
  exact ⟨x, w, S', bg', ex, T', r', by omega, A'.h1, A'.h2, x1, x2⟩
def YW (c p m : Int) : Int := (c + p / 3) % p * ((c + p / 3) % p) % p * ((c + p / 3) % p) % p % m
theorem Jx (c p m : Int) (h0 : 0 < p) (h1 : p < 1073741824) (hm : 0 < m) : Qw [.int c, .int p, .int m] = pure (.int (YW c p m)) := by
  have l0 : 0 <= (c + p / 3) % p := Int.emod_nonneg _ (by omega)
  have l1 : (c + p / 3) % p < p := Int.emod_lt_of_pos _ h0
  have d := KM p 3 (by decide) (by decide)
  have a := Yp (c + p / 3) p h0
  have b := yP ((c + p / 3) % p) ((c + p / 3) % p) (by omega) (by omega)
  have e := Yp ((c + p / 3) % p * ((c + p / 3) % p)) p h0
  have f := vb ((c + p / 3) % p * ((c + p / 3) % p) % p) ((c + p / 3) % p) (by omega) (by omega)
  have g := Yp ((c + p / 3) % p * ((c + p / 3) % p) % p * ((c + p / 3) % p)) p h0
  have h := Yp ((c + p / 3) % p * ((c + p / 3) % p) % p * ((c + p / 3) % p) % p) m hm
  simp [Qw, Va, Q1, Qr, QC, QF, Qh, Qb, eC, Zb, d, a, b, e, f, g, h, YW]
theorem Y7 (c p m : Int) (h : 0 < m) : 0 <= YW c p m := Int.emod_nonneg _ (by omega)
theorem qe (c p m : Int) (h : 0 < m) : YW c p m < m := Int.emod_lt_of_pos _ h
theorem QcK : jA (.int 10) (.int 40) = pure (.int 10000000000000000000000000000000000000000) := rfl
def emp : DV := .tup [.int 0, .tup [], .tup [], .non, .non]
theorem pf0 (d : DV) : XH ("page_room" : Str) d [] = [(("page_room" : Str), d)] := by rfl
theorem pf1 (x d : DV) : XH ("kept" : Str) d [(("page_room" : Str), x)] = [(("page_room" : Str), x), (("kept" : Str), d)] := by rfl
theorem pf2 (x y d : DV) : XH ("top" : Str) d [(("page_room" : Str), x), (("kept" : Str), y)] = [(("page_room" : Str), x), (("kept" : Str), y), (("top" : Str), d)] := by rfl
theorem pf3 (x y z d : DV) : XH ("read_count" : Str) d [(("page_room" : Str), x), (("kept" : Str), y), (("top" : Str), z)] = [(("page_room" : Str), x), (("kept" : Str), y), (("top" : Str), z), (("read_count" : Str), d)] := by rfl
theorem pf4 (x y z u d : DV) : XH ("write_count" : Str) d [(("page_room" : Str), x), (("kept" : Str), y), (("top" : Str), z), (("read_count" : Str), u)] = [(("page_room" : Str), x), (("kept" : Str), y), (("top" : Str), z), (("read_count" : Str), u), (("write_count" : Str), d)] := by rfl
theorem Qcc (r : Int) (hp : Hs) : ZL [.ref hp.length, .int r] (hp ++ [.ins "Shelf" []]) = some (.non, hp ++ [.ins "Shelf" (shF r (hp.length + 1) 0 0 0), .lst [emp]]) := by
  simp [ZL, qF, Q1, Qr, QC, QF, Xp, sIf, Q6, qv, YV, qq, qh, Qh, Qb, eC, eB, asB, Jh, eOr, JT, J6, qw, Xj, eIf, XF, Qm, Qc, ZF, JW, Qs, QN, Qu, gN, Zb, Zo, Q4, Zi, Zr, Zq, Zm, Xi, Xo, qr, Zw, ZO, Jo, Zc, Y4, VV, Yw, gSb, jR, Yv, Ys, QJ, jC, xa, onI, onL, onD, Jw, Yc, ji, YE, ixG, ZD, YG, zo, YF, qO, asI, jw, VR, QK, Xy, XS, JE, jc, evP, ZR, Ye, JJ, Xm, JM, Yf, Yh, Yb, Zj, QT, Ju, Qap, QaP, pf0, pf1, pf2, pf3, pf4, Xu, lim, shF, emp]
theorem QeG (c : Int) : ∃ k, Yz [.int c] = pure (.int k) := by
  have p5 := Jx c 10007 5 (by decide) (by decide) (by decide)
  have g := Y7 c 10007 5 (by decide)
  have l := qe c 10007 5 (by decide)
  have a := Yp c 10000000000000000000000000000000000000000 (by decide)
  have b := vb (c % 10000000000000000000000000000000000000000) 1000000000039 (by decide) (by decide)
  have d := yP 2 1000000000000000000000000000000 (by decide) (by decide)
  have e := Yp (c % 10000000000000000000000000000000000000000 * 1000000000039 + 11) 2000000000000000000000000000001 (by decide)
  by_cases h : YW c 10007 5 = 0
  . rw [h] at p5
    exact ⟨_, by simp [Yz, xC, Q1, Qr, QC, QF, Xp, sIf, Q6, qv, YV, qq, qh, Qh, Qb, eC, eB, asB, Jh, eOr, JT, J6, qw, Xj, eIf, XF, Qm, Qc, ZF, JW, Qs, QN, Qu, gN, Zb, Zo, Q4, Zi, Zr, Zq, Zm, Xi, Xo, qr, Zw, ZO, p5, QcK, a, b, d, e]; rfl⟩
  . have h' : (YW c 10007 5 == 0) = false := by simpa using h
    obtain ⟨v, hv, hpos⟩ : ∃ v : Int, atI [DV.int 10, .int 10, .int 41, .int 120, .int 120] (YW c 10007 5) = some (.int v) /\ 0 < v := by
      rcases (by omega : YW c 10007 5 = 1 ∨ YW c 10007 5 = 2 ∨ YW c 10007 5 = 3 ∨ YW c 10007 5 = 4) with q | q | q | q <;> rw [q]
      . exact ⟨10, rfl, by decide⟩
      . exact ⟨41, rfl, by decide⟩
      . exact ⟨120, rfl, by decide⟩
      . exact ⟨120, rfl, by decide⟩
    have pv := Jx c 10009 v (by decide) (by decide) hpos
    exact ⟨_, by simp [Yz, xC, Q1, Qr, QC, QF, Xp, sIf, Q6, qv, YV, qq, qh, Qh, Qb, eC, eB, asB, Jh, eOr, JT, J6, qw, Xj, eIf, XF, Qm, Qc, ZF, JW, Qs, QN, Qu, gN, Zb, Zo, Q4, Zi, Zr, Zq, Zm, Xi, Xo, qr, Zw, ZO, p5, h', Xu, lim, ixD, asI, hv, pv]; rfl⟩
theorem Qbw (c : Int) : ∃ k, XD [.int c] = pure (.int k) := by
  have p4 := Jx c 10037 4 (by decide) (by decide) (by decide)
  have p9 := Jx c 10039 9 (by decide) (by decide) (by decide)
  have a := Yp c 10000000000000000000000000000000000000000 (by decide)
  have b := vb (c % 10000000000000000000000000000000000000000) 1000000000039 (by decide) (by decide)
  have d := yP 2 1000000000000000000000000000000 (by decide) (by decide)
  have e := Yp (c % 10000000000000000000000000000000000000000 * 1000000000039 + 5) 2000000000000000000000000000001 (by decide)
  by_cases h : YW c 10037 4 = 0
  . rw [h] at p4
    exact ⟨_, by simp [XD, zN, Q1, Qr, QC, QF, Xp, sIf, Q6, qv, YV, qq, qh, Qh, Qb, eC, eB, asB, Jh, eOr, JT, J6, qw, Xj, eIf, XF, Qm, Qc, ZF, JW, Qs, QN, Qu, gN, Zb, Zo, Q4, Zi, Zr, Zq, Zm, Xi, Xo, qr, Zw, ZO, p4, QcK, a, b, d, e]; rfl⟩
  . have h' : (YW c 10037 4 == 0) = false := by simpa using h
    exact ⟨_, by simp [XD, zN, Q1, Qr, QC, QF, Xp, sIf, Q6, qv, YV, qq, qh, Qh, Qb, eC, eB, asB, Jh, eOr, JT, J6, qw, Xj, eIf, XF, Qm, Qc, ZF, JW, Qs, QN, Qu, gN, Zb, Zo, Q4, Zi, Zr, Zq, Zm, Xi, Xo, qr, Zw, ZO, p4, h', p9]; rfl⟩
theorem Qdy (a b : Int) : ∃ m, GX [.int a, .int b] = pure (.int m) := by
  unfold GX
  exact ⟨_, rfl⟩
theorem QdC (c : Int) : ∃ d, Jr [.int c] = pure (ZZ d) := by
  have p10 := Jx c 10061 10 (by decide) (by decide) (by decide)
  obtain ⟨k, ke⟩ := QeG c
  obtain ⟨x, xe⟩ := Qbw c
  generalize YW c 10061 10 = kd at p10
  by_cases h1 : kd < 5
  . exact ⟨.put k x, by simp [Jr, YQ, Q1, Qr, QC, QF, Xp, sIf, Q6, qv, YV, qq, qh, Qh, Qb, eC, eB, asB, Jh, eOr, JT, J6, qw, Xj, eIf, XF, Qm, Qc, ZF, JW, Qs, QN, Qu, gN, Zb, Zo, Q4, Zi, Zr, Zq, Zm, Xi, Xo, qr, Zw, ZO, p10, ke, xe, h1, Xu, lim, ZZ]⟩
  . by_cases h2 : kd < 7
    . exact ⟨.cut k, by simp [Jr, YQ, Q1, Qr, QC, QF, Xp, sIf, Q6, qv, YV, qq, qh, Qh, Qb, eC, eB, asB, Jh, eOr, JT, J6, qw, Xj, eIf, XF, Qm, Qc, ZF, JW, Qs, QN, Qu, gN, Zb, Zo, Q4, Zi, Zr, Zq, Zm, Xi, Xo, qr, Zw, ZO, p10, ke, h1, h2, Xu, lim, ZZ]⟩
    . by_cases h3 : kd < 9
      . exact ⟨.find k, by simp [Jr, YQ, Q1, Qr, QC, QF, Xp, sIf, Q6, qv, YV, qq, qh, Qh, Qb, eC, eB, asB, Jh, eOr, JT, J6, qw, Xj, eIf, XF, Qm, Qc, ZF, JW, Qs, QN, Qu, gN, Zb, Zo, Q4, Zi, Zr, Zq, Zm, Xi, Xo, qr, Zw, ZO, p10, ke, h1, h2, h3, Xu, lim, ZZ]⟩
      . have p50 := Jx c 10067 50 (by decide) (by decide) (by decide)
        have p150 := Jx c 10151 150 (by decide) (by decide) (by decide)
        have p4 := Jx c 10069 4 (by decide) (by decide) (by decide)
        have g4 := Y7 c 10069 4 (by decide)
        have l4 := qe c 10069 4 (by decide)
        generalize YW c 10069 4 = w4 at p4 g4 l4
        obtain ⟨lo, el⟩ := Qdy k 999999999999999999999999999999
        obtain ⟨ne, en⟩ := Qdy 1000000000000000000000000000000 (lo + 1 + YW c 10067 50)
        obtain ⟨fa, ef⟩ := Qdy 1000000000000000000000000000000 (lo + 51 + YW c 10151 150)
        obtain ⟨v, hv⟩ : ∃ v : Int, atI [DV.int (lo + 1), .int ne, .int fa, .int 1000000000000000000000000000000] w4 = some (.int v) := by
          rcases (by omega : w4 = 0 ∨ w4 = 1 ∨ w4 = 2 ∨ w4 = 3) with q | q | q | q <;> rw [q] <;> exact ⟨_, rfl⟩
        exact ⟨.stretch lo v, by simp [Jr, YQ, Q1, Qr, QC, QF, Xp, sIf, Q6, qv, YV, qq, qh, Qh, Qb, eC, eB, asB, Jh, eOr, JT, J6, qw, Xj, eIf, XF, Qm, Qc, ZF, JW, Qs, QN, Qu, gN, Zb, Zo, Q4, Zi, Zr, Zq, Zm, Xi, Xo, qr, Zw, ZO, p10, ke, h1, h2, h3, p50, p150, p4, el, en, ef, hv, ixD, asI, Xu, lim, ZZ]⟩
theorem Qa9 (r : Nat) (h : 2 <= r) : TR.Tree ⟨r, [⟨0, [], [], none, none⟩], 0, 0, 0⟩ (fun _ => none) := by
  have one : ∀ (n : Nat) (p : TR.Pg), ([⟨0, [], [], none, none⟩] : List TR.Pg)[n]? = some p -> n = 0 /\ p = ⟨0, [], [], none, none⟩ := fun n p hp => by
    match n, hp with
    | 0, hp => cases hp; exact ⟨rfl, rfl⟩
    | n + 1, hp => simp at hp
  refine ⟨h, ⟨_, rfl, fun n p hp => ?_⟩, rfl, fun n p hp => ?_, fun n p hp => ?_, fun n p hp h0 => ?_, fun n m p q hn hm _ e => ?_, fun n p hp v hv => (by cases hv)⟩
  . rw [(one n p hp).2]; exact Nat.le_refl _
  . rw [(one n p hp).2]
    exact ⟨List.Pairwise.nil, Nat.zero_le _, rfl, fun k hk => (by cases hk), fun _ k hk => (by cases hk), fun k hk => (by cases hk), fun h hh => (by cases hh)⟩
  . rw [(one n p hp).2]; exact .inl ⟨rfl, rfl⟩
  . rw [(one n p hp).2] at h0; exact absurd h0 (by decide)
  . exact absurd ((one n p hn).1.trans (one m q hm).1.symm) e
theorem QaE (c : Int) : ∃ S bg hp' kvs, Yn [.int c, .ref 0] [.dic []] = some (.ref 1, hp') /\ TR.Tree S bg /\ S.room <= 50 /\ S.pg.length <= 60001 /\ hp'[1]? = some (.ins "Shelf" (shF S.room 2 S.top S.rd S.wr)) /\ hp'[2]? = some (.lst (S.pg.map pgD)) /\ hp'[0]? = some (.dic kvs) := by
  have p7 := Xl (Jx c 10079 7 (by decide) (by decide) (by decide))
  have p2 := Xl (Jx c 10091 2 (by decide) (by decide) (by decide))
  have p25 := Xl (Jx c 10093 25 (by decide) (by decide) (by decide))
  have p8 := Xl (Jx c 10141 8 (by decide) (by decide) (by decide))
  have a1 := Y7 c 10079 7 (by decide)
  have a2 := qe c 10079 7 (by decide)
  have b1 := Y7 c 10091 2 (by decide)
  have b2 := qe c 10091 2 (by decide)
  have c1 := Y7 c 10093 25 (by decide)
  have c2 := qe c 10093 25 (by decide)
  generalize YW c 10079 7 = x at p7 a1 a2
  generalize YW c 10091 2 = y at p2 b1 b2
  generalize YW c 10093 25 = z at p25 c1 c2
  generalize YW c 10141 8 = u at p8
  have xy0 : 0 <= x * y := Int.mul_nonneg a1 b1
  have xy1 : x * y <= 6 * 1 := Int.mul_le_mul (by omega) (by omega) b1 (by decide)
  obtain ⟨r, hr⟩ := Vb (show 0 <= 2 + x * y by omega)
  have mm := Xl (yP x y (by omega) (by omega))
  have i0 : ZL [.ref 1, .int r] [.dic [], .ins "Shelf" []] = some (.non, [.dic [], .ins "Shelf" (shF r 2 0 0 0), .lst [emp]]) := Qcc r [.dic []]
  have s1 : QC 2 (Xy "Shelf" 2 ZL (Qc (Qh ZG (eC (.int 2)) (Qh z0 (Qs 3 Qw (Qc (Qb 0) (Qc (eC (.int 10079)) (Qc (eC (.int 7)) Qm)))) (Qs 3 Qw (Qc (Qb 0) (Qc (eC (.int 10091)) (Qc (eC (.int 2)) Qm)))))) Qm)) [.val (.int c), .val (.ref 0), .un, .un, .un, .un] [.dic []] = some ((.nx, [.val (.int c), .val (.ref 0), .val (.ref 1), .un, .un, .un]), [.dic [], .ins "Shelf" (shF r 2 0 0 0), .lst [emp]]) := by
    refine QP ?_
    have ar : Qc (Qh ZG (eC (.int 2)) (Qh z0 (Qs 3 Qw (Qc (Qb 0) (Qc (eC (.int 10079)) (Qc (eC (.int 7)) Qm)))) (Qs 3 Qw (Qc (Qb 0) (Qc (eC (.int 10091)) (Qc (eC (.int 2)) Qm)))))) Qm [.val (.int c), .val (.ref 0), .un, .un, .un, .un] [.dic []] = some ([.int r], [.dic []]) := ZS (Ql rfl (Ql (Zl (Xk (Qe rfl) rfl rfl) rfl (p7 _)) (Zl (Xk (Qe rfl) rfl rfl) rfl (p2 _)) (mm _)) (by rw [<- hr]; rfl))
    unfold Xy
    have al : qP (.ins "Shelf" []) [.dic []] = some (.ref 1, [.dic [], .ins "Shelf" []]) := rfl
    have gd : Qu (decide ([DV.int r].length + 1 = 2)) [.dic []] = some ((), [.dic []]) := rfl
    rw [Qi ar, Qi gd, Qi al, Qi i0]; rfl
  obtain ⟨m, hm1, hm2⟩ : ∃ m : Nat, (Qr (QC 3 (Qs 3 Qw (Qc (Qb 0) (Qc (eC (.int 10093)) (Qc (eC (.int 25)) Qm))))) (sIf (eB (Qh eqG (Qs 3 Qw (Qc (Qb 0) (Qc (eC (.int 10141)) (Qc (eC (.int 8)) Qm)))) (eC (.int 3)))) (QC 3 (eC (.int 60))) Q6) [.val (.int c), .val (.ref 0), .val (.ref 1), .un, .un, .un] [.dic [], .ins "Shelf" (shF r 2 0 0 0), .lst [emp]] = some ((.nx, [.val (.int c), .val (.ref 0), .val (.ref 1), .val (.int m), .un, .un]), [.dic [], .ins "Shelf" (shF r 2 0 0 0), .lst [emp]])) /\ m <= 60 := by
    obtain ⟨zn, hz⟩ := Vb c1
    have s3 : QC 3 (Qs 3 Qw (Qc (Qb 0) (Qc (eC (.int 10093)) (Qc (eC (.int 25)) Qm)))) [.val (.int c), .val (.ref 0), .val (.ref 1), .un, .un, .un] [.dic [], .ins "Shelf" (shF r 2 0 0 0), .lst [emp]] = some ((.nx, [.val (.int c), .val (.ref 0), .val (.ref 1), .val (.int zn), .un, .un]), [.dic [], .ins "Shelf" (shF r 2 0 0 0), .lst [emp]]) := QP (Zl (Xk (Qe rfl) rfl rfl) rfl ((p25 _).trans (by rw [hz])))
    have t : eB (Qh eqG (Qs 3 Qw (Qc (Qb 0) (Qc (eC (.int 10141)) (Qc (eC (.int 8)) Qm)))) (eC (.int 3))) [.val (.int c), .val (.ref 0), .val (.ref 1), .val (.int zn), .un, .un] [.dic [], .ins "Shelf" (shF r 2 0 0 0), .lst [emp]] = some (u == 3, [.dic [], .ins "Shelf" (shF r 2 0 0 0), .lst [emp]]) := QU (Ql (Zl (Xk (Qe rfl) rfl rfl) rfl (p8 _)) rfl (eqI _ _ _))
    cases h : (u == 3) with
    | true => rw [h] at t; exact ⟨60, (Qo s3).trans ((JV t).trans (QP (d := .int 60) rfl)), by omega⟩
    | false => rw [h] at t; exact ⟨zn, (Qo s3).trans ((Zg t).trans Zh), by omega⟩
  have M : WP (jV (fun d env => do let env' <- gN 4 d env; jg env') (Zd 0 m) [.val (.int c), .val (.ref 0), .val (.ref 1), .val (.int m), .un, .un]) [.dic [], .ins "Shelf" (shF r 2 0 0 0), .lst [emp]] fun q w => ∃ z4 z5 S bg kvs, q = (.nx, [.val (.int c), .val (.ref 0), .val (.ref 1), .val (.int m), z4, z5]) /\ TR.Tree S bg /\ S.room <= 50 /\ S.pg.length <= 60001 /\ w[1]? = some (.ins "Shelf" (shF S.room 2 S.top S.rd S.wr)) /\ w[2]? = some (.lst (S.pg.map pgD)) /\ w[0]? = some (.dic kvs) := by
    refine jJ (fun i env w => ∃ z4 z5 S bg kvs, env = [.val (.int c), .val (.ref 0), .val (.ref 1), .val (.int m), z4, z5] /\ TR.Tree S bg /\ S.room <= 50 /\ S.pg.length <= 1000 * i + 1 /\ w[1]? = some (.ins "Shelf" (shF S.room 2 S.top S.rd S.wr)) /\ w[2]? = some (.lst (S.pg.map pgD)) /\ w[0]? = some (.dic kvs) /\ kvs.length <= i) _ ⟨_, _, ⟨r, [⟨0, [], [], none, none⟩], 0, 0, 0⟩, _, [], rfl, Qa9 r (by omega), by show r <= 50; omega, by simp, rfl, rfl, rfl, by simp⟩ (fun i d0 hd0 env w ⟨z4, z5, S, bg, kvs, e, T, e1, e2, e3, e4, e5, e6⟩ => ?_) (fun env w ⟨z4, z5, S, bg, kvs, e, T, e1, e2, e3, e4, e5, e6⟩ => ⟨z4, z5, S, bg, kvs, by rw [e], T, e1, by rw [Je] at e2; omega, e3, e4, e5⟩)
    subst e
    obtain ⟨hi, hd'⟩ := zV hd0
    subst hd'
    have pk := Xl (Jx (c + 7 * (i : Int)) 10099 120 (by decide) (by decide) (by decide))
    generalize YW (c + 7 * (i : Int)) 10099 120 = v at pk
    have m7 := Xl (yP 7 (i : Int) (by decide) (by decide))
    obtain ⟨x0, hp', S', bg', f1, f2, f3, f4, f5, f6, f7, f8⟩ := QbY T e1 e3 e4 (by decide) (by omega) (.put (v - 5) i)
    have l0 : 0 < w.length := (List.getElem?_eq_some_iff.mp e5).1
    have g0 : hp'[0]? = some (.dic kvs) := (f8 0 l0 (by decide) (by decide)).trans e5
    have t1 : QC 5 (Qh zk (Qs 3 Qw (Qc (Qh ZG (Qb 0) (Qh z0 (eC (.int 7)) (Qb 4))) (Qc (eC (.int 10099)) (Qc (eC (.int 120)) Qm)))) (eC (.int 5))) [.val (.int c), .val (.ref 0), .val (.ref 1), .val (.int m), .val (.int (i : Int)), z5] w = some ((.nx, [.val (.int c), .val (.ref 0), .val (.ref 1), .val (.int m), .val (.int (i : Int)), .val (.int (v - 5))]), w) := QP (Ql (Zl (Xk (Ql (Qe rfl) (Ql rfl (Qe rfl) (m7 _)) rfl) rfl rfl) rfl (pk _)) rfl rfl)
    have t2 : Jo (Qs 2 X8 (Qc (Qb 2) (Qc (ZF (Qc (eC (.str "put")) (Qc (Qb 5) (Qc (Qb 4) Qm)))) Qm))) [.val (.int c), .val (.ref 0), .val (.ref 1), .val (.int m), .val (.int (i : Int)), .val (.int (v - 5))] w = some ((.nx, [.val (.int c), .val (.ref 0), .val (.ref 1), .val (.int m), .val (.int (i : Int)), .val (.int (v - 5))]), hp') := XR (Zl (J5 (Qe rfl) (qo (Xk rfl (Qe rfl) (Qe rfl)) (by simp))) rfl f1)
    have t3 : Yw (Qb 4) (gSb (Qb 1) (Qb 5)) [.val (.int c), .val (.ref 0), .val (.ref 1), .val (.int m), .val (.int (i : Int)), .val (.int (v - 5))] hp' = some ((.nx, [.val (.int c), .val (.ref 0), .val (.ref 1), .val (.int m), .val (.int (i : Int)), .val (.int (v - 5))]), hp'.set 0 (.dic (jK kvs (.inl (v - 5)) (.int (i : Int))))) := by
      refine yE (Qe rfl) ?_
      unfold gSb
      rw [Qi (Qe rfl), Qi (Qe rfl), Qi (Vf (d := .int (i : Int)) g0 (show qO (.int (v - 5)) = some (.inl (v - 5)) from rfl) (by omega))]; rfl
    have pl := QaR kvs (.inl (v - 5)) (.int (i : Int))
    exact ⟨_, _, (Qo t1).trans ((Qo t2).trans t3), ⟨_, _, S', bg', _, rfl, f2, by omega, by omega, (QT _ _ _ _ (by decide)).trans f5, (QT _ _ _ _ (by decide)).trans f6, gss g0, by omega⟩⟩
  obtain ⟨q, w, eM, z4, z5, S, bg, kvs, rfl, T, e1, e2, e3, e4, e5⟩ := M
  have L : jd [.val (.int c), .val (.ref 0), .val (.ref 1), .val (.int m), .un, .un] [.dic [], .ins "Shelf" (shF r 2 0 0 0), .lst [emp]] = some ((.nx, [.val (.int c), .val (.ref 0), .val (.ref 1), .val (.int m), z4, z5]), w) := qy (qS (m := m) (ZS (Qe rfl)) (by omega)) eM
  refine ⟨S, bg, w, kvs, ?_, T, e1, e2, e3, e4, e5⟩
  refine QY (env := [.val (.int c), .val (.ref 0), .val (.ref 1), .val (.int m), z4, z5]) ((Qo s1).trans ?_)
  have as : ∀ (f g h : DSx) (env : En) (hp : Hs), Qr f (Qr g h) env hp = Qr (Qr f g) h env hp := fun f g h env hp => gy f g h env hp
  rw [as]
  exact (Qo hm1).trans ((Qo L).trans (Q7 (Qe rfl)))
def hD : Option Nat -> DV
  | none => .non
  | some a => .ref a
structure Sys (w : Hs) (wl : Nat) (S : TR.Sh) (bg : TR.Bg) (H : List (Option Nat)) (ws : List TR.Wk) (N : Nat) : Prop where
  T : TR.Tree S bg
  A : TR.All S bg ws
  rm : S.room <= 50
  len : H.length = ws.length
  h1 : w[1]? = some (.ins "Shelf" (shF S.room 2 S.top S.rd S.wr))
  h2 : w[2]? = some (.lst (S.pg.map pgD))
  hw : w[wl]? = some (.lst (H.map hD))
  wl3 : 3 <= wl
  ob : ∀ (i a : Nat), H[i]? = some (some a) -> ∃ v, ws[i]? = some v /\ w[a]? = some (wkO 1 (a + 1) (a + 2) v) /\ w[a + 1]? = some (.dic (fkD v.forks)) /\ w[a + 2]? = some (.lst (prD v.pairs)) /\ wl < a /\ v.forks.length <= N /\ v.pairs.length <= 50 * N
  dj : ∀ (i j a b : Nat), i ≠ j -> H[i]? = some (some a) -> H[j]? = some (some b) -> a + 2 < b ∨ b + 2 < a
  pn : S.pg.length <= 60001 + N
theorem Qao {hp : Hs} {n f q a : Nat} {w : TR.Wk} (h : hp[a]? = some (wkO n f q w)) (he : w.ended = true) : Jm [.ref a] hp = some (.non, hp) :=
  QY (env := [.val (.ref a), .un, .un]) (ZQ ((JV (QU (Za (Qe rfl) h ((zW ..).trans (by rw [he]))))).trans (Q7 (d := .non) rfl)))
theorem QdM {S : TR.Sh} {bg : TR.Bg} {ws : List TR.Wk} (A : TR.All S bg ws) (x y : Int) : TR.All { S with rd := x, wr := y } bg ws := ⟨fun i w h e => (A.ok i w h e).rd x y, A.unt, A.diff⟩
section
variable {w : Hs} {wl : Nat} {S : TR.Sh} {bg : TR.Bg} {H : List (Option Nat)} {ws : List TR.Wk} {N : Nat}
theorem Sys.up (Y : Sys w wl S bg H ws N) : Sys w wl S bg H ws (N + 1) := ⟨Y.T, Y.A, Y.rm, Y.len, Y.h1, Y.h2, Y.hw, Y.wl3, fun i a h => by
  obtain ⟨v, a1, a2, a3, a4, a5, a6, a7⟩ := Y.ob i a h
  exact ⟨v, a1, a2, a3, a4, a5, by omega, by omega⟩, Y.dj, by have := Y.pn; omega⟩
theorem QaL (Y : Sys w wl S bg H ws N) {i a : Nat} (hi : H[i]? = some (some a)) (hN : N < 900) : ∃ x w' S' bg' ws', Jm [.ref a] w = some (x, w') /\ Sys w' wl S' bg' H ws' (N + 1) := by
  obtain ⟨v, a1, a2, a3, a4, a5, a6, a7⟩ := Y.ob i a hi
  have pn := Y.pn
  have w3 := Y.wl3
  cases he : v.ended with
  | true => exact ⟨_, w, S, bg, ws, Qao a2 he, Y.up⟩
  | false =>
    have W := Y.A.ok i v a1 he
    obtain ⟨r, S2, v2, bg2, es, st⟩ := TR.ul Y.T W he (fun g c hc => Y.A.unt i v c a1 he g hc)
    have D : Dif 1 2 a (a + 1) (a + 2) := ⟨by decide, by omega, by omega, by omega, by omega, by omega, by omega, by omega, by omega, by omega⟩
    obtain ⟨w', e2, A2, F2⟩ := uc Y.T W Y.rm ⟨Y.h1, Y.h2, a2, a3, a4⟩ D (by omega) (by omega) (by omega) es
    have rm := Y.rm
    have sz := TR.VJ (m := 50) (fun m p hm => by have := (Y.T.page m p hm).few; omega) es
    have lw : wl < w.length := (List.getElem?_eq_some_iff.mp Y.hw).1
    have li : i < ws.length := (List.getElem?_eq_some_iff.mp a1).1
    refine ⟨_, w', S2, bg2, ws.set i v2, e2, ⟨st.tree, Y.A.step a1 he st, by rw [st.room]; exact Y.rm, by rw [List.length_set]; exact Y.len, A2.h1, A2.h2, ?_, w3, fun j b hj => ?_, Y.dj, by have := st.len; omega⟩⟩
    . rw [F2.2 wl lw (by omega) (by omega) (by omega) (by omega) (by omega)]; exact Y.hw
    . by_cases e : j = i
      . subst e
        rw [hi] at hj; cases hj
        exact ⟨v2, List.getElem?_set_self li, A2.h3, A2.h4, A2.h5, a5, by omega, by omega⟩
      . obtain ⟨u, b1, b2, b3, b4, b5, b6, b7⟩ := Y.ob j b hj
        have l2 : b + 2 < w.length := (List.getElem?_eq_some_iff.mp b4).1
        have dd := Y.dj i j a b (Ne.symm e) hi hj
        refine ⟨u, by rw [List.getElem?_set_ne (Ne.symm e)]; exact b1, ?_, ?_, ?_, b5, by omega, by omega⟩
        . rw [F2.2 b (by omega) (by omega) (by omega) (by omega) (by omega) (by omega)]; exact b2
        . rw [F2.2 (b + 1) (by omega) (by omega) (by omega) (by omega) (by omega) (by omega)]; exact b3
        . rw [F2.2 (b + 2) (by omega) (by omega) (by omega) (by omega) (by omega) (by omega)]; exact b4
theorem gA (Y : Sys w wl S bg H ws N) (hN : N < 900) : ∃ w' S', J3 [.ref 1] w = some (.bl true, w') /\ Sys w' wl S' bg H ws N := by
  have pn := Y.pn
  have w3 := Y.wl3
  obtain ⟨w', rd', e, k1, k2, k3⟩ := Gd Y.T Y.rm Y.h1 Y.h2 (by decide) (by omega)
  have l2 : 2 < w.length := (List.getElem?_eq_some_iff.mp Y.h2).1
  have lw : wl < w.length := (List.getElem?_eq_some_iff.mp Y.hw).1
  refine ⟨w', { S with rd := rd', wr := S.wr }, e, ⟨Y.T.rd _ _, QdM Y.A _ _, Y.rm, Y.len, k1, (k3 2 l2 (by decide)).trans Y.h2, (k3 wl lw (by omega)).trans Y.hw, w3, fun j b hj => ?_, Y.dj, pn⟩⟩
  obtain ⟨u, b1, b2, b3, b4, b5, b6, b7⟩ := Y.ob j b hj
  have l3 : b + 2 < w.length := (List.getElem?_eq_some_iff.mp b4).1
  exact ⟨u, b1, (k3 b (by omega) (by omega)).trans b2, (k3 (b + 1) (by omega) (by omega)).trans b3, (k3 (b + 2) (by omega) (by omega)).trans b4, b5, b6, b7⟩
theorem Qcf (Y : Sys w wl S bg H ws N) {i : Nat} (hi : i < H.length) (d : TR.Deed) : Sys ((w ++ [wkO 1 (w.length + 1) (w.length + 2) (TR.fresh d), .dic [], .lst []]).set wl (.lst ((H.map hD).set i (.ref w.length)))) wl S bg (H.set i (some w.length)) (ws.set i (TR.fresh d)) N := by
  have w3 := Y.wl3
  have lw : wl < w.length := (List.getElem?_eq_some_iff.mp Y.hw).1
  have li : i < ws.length := by rw [<- Y.len]; exact hi
  have old : ∀ j x, j ≠ wl -> w[j]? = some x -> ((w ++ [wkO 1 (w.length + 1) (w.length + 2) (TR.fresh d), .dic [], .lst []]).set wl (.lst ((H.map hD).set i (.ref w.length))))[j]? = some x := fun j x hj h => gs (Ne.symm hj) ((List.getElem?_append_left (List.getElem?_eq_some_iff.mp h).1).trans h)
  refine ⟨Y.T, Y.A.put rfl rfl rfl, Y.rm, by simp [Y.len], old 1 _ (by omega) Y.h1, old 2 _ (by omega) Y.h2, ?_, w3, fun j b hj => ?_, fun j j' a b hne ha hb => ?_, Y.pn⟩
  . rw [Zj _ _ _ (by rw [List.getElem?_append_left lw, Y.hw]; rfl), List.map_set]; rfl
  . rcases TR.Z4 hj with ⟨rfl, e, _⟩ | ⟨ne, hj⟩
    . cases e
      refine ⟨TR.fresh d, List.getElem?_set_self li, gs (by omega) (by simp), gs (by omega) ?_, gs (by omega) ?_, lw, Nat.zero_le _, Nat.zero_le _⟩
      . rw [List.getElem?_append_right (by omega)]; simp; rfl
      . rw [List.getElem?_append_right (by omega)]; simp; rfl
    . obtain ⟨u, b1, b2, b3, b4, b5, b6, b7⟩ := Y.ob j b hj
      exact ⟨u, by rw [List.getElem?_set_ne (Ne.symm ne)]; exact b1, old b _ (by omega) b2, old (b + 1) _ (by omega) b3, old (b + 2) _ (by omega) b4, b5, b6, b7⟩
  . have small : ∀ j b, H[j]? = some (some b) -> b + 2 < w.length := fun j b hj => by
      obtain ⟨u, _, _, _, b4, _⟩ := Y.ob j b hj
      exact (List.getElem?_eq_some_iff.mp b4).1
    rcases TR.Z4 ha with ⟨rfl, e, _⟩ | ⟨na, ha2⟩
    . cases e
      rcases TR.Z4 hb with ⟨rfl, e, _⟩ | ⟨nb, hb2⟩
      . exact absurd rfl hne
      . exact .inr (small _ _ hb2)
    . rcases TR.Z4 hb with ⟨rfl, e, _⟩ | ⟨nb, hb2⟩
      . cases e; exact .inl (small _ _ ha2)
      . exact Y.dj j j' a b hne ha2 hb2
theorem K9 (Y : Sys w wl S bg H ws N) {i a : Nat} (hi : H[i]? = some (some a)) (hN : N + 5 < 900) (c : Int) (e0 e1 e3 e7 e8 : Sl) : ∃ w' S' bg' ws' z7 z8, Kr [e0, e1, .val (.ref 1), e3, .val (.ref wl), .val (.int c), .val (.int (i : Int)), e7, e8] w = some ((.nx, [e0, e1, .val (.ref 1), e3, .val (.ref wl), .val (.int c), .val (.int (i : Int)), z7, z8]), w') /\ Sys w' wl S' bg' H ws' (N + 5) := by
  have p5 := Xl (Jx c 10133 5 (by decide) (by decide) (by decide))
  obtain ⟨m, hm⟩ := Vb (Y7 c 10133 5 (by decide))
  have ml := qe c 10133 5 (by decide)
  rw [hm] at p5 ml
  have M : WP (jV (fun d env => do let env' <- gN 7 d env; ua env') (Zd 0 (1 + m)) [e0, e1, .val (.ref 1), e3, .val (.ref wl), .val (.int c), .val (.int (i : Int)), e7, e8]) w fun q w' => ∃ S' bg' ws' z7 z8, q = (.nx, [e0, e1, .val (.ref 1), e3, .val (.ref wl), .val (.int c), .val (.int (i : Int)), z7, z8]) /\ Sys w' wl S' bg' H ws' (N + (1 + m)) := by
    refine jJ (fun j env w' => ∃ S' bg' ws' z7 z8, env = [e0, e1, .val (.ref 1), e3, .val (.ref wl), .val (.int c), .val (.int (i : Int)), z7, z8] /\ Sys w' wl S' bg' H ws' (N + j)) _ ⟨S, bg, ws, e7, e8, rfl, Y⟩ (fun j d0 hd0 env w' ⟨S', bg', ws', z7, z8, e, Y'⟩ => ?_) (fun env w' ⟨S', bg', ws', z7, z8, e, Y'⟩ => ⟨S', bg', ws', z7, z8, by rw [e], by rw [Je] at Y'; exact Y'⟩)
    subst e
    obtain ⟨hj, hd'⟩ := zV hd0
    subst hd'
    obtain ⟨v, a1, a2, _⟩ := Y'.ob i a hi
    have wk : ∀ z : Sl, Qh ixG (Qb 4) (Qb 6) [e0, e1, .val (.ref 1), e3, .val (.ref wl), .val (.int c), .val (.int (i : Int)), .val (.int (j : Int)), z] w' = some (.ref a, w') := fun z => Ql (Qe rfl) (Qe rfl) (Y9 (i := i) Y'.hw (by rw [List.getElem?_map, hi]; rfl))
    obtain ⟨x, w2, S2, bg2, ws2, es, Y2⟩ := QaL Y' hi (by omega)
    have s1 : QC 8 (QK "Shelf" "writings" 1 Zv (Qb 2) Qm) [e0, e1, .val (.ref 1), e3, .val (.ref wl), .val (.int c), .val (.int (i : Int)), .val (.int (j : Int)), z8] w' = some ((.nx, [e0, e1, .val (.ref 1), e3, .val (.ref wl), .val (.int c), .val (.int (i : Int)), .val (.int (j : Int)), .val (.int S'.wr)]), w') := QP (Q9 (Qe rfl) Y'.h1 (Gb ..) qI rfl (yc Y'.h1))
    have s2 : Jo (QK "Walk" "step" 1 Jm (Qh ixG (Qb 4) (Qb 6)) Qm) [e0, e1, .val (.ref 1), e3, .val (.ref wl), .val (.int c), .val (.int (i : Int)), .val (.int (j : Int)), .val (.int S'.wr)] w' = some ((.nx, [e0, e1, .val (.ref 1), e3, .val (.ref wl), .val (.int c), .val (.int (i : Int)), .val (.int (j : Int)), .val (.int S'.wr)]), w2) := XR (Q9 (wk _) a2 (uk ..) qI rfl es)
    have t : eB (Qh neG (QK "Shelf" "writings" 1 Zv (Qb 2) Qm) (Qb 8)) [e0, e1, .val (.ref 1), e3, .val (.ref wl), .val (.int c), .val (.int (i : Int)), .val (.int (j : Int)), .val (.int S'.wr)] w2 = some (!(S2.wr == S'.wr), w2) := QU (Ql (Q9 (Qe rfl) Y2.h1 (Gb ..) qI rfl (yc Y2.h1)) (Qe rfl) (neI _ _ _))
    cases hq : (S2.wr == S'.wr) with
    | true =>
      rw [hq] at t
      exact ⟨_, _, (Qo s1).trans ((Qo s2).trans ((Zg (qV t)).trans Zh)), ⟨S2, bg2, ws2, _, _, rfl, Y2⟩⟩
    | false =>
      rw [hq] at t
      obtain ⟨w3, S3, e3', Y3⟩ := gA Y2 (by omega)
      exact ⟨_, _, (Qo s1).trans ((Qo s2).trans ((Zg ((qZ t).trans (zd (b := true) (QU (Zl (ZS (Qe rfl)) rfl e3'))))).trans Zh)), ⟨S3, bg2, ws2, _, _, rfl, Y3⟩⟩
  obtain ⟨q, w', eM, S', bg', ws', z7, z8, rfl, Y'⟩ := M
  refine ⟨w', S', bg', ws', z7, z8, qy (qS (m := 1 + m) (ZS (Ql rfl (Zl (Xk (Qe rfl) rfl rfl) rfl (p5 _)) (by show some (DV.int (1 + (m : Int)), w) = _; rw [show (1 + (m : Int)) = ((1 + m : Nat) : Int) by omega]))) (by omega)) eM, ?_⟩
  have up : ∀ k M', Sys w' wl S' bg' H ws' M' -> Sys w' wl S' bg' H ws' (M' + k) := fun k => by
    induction k with
    | zero => exact fun M' y => y
    | succ k ih => exact fun M' y => (ih M' y).up
  have := up (4 - m) _ Y'
  rwa [show N + (1 + m) + (4 - m) = N + 5 by omega] at this
end
theorem QbJ (ns : List Int) (k : Nat) (hl : ns.length <= 63) : ∃ x, Jq [.lst (ns.map .int), .int k] = pure (.int x) := by
  by_cases h : k < ns.length
  . have a := YX (xs := ns.map DV.int) (j := k) (v := .int ns[k]) (by simp [h])
    refine ⟨ns[k], ?_⟩
    have h' : (k : Int) < (ns.length : Int) := by omega
    simp [Jq, qx, Q1, Qr, QC, QF, Xp, sIf, Q6, qv, YV, qq, qh, Qh, Qb, eC, eB, asB, Jh, eOr, JT, J6, qw, Xj, eIf, XF, Qm, Qc, ZF, JW, Qs, QN, Qu, gN, Zb, Zo, Q4, Zi, Zr, Zq, Zm, Xi, Xo, qr, Zw, ZO, YG, ixD, asI, a, h']
  . have h' : ¬ (k : Int) < (ns.length : Int) := by omega
    exact ⟨0, by simp [Jq, qx, Q1, Qr, QC, QF, Xp, sIf, Q6, qv, YV, qq, qh, Qh, Qb, eC, eB, asB, Jh, eOr, JT, J6, qw, Xj, eIf, XF, Qm, Qc, ZF, JW, Qs, QN, Qu, gN, Zb, Zo, Q4, Zi, Zr, Zq, Zm, Xi, Xo, qr, Zw, ZO, YG, h']⟩
theorem gQ {t : DV -> M Bool} {f : DV -> M DV} {g : DV -> DV} {hp : Hs} (ds : List DV) (ht : ∀ d ∈ ds, t d hp = some (true, hp)) (hf : ∀ d ∈ ds, f d hp = some (g d, hp)) (hl : ds.length < 100000) : Xf (nxD ds) t f 100000 0 hp = some (ds.map g, hp) := by
  suffices h : ∀ (m i n : Nat), m + i = ds.length -> m < n -> Xf (nxD ds) t f n i hp = some ((ds.drop i).map g, hp) by simpa using h ds.length 0 100000 rfl hl
  intro m
  induction m with
  | zero =>
    intro i n e hn'
    obtain ⟨n, rfl⟩ : ∃ k, n = k + 1 := ⟨n - 1, by omega⟩
    have : i = ds.length := by omega
    subst this
    have e1 := zg ds ds.length (Nat.le_refl _) hp
    rw [show ds[ds.length]? = none by simp] at e1
    rw [Xf, Qi e1, List.drop_length]; rfl
  | succ m ih =>
    intro i n e hn'
    obtain ⟨n, rfl⟩ : ∃ k, n = k + 1 := ⟨n - 1, by omega⟩
    have hlt : i < ds.length := by omega
    have e1 := zg ds i (by omega) hp
    rw [List.getElem?_eq_getElem hlt] at e1
    rw [Xf, Qi e1]
    simp only
    rw [Qi (ht ds[i] (List.getElem_mem hlt)), List.drop_eq_getElem_cons hlt]
    simp only [if_true]
    rw [Qi (hf ds[i] (List.getElem_mem hlt)), Qi (ih (i + 1) n (by omega) (by omega))]; rfl
theorem Qaq {hp : Hs} {a i : Nat} {ds : List DV} {d : DV} (h : hp[a]? = some (.lst ds)) (hi : i < ds.length) : jR (.ref a) (.int (i : Int)) d hp = some ((), hp.set a (.lst (ds.set i d))) := by
  show (Jt a >>= _) hp = _
  rw [Qi (Z3 h)]
  show (asI (.int (i : Int)) >>= fun k => match ixN ds.length k with | some j => jX a (.lst (ds.set j d)) | none => failure) hp = _
  simp only [asI, pure_bind, uF hi]; rfl
theorem kz {w : Hs} {wl : Nat} {S : TR.Sh} {bg : TR.Bg} {H : List (Option Nat)} {ws : List TR.Wk} {N : Nat} (Y : Sys w wl S bg H ws N) (hH : 0 < H.length) (hN : N + 5 < 900) (c : Int) (e0 e1 e6 e7 e8 : Sl) : ∃ w' S' bg' H' ws' z6 z7 z8, UO [e0, e1, .val (.ref 1), .val (.int H.length), .val (.ref wl), .val (.int c), e6, e7, e8] w = some ((.nx, [e0, e1, .val (.ref 1), .val (.int H.length), .val (.ref wl), .val (.int c), z6, z7, z8]), w') /\ Sys w' wl S' bg' H' ws' (N + 5) /\ H'.length = H.length := by
  have pk := Xl (Jx c 10111 H.length (by decide) (by decide) (by omega))
  obtain ⟨i, hi⟩ := Vb (Y7 c 10111 H.length (by omega))
  have hil := qe c 10111 H.length (by omega)
  rw [hi] at pk hil
  have hil' : i < H.length := by omega
  have s1 : QC 6 (Qs 3 Qw (Qc (Qb 5) (Qc (eC (.int 10111)) (Qc (Qb 3) Qm)))) [e0, e1, .val (.ref 1), .val (.int H.length), .val (.ref wl), .val (.int c), e6, e7, e8] w = some ((.nx, [e0, e1, .val (.ref 1), .val (.int H.length), .val (.ref wl), .val (.int c), .val (.int (i : Int)), e7, e8]), w) := QP (Zl (Xk (Qe rfl) rfl (Qe rfl)) rfl (pk _))
  have wk : Qh ixG (Qb 4) (Qb 6) [e0, e1, .val (.ref 1), .val (.int H.length), .val (.ref wl), .val (.int c), .val (.int (i : Int)), e7, e8] w = some (hD H[i], w) := Ql (Qe rfl) (Qe rfl) (Y9 (i := i) Y.hw (by rw [List.getElem?_map, List.getElem?_eq_getElem hil']; rfl))
  obtain ⟨d, de⟩ := QdC c
  have mk := Gw (n := 1) (d := d) (fa := Qc (Qb 2) (Qc (Qs 1 Jr (Qc (Qb 5) Qm)) Qm)) (env := [e0, e1, .val (.ref 1), .val (.int H.length), .val (.ref wl), .val (.int c), .val (.int (i : Int)), e7, e8]) (hp0 := w) (hp := w) (J5 (Qe rfl) (Zl (ZS (Qe rfl)) rfl (Xl de w)))
  have lw : wl < w.length := (List.getElem?_eq_some_iff.mp Y.hw).1
  have pt : Yw (Xy "Walk" 3 Zp (Qc (Qb 2) (Qc (Qs 1 Jr (Qc (Qb 5) Qm)) Qm))) (gSb (Qb 4) (Qb 6)) [e0, e1, .val (.ref 1), .val (.int H.length), .val (.ref wl), .val (.int c), .val (.int (i : Int)), e7, e8] w = some ((.nx, [e0, e1, .val (.ref 1), .val (.int H.length), .val (.ref wl), .val (.int c), .val (.int (i : Int)), e7, e8]), (w ++ [wkO 1 (w.length + 1) (w.length + 2) (TR.fresh d), .dic [], .lst []]).set wl (.lst ((H.map hD).set i (.ref w.length)))) := by
    refine yE mk ?_
    unfold gSb
    rw [Qi (Qe rfl), Qi (Qe rfl), Qi (Qaq (i := i) ((List.getElem?_append_left lw).trans Y.hw) (by simpa using hil'))]; rfl
  have made : ∃ w' S' bg' ws' z7 z8, Kr [e0, e1, .val (.ref 1), .val (.int H.length), .val (.ref wl), .val (.int c), .val (.int (i : Int)), e7, e8] ((w ++ [wkO 1 (w.length + 1) (w.length + 2) (TR.fresh d), .dic [], .lst []]).set wl (.lst ((H.map hD).set i (.ref w.length)))) = some ((.nx, [e0, e1, .val (.ref 1), .val (.int H.length), .val (.ref wl), .val (.int c), .val (.int (i : Int)), z7, z8]), w') /\ Sys w' wl S' bg' (H.set i (some w.length)) ws' (N + 5) :=
    K9 (Qcf Y hil' d) (List.getElem?_set_self hil') hN c e0 e1 (.val (.int H.length)) e7 e8
  cases hx : H[i] with
  | none =>
    rw [hx] at wk
    obtain ⟨w', S', bg', ws', z7, z8, eL, Y'⟩ := made
    exact ⟨w', S', bg', _, ws', _, z7, z8, (Qo s1).trans ((Qo ((JV (QcB (QU (b := true) (Ql wk rfl rfl)))).trans pt)).trans eL), Y', by simp⟩
  | some a =>
    rw [hx] at wk
    have ha : H[i]? = some (some a) := by rw [List.getElem?_eq_getElem hil', hx]
    obtain ⟨v, v1, v2, _⟩ := Y.ob i a ha
    have ov := uh v2
    have t : eOr (eB (Qh isD (Qh ixG (Qb 4) (Qb 6)) (eC .non))) (eB (QK "Walk" "over" 1 J4 (Qh ixG (Qb 4) (Qb 6)) Qm)) [e0, e1, .val (.ref 1), .val (.int H.length), .val (.ref wl), .val (.int c), .val (.int (i : Int)), e7, e8] w = some (v.ended, w) := (xg (QU (b := false) (Ql wk rfl rfl))).trans (QU (Q9 wk v2 (Ky ..) qI rfl ov))
    cases he : v.ended with
    | true =>
      rw [he] at t
      obtain ⟨w', S', bg', ws', z7, z8, eL, Y'⟩ := made
      exact ⟨w', S', bg', _, ws', _, z7, z8, (Qo s1).trans ((Qo ((JV t).trans pt)).trans eL), Y', by simp⟩
    | false =>
      rw [he] at t
      obtain ⟨w', S', bg', ws', z7, z8, eL, Y'⟩ := K9 Y ha hN c e0 e1 (.val (.int H.length)) e7 e8
      exact ⟨w', S', bg', H, ws', _, z7, z8, (Qo s1).trans ((Qo ((Zg t).trans Zh)).trans eL), Y', rfl⟩
theorem Qad (ns : List Int) (h : ns.length <= 63) : ∃ hp, Gp [.lst (ns.map .int)] [] = some (.bl true, hp) := by
  obtain ⟨x0, c0⟩ := QbJ ns 0 h
  have c0' := Xl c0
  simp only [Int.natCast_zero] at c0'
  obtain ⟨S, bg, hp1, kvs, b1, T, b3, b4, b5, b6, b7⟩ := QaE x0
  obtain ⟨hp2, rd', s1, s2, s3, s4⟩ := Gd T b3 b5 b6 (by decide) (by omega)
  have l2 : 2 < hp1.length := (List.getElem?_eq_some_iff.mp b6).1
  have p8 := Xl (Jx x0 10103 8 (by decide) (by decide) (by decide))
  obtain ⟨m, hm⟩ := Vb (Y7 x0 10103 8 (by decide))
  have ml := qe x0 10103 8 (by decide)
  rw [hm] at p8 ml
  let H0 : List (Option Nat) := List.replicate (1 + m) none
  have H0l : H0.length = 1 + m := List.length_replicate ..
  have cn : Kn [.val (.lst (ns.map .int)), .val (.int x0), .val (.ref 1), .val (.int H0.length), .un, .un, .un, .un, .un] hp2 = some (.ref hp2.length, hp2 ++ [.lst (H0.map hD)]) := by
    have src : xOf (yA (Qc (Qb 3) Qm)) [.val (.lst (ns.map .int)), .val (.int x0), .val (.ref 1), .val (.int H0.length), .un, .un, .un, .un, .un] hp2 = some (nxD (Zd 0 H0.length), hp2) := vi (qS (m := H0.length) (ZS (Qe rfl)) (by omega))
    have cx := gQ (hp := hp2) (t := fun d => gF (cE [] [.val (.lst (ns.map .int)), .val (.int x0), .val (.ref 1), .val (.int H0.length), .un, .un, .un, .un, .un] d)) (f := fun d => eC .non (cE [] [.val (.lst (ns.map .int)), .val (.int x0), .val (.ref 1), .val (.int H0.length), .un, .un, .un, .un, .un] d)) (g := fun _ => .non) (Zd 0 H0.length) (fun _ _ => rfl) (fun _ _ => rfl) (by rw [Je]; omega)
    have e : (Zd 0 H0.length).map (fun _ => DV.non) = H0.map hD := by
      rw [List.map_const', Je]
      show _ = (List.replicate (1 + m) none).map hD
      rw [List.map_replicate, H0l]; rfl
    rw [e] at cx
    unfold Kn YD
    rw [Qi src, Qi (show Xf _ _ _ lim 0 hp2 = _ from cx)]; rfl
  have ap : ∀ {j : Nat} {x : OV}, hp2[j]? = some x -> (hp2 ++ [OV.lst (H0.map hD)])[j]? = some x := fun {j x} hx => (List.getElem?_append_left (List.getElem?_eq_some_iff.mp hx).1).trans hx
  have nn : ∀ (i a : Nat), H0[i]? = some (some a) -> False := fun i a hx => by
    have := List.mem_of_getElem? hx
    have := List.eq_of_mem_replicate this
    cases this
  have Y0 : Sys (hp2 ++ [.lst (H0.map hD)]) hp2.length { S with rd := rd', wr := S.wr } bg H0 (List.replicate (1 + m) ⟨.find 0, 0, 0, none, [], none, none, [], true⟩) 0 := by
    have dead : ∀ (i : Nat) (v : TR.Wk), (List.replicate (1 + m) (⟨.find 0, 0, 0, none, [], none, none, [], true⟩ : TR.Wk))[i]? = some v -> v.ended = true := fun i v hv => by rw [List.eq_of_mem_replicate (List.mem_of_getElem? hv)]
    refine ⟨T.rd _ _, ⟨fun i v hv he => ?_, fun i v c hv he => ?_, fun i j v u c _ hv _ he => ?_⟩, b3, by rw [H0l, List.length_replicate], ap s2, ap ((s4 2 l2 (by decide)).trans b6), by simp, by omega, fun i a hx => (nn i a hx).elim, fun i j a b _ hx => (nn i a hx).elim, b4⟩
    . rw [dead i v hv] at he; cases he
    . rw [dead i v hv] at he; cases he
    . rw [dead i v hv] at he; cases he
  have hc : D.yr (ns.map DV.int) none (some 100) = ns.map .int := by
    have q : D.yr (ns.map DV.int) none (some 100) = (ns.map DV.int).take 100 := KW (ns.map DV.int) 100
    rw [q, List.take_of_length_le (by simp; omega)]
  have M : WP (xw (nxD (ns.map .int)) (fun d env => gN 5 d env >>= fun env' => UO env') 100000 0 [.val (.lst (ns.map .int)), .val (.int x0), .val (.ref 1), .val (.int H0.length), .val (.ref hp2.length), .un, .un, .un, .un]) (hp2 ++ [.lst (H0.map hD)]) fun q w => ∃ z5 z6 z7 z8, q = (.nx, [.val (.lst (ns.map .int)), .val (.int x0), .val (.ref 1), .val (.int H0.length), .val (.ref hp2.length), z5, z6, z7, z8]) := by
    refine kM _ (fun i env w => ∃ S' bg' H' ws' z5 z6 z7 z8, env = [.val (.lst (ns.map .int)), .val (.int x0), .val (.ref 1), .val (.int H0.length), .val (.ref hp2.length), z5, z6, z7, z8] /\ Sys w hp2.length S' bg' H' ws' (5 * i) /\ H'.length = H0.length) (by simp; omega) ⟨_, _, _, _, _, _, _, _, rfl, Y0, rfl⟩ (fun i d hd env w ⟨S', bg', H', ws', z5, z6, z7, z8, e, Y, hl⟩ => ?_) (fun env w ⟨S', bg', H', ws', z5, z6, z7, z8, e, Y, hl⟩ => ⟨z5, z6, z7, z8, by rw [e]⟩)
    subst e
    have hi : i < 63 := by have := (List.getElem?_eq_some_iff.mp hd).1; simp at this; omega
    obtain ⟨c, _, rfl⟩ := List.mem_map.mp (List.mem_of_getElem? hd)
    obtain ⟨w', S2, bg2, H2, ws2, y6, y7, y8, e, Y2, l2⟩ := kz Y (by rw [hl, H0l]; omega) (by omega) c (.val (.lst (ns.map .int))) (.val (.int x0)) z6 z7 z8
    rw [hl] at e
    exact ⟨_, _, e, S2, bg2, H2, ws2, _, y6, y7, y8, rfl, Y2, by rw [l2, hl]⟩
  obtain ⟨q, w, eM, z5, z6, z7, z8, rfl⟩ := M
  have L : ui [.val (.lst (ns.map .int)), .val (.int x0), .val (.ref 1), .val (.int H0.length), .val (.ref hp2.length), .un, .un, .un, .un] (hp2 ++ [.lst (H0.map hD)]) = some ((.nx, [.val (.lst (ns.map .int)), .val (.int x0), .val (.ref 1), .val (.int H0.length), .val (.ref hp2.length), z5, z6, z7, z8]), w) := by
    refine vr (ds := ns.map .int) (hp1 := hp2 ++ [.lst (H0.map hD)]) ?_ eM
    have e1 : eSl (Qb 0) Z7 (Z5 (eC (.int 100))) [.val (.lst (ns.map .int)), .val (.int x0), .val (.ref 1), .val (.int H0.length), .val (.ref hp2.length), .un, .un, .un, .un] = pure (.lst (ns.map .int)) := by
      simp [eSl, Z7, Z5, slD, hc, Q1, Qr, QC, QF, Xp, sIf, Q6, qv, YV, qq, qh, Qh, Qb, eC, eB, asB, Jh, eOr, JT, J6, qw, Xj, eIf, XF, Qm, Qc, ZF, JW, Qs, QN, Qu, gN, Zb, Zo, Q4, Zi, Zr, Zq, Zm, Xi, Xo, qr, Zw, ZO, asI]
    exact QaK (Xl e1 _)
  have t1 : QC 1 (Qs 2 Jq (Qc (Qb 0) (Qc (eC (.int 0)) Qm))) [.val (.lst (ns.map .int)), .un, .un, .un, .un, .un, .un, .un, .un] [] = some ((.nx, [.val (.lst (ns.map .int)), .val (.int x0), .un, .un, .un, .un, .un, .un, .un]), []) := QP (Zl (J5 (Qe rfl) rfl) rfl (c0' _))
  have t2 : QC 2 (Qs 2 Yn (Qc (Qb 1) (Qc JE Qm))) [.val (.lst (ns.map .int)), .val (.int x0), .un, .un, .un, .un, .un, .un, .un] [] = some ((.nx, [.val (.lst (ns.map .int)), .val (.int x0), .val (.ref 1), .un, .un, .un, .un, .un, .un]), hp1) := QP (Zl (J5 (Qe rfl) (v' := .ref 0) (hp2 := [.dic []]) rfl) rfl b1)
  have t3 : sIf (JT (eB (Qs 1 J3 (Qc (Qb 2) Qm)))) (QF (eC (.bl false))) Q6 [.val (.lst (ns.map .int)), .val (.int x0), .val (.ref 1), .un, .un, .un, .un, .un, .un] hp1 = some ((.nx, [.val (.lst (ns.map .int)), .val (.int x0), .val (.ref 1), .un, .un, .un, .un, .un, .un]), hp2) := (Zg (zd (b := true) (QU (Zl (ZS (Qe rfl)) rfl s1)))).trans Zh
  have t4 : QC 3 (Qh ZG (eC (.int 1)) (Qs 3 Qw (Qc (Qb 1) (Qc (eC (.int 10103)) (Qc (eC (.int 8)) Qm))))) [.val (.lst (ns.map .int)), .val (.int x0), .val (.ref 1), .un, .un, .un, .un, .un, .un] hp2 = some ((.nx, [.val (.lst (ns.map .int)), .val (.int x0), .val (.ref 1), .val (.int H0.length), .un, .un, .un, .un, .un]), hp2) := QP (Ql rfl (Zl (Xk (Qe rfl) rfl rfl) rfl (p8 _)) (by show some (DV.int (1 + (m : Int)), hp2) = _; rw [H0l, show ((1 + m : Nat) : Int) = 1 + (m : Int) by omega]))
  exact ⟨w, QY ((Qo t1).trans ((Qo t2).trans ((Qo t3).trans ((Qo t4).trans ((Qo (QP cn)).trans ((Qo L).trans (Q7 (d := .bl true) rfl)))))))⟩
theorem Qd0 {P : Program} {w : World} {K : PySem.W.Frag} {h : Heap} {mg : Str -> Option Value} {fa f0 f1 f2 f3 f4 f5 f6 f7 f8 f9 f10 f11 f12 f13 f14 f15 f16 f17 f18 f19 f20 f21 f22 f23 f24 f25 f26 f27 f28 f29 f30 f31 f32 f33 f34 f35 f36 f37 f38 f39 f40 f41 f42 f43 f44 f45 f46 C_Shelf C_Walk : Addr} (X : K.In h) (G : h.Ns mainGlobals mg) (hfa : mg "law" = some (.ref fa))
    {od0 an0 od1 an1 od2 an2 od3 an3 od4 an4 od5 an5 od6 an6 od7 an7 od8 an8 od9 an9 od10 an10 od11 an11 od12 an12 od13 an13 od14 an14 od15 an15 od16 an16 od17 an17 od18 an18 od19 an19 od20 an20 od21 an21 od22 an22 od23 an23 od24 an24 od25 an25 od26 an26 od27 an27 od28 an28 od29 an29 od30 an30 od31 an31 od32 an32 od33 an33 od34 an34 od35 an35 od36 an36 od37 an37 od38 an38 od39 an39 od40 an40 od41 an41 od42 an42 od43 an43 od44 an44 od45 an45 od46 an46 : Option Addr} {sl0 sl1 sl2 sl3 sl4 sl5 sl6 sl7 sl8 sl9 sl10 sl11 sl12 sl13 sl14 sl15 sl16 sl17 sl18 sl19 sl20 sl21 sl22 sl23 sl24 sl25 sl26 sl27 sl28 sl29 sl30 sl31 sl32 sl33 sl34 sl35 sl36 sl37 sl38 sl39 sl40 sl41 sl42 sl43 sl44 sl45 sl46 : Array (Option Value)} {oc0 kV0 dc0 pm0 cd0 ct0 oc1 kV1 dc1 pm1 cd1 ct1 oc2 kV2 dc2 pm2 cd2 ct2 oc3 kV3 dc3 pm3 cd3 ct3 oc4 kV4 dc4 pm4 cd4 ct4 oc5 kV5 dc5 pm5 cd5 ct5 oc6 kV6 dc6 pm6 cd6 ct6 oc7 kV7 dc7 pm7 cd7 ct7 oc8 kV8 dc8 pm8 cd8 ct8 oc9 kV9 dc9 pm9 cd9 ct9 oc10 kV10 dc10 pm10 cd10 ct10 oc11 kV11 dc11 pm11 cd11 ct11 oc12 kV12 dc12 pm12 cd12 ct12 oc13 kV13 dc13 pm13 cd13 ct13 oc14 kV14 dc14 pm14 cd14 ct14 oc15 kV15 dc15 pm15 cd15 ct15 oc16 kV16 dc16 pm16 cd16 ct16 oc17 kV17 dc17 pm17 cd17 ct17 oc18 kV18 dc18 pm18 cd18 ct18 oc19 kV19 dc19 pm19 cd19 ct19 oc20 kV20 dc20 pm20 cd20 ct20 oc21 kV21 dc21 pm21 cd21 ct21 oc22 kV22 dc22 pm22 cd22 ct22 oc23 kV23 dc23 pm23 cd23 ct23 oc24 kV24 dc24 pm24 cd24 ct24 oc25 kV25 dc25 pm25 cd25 ct25 oc26 kV26 dc26 pm26 cd26 ct26 oc27 kV27 dc27 pm27 cd27 ct27 oc28 kV28 dc28 pm28 cd28 ct28 oc29 kV29 dc29 pm29 cd29 ct29 oc30 kV30 dc30 pm30 cd30 ct30 oc31 kV31 dc31 pm31 cd31 ct31 oc32 kV32 dc32 pm32 cd32 ct32 oc33 kV33 dc33 pm33 cd33 ct33 oc34 kV34 dc34 pm34 cd34 ct34 oc35 kV35 dc35 pm35 cd35 ct35 oc36 kV36 dc36 pm36 cd36 ct36 oc37 kV37 dc37 pm37 cd37 ct37 oc38 kV38 dc38 pm38 cd38 ct38 oc39 kV39 dc39 pm39 cd39 ct39 oc40 kV40 dc40 pm40 cd40 ct40 oc41 kV41 dc41 pm41 cd41 ct41 oc42 kV42 dc42 pm42 cd42 ct42 oc43 kV43 dc43 pm43 cd43 ct43 oc44 kV44 dc44 pm44 cd44 ct44 oc45 kV45 dc45 pm45 cd45 ct45 oc46 kV46 dc46 pm46 cd46 ct46 : Value} {t0 t1 t2 t3 t4 : Tok}
    {ta_EMPTY_LEAF_1 ta_EMPTY_LEAF_2 ta_EMPTY_LEAF_0 : Addr} {td_EMPTY_LEAF_1 td_EMPTY_LEAF_2 td_EMPTY_LEAF_0 : Option Addr} {tn_EMPTY_LEAF_1 tn_EMPTY_LEAF_2 tn_EMPTY_LEAF_0 : Nat} {ts_EMPTY_LEAF_1 ts_EMPTY_LEAF_2 ts_EMPTY_LEAF_0 : Array (Option Value)} {tt1 : Tok}
    (aC_Shelf : PySem.W.nsIn K mainGlobals "Shelf" = some (some (.ref C_Shelf)))
    (aC_Walk : PySem.W.nsIn K mainGlobals "Walk" = some (some (.ref C_Walk)))
    (a0 : PySem.W.nsIn K mainGlobals "_law_pick" = some (some (.ref f0))) (l0 : K.lookup f0 = some ⟨oc0, od0, .func (PySem.W.fnOf "_law_pick" "_law_pick" (Qz Ya) (Qt Ya) (Qk Ya) .none kV0 dc0 pm0 an0 cd0 ct0), sl0⟩) (c0 : PySem.W.codeIn K cd0 "_law_pick" = true) (k0 : PySem.W.keepIn K (.ref f0) = true)
    (a1 : PySem.W.findIn K (.ref C_Shelf) "writings" = some (some (.ref f1))) (i1 : PySem.W.isFn K (.ref f1) = true) (l1 : K.lookup f1 = some ⟨oc1, od1, .func (PySem.W.fnOf "writings" "Shelf.writings" (Qz Ja) (Qt Ja) (Qk Ja) .none kV1 dc1 pm1 an1 cd1 ct1), sl1⟩) (c1 : PySem.W.codeIn K cd1 "Shelf.writings" = true) (k1 : PySem.W.keepIn K (.ref f1) = true)
    (a2 : PySem.W.findIn K (.ref C_Shelf) "room" = some (some (.ref f2))) (i2 : PySem.W.isFn K (.ref f2) = true) (l2 : K.lookup f2 = some ⟨oc2, od2, .func (PySem.W.fnOf "room" "Shelf.room" (Qz Xc) (Qt Xc) (Qk Xc) .none kV2 dc2 pm2 an2 cd2 ct2), sl2⟩) (c2 : PySem.W.codeIn K cd2 "Shelf.room" = true) (k2 : PySem.W.keepIn K (.ref f2) = true)
    (a3 : PySem.W.nsIn K mainGlobals "_law_kids_sound" = some (some (.ref f3))) (l3 : K.lookup f3 = some ⟨oc3, od3, .func (PySem.W.fnOf "_law_kids_sound" "_law_kids_sound" (Qz Jb) (Qt Jb) (Qk Jb) .none kV3 dc3 pm3 an3 cd3 ct3), sl3⟩) (c3 : PySem.W.codeIn K cd3 "_law_kids_sound" = true) (k3 : PySem.W.keepIn K (.ref f3) = true)
    (a4 : PySem.W.nsIn K mainGlobals "_law_page_sound" = some (some (.ref f4))) (l4 : K.lookup f4 = some ⟨oc4, od4, .func (PySem.W.fnOf "_law_page_sound" "_law_page_sound" (Qz Jc) (Qt Jc) (Qk Jc) .none kV4 dc4 pm4 an4 cd4 ct4), sl4⟩) (c4 : PySem.W.codeIn K cd4 "_law_page_sound" = true) (k4 : PySem.W.keepIn K (.ref f4) = true)
    (a5 : PySem.W.nsIn K mainGlobals "_law_list" = some (some (.ref f5))) (l5 : K.lookup f5 = some ⟨oc5, od5, .func (PySem.W.fnOf "_law_list" "_law_list" (Qz XZ) (Qt XZ) (Qk XZ) .none kV5 dc5 pm5 an5 cd5 ct5), sl5⟩) (c5 : PySem.W.codeIn K cd5 "_law_list" = true) (k5 : PySem.W.keepIn K (.ref f5) = true)
    (a6 : PySem.W.nsIn K mainGlobals "_law_level" = some (some (.ref f6))) (l6 : K.lookup f6 = some ⟨oc6, od6, .func (PySem.W.fnOf "_law_level" "_law_level" (Qz Xx) (Qt Xx) (Qk Xx) .none kV6 dc6 pm6 an6 cd6 ct6), sl6⟩) (c6 : PySem.W.codeIn K cd6 "_law_level" = true) (k6 : PySem.W.keepIn K (.ref f6) = true)
    (a7 : PySem.W.findIn K (.ref C_Shelf) "root" = some (some (.ref f7))) (i7 : PySem.W.isFn K (.ref f7) = true) (l7 : K.lookup f7 = some ⟨oc7, od7, .func (PySem.W.fnOf "root" "Shelf.root" (Qz Xb) (Qt Xb) (Qk Xb) .none kV7 dc7 pm7 an7 cd7 ct7), sl7⟩) (c7 : PySem.W.codeIn K cd7 "Shelf.root" = true) (k7 : PySem.W.keepIn K (.ref f7) = true)
    (a8 : PySem.W.findIn K (.ref C_Shelf) "pages" = some (some (.ref f8))) (i8 : PySem.W.isFn K (.ref f8) = true) (l8 : K.lookup f8 = some ⟨oc8, od8, .func (PySem.W.fnOf "pages" "Shelf.pages" (Qz JS) (Qt JS) (Qk JS) .none kV8 dc8 pm8 an8 cd8 ct8), sl8⟩) (c8 : PySem.W.codeIn K cd8 "Shelf.pages" = true) (k8 : PySem.W.keepIn K (.ref f8) = true)
    (a9 : PySem.W.findIn K (.ref C_Shelf) "check_number" = some (some (.ref f9))) (i9 : PySem.W.isFn K (.ref f9) = true) (l9 : K.lookup f9 = some ⟨oc9, od9, .func (PySem.W.fnOf "check_number" "Shelf.check_number" (Qz Zu) (Qt Zu) (Qk Zu) .none kV9 dc9 pm9 an9 cd9 ct9), sl9⟩) (c9 : PySem.W.codeIn K cd9 "Shelf.check_number" = true) (k9 : PySem.W.keepIn K (.ref f9) = true)
    (a10 : PySem.W.findIn K (.ref C_Shelf) "read" = some (some (.ref f10))) (i10 : PySem.W.isFn K (.ref f10) = true) (l10 : K.lookup f10 = some ⟨oc10, od10, .func (PySem.W.fnOf "read" "Shelf.read" (Qz J9) (Qt J9) (Qk J9) .none kV10 dc10 pm10 an10 cd10 ct10), sl10⟩) (c10 : PySem.W.codeIn K cd10 "Shelf.read" = true) (k10 : PySem.W.keepIn K (.ref f10) = true)
    (a11 : PySem.W.nsIn K mainGlobals "_law_sound" = some (some (.ref f11))) (l11 : K.lookup f11 = some ⟨oc11, od11, .func (PySem.W.fnOf "_law_sound" "_law_sound" (Qz Xw) (Qt Xw) (Qk Xw) .none kV11 dc11 pm11 an11 cd11 ct11), sl11⟩) (c11 : PySem.W.codeIn K cd11 "_law_sound" = true) (k11 : PySem.W.keepIn K (.ref f11) = true)
    (a12 : PySem.W.findIn K (.ref C_Walk) "read_pairs" = some (some (.ref f12))) (i12 : PySem.W.isFn K (.ref f12) = true) (l12 : K.lookup f12 = some ⟨oc12, od12, .func (PySem.W.fnOf "read_pairs" "Walk.read_pairs" (Qz ZX) (Qt ZX) (Qk ZX) .none kV12 dc12 pm12 an12 cd12 ct12), sl12⟩) (c12 : PySem.W.codeIn K cd12 "Walk.read_pairs" = true) (k12 : PySem.W.keepIn K (.ref f12) = true)
    (a13 : PySem.W.findIn K (.ref C_Shelf) "write" = some (some (.ref f13))) (i13 : PySem.W.isFn K (.ref f13) = true) (l13 : K.lookup f13 = some ⟨oc13, od13, .func (PySem.W.fnOf "write" "Shelf.write" (Qz JN) (Qt JN) (Qk JN) .none kV13 dc13 pm13 an13 cd13 ct13), sl13⟩) (c13 : PySem.W.codeIn K cd13 "Shelf.write" = true) (k13 : PySem.W.keepIn K (.ref f13) = true)
    (a14 : PySem.W.nsIn K mainGlobals "refilled" = some (some (.ref f14))) (l14 : K.lookup f14 = some ⟨oc14, od14, .func (PySem.W.fnOf "refilled" "refilled" (Qz X0) (Qt X0) (Qk X0) .none kV14 dc14 pm14 an14 cd14 ct14), sl14⟩) (c14 : PySem.W.codeIn K cd14 "refilled" = true) (k14 : PySem.W.keepIn K (.ref f14) = true)
    (a15 : PySem.W.nsIn K mainGlobals "count_not_above" = some (some (.ref f15))) (l15 : K.lookup f15 = some ⟨oc15, od15, .func (PySem.W.fnOf "count_not_above" "count_not_above" (Qz ZW) (Qt ZW) (Qk ZW) .none kV15 dc15 pm15 an15 cd15 ct15), sl15⟩) (c15 : PySem.W.codeIn K cd15 "count_not_above" = true) (k15 : PySem.W.keepIn K (.ref f15) = true)
    (a16 : PySem.W.nsIn K mainGlobals "count_below" = some (some (.ref f16))) (l16 : K.lookup f16 = some ⟨oc16, od16, .func (PySem.W.fnOf "count_below" "count_below" (Qz JO) (Qt JO) (Qk JO) .none kV16 dc16 pm16 an16 cd16 ct16), sl16⟩) (c16 : PySem.W.codeIn K cd16 "count_below" = true) (k16 : PySem.W.keepIn K (.ref f16) = true)
    (a17 : PySem.W.nsIn K mainGlobals "with_run" = some (some (.ref f17))) (l17 : K.lookup f17 = some ⟨oc17, od17, .func (PySem.W.fnOf "with_run" "with_run" (Qz X3) (Qt X3) (Qk X3) .none kV17 dc17 pm17 an17 cd17 ct17), sl17⟩) (c17 : PySem.W.codeIn K cd17 "with_run" = true) (k17 : PySem.W.keepIn K (.ref f17) = true)
    (a18 : PySem.W.nsIn K mainGlobals "without" = some (some (.ref f18))) (l18 : K.lookup f18 = some ⟨oc18, od18, .func (PySem.W.fnOf "without" "without" (Qz Yy) (Qt Yy) (Qk Yy) .none kV18 dc18 pm18 an18 cd18 ct18), sl18⟩) (c18 : PySem.W.codeIn K cd18 "without" = true) (k18 : PySem.W.keepIn K (.ref f18) = true)
    (a19 : PySem.W.nsIn K mainGlobals "worth_of" = some (some (.ref f19))) (l19 : K.lookup f19 = some ⟨oc19, od19, .func (PySem.W.fnOf "worth_of" "worth_of" (Qz XX) (Qt XX) (Qk XX) .none kV19 dc19 pm19 an19 cd19 ct19), sl19⟩) (c19 : PySem.W.codeIn K cd19 "worth_of" = true) (k19 : PySem.W.keepIn K (.ref f19) = true)
    (a20 : PySem.W.findIn K (.ref C_Walk) "cut_key" = some (some (.ref f20))) (i20 : PySem.W.isFn K (.ref f20) = true) (l20 : K.lookup f20 = some ⟨oc20, od20, .func (PySem.W.fnOf "cut_key" "Walk.cut_key" (Qz JB) (Qt JB) (Qk JB) .none kV20 dc20 pm20 an20 cd20 ct20), sl20⟩) (c20 : PySem.W.codeIn K cd20 "Walk.cut_key" = true) (k20 : PySem.W.keepIn K (.ref f20) = true)
    (a21 : PySem.W.findIn K (.ref C_Shelf) "lay" = some (some (.ref f21))) (i21 : PySem.W.isFn K (.ref f21) = true) (l21 : K.lookup f21 = some ⟨oc21, od21, .func (PySem.W.fnOf "lay" "Shelf.lay" (Qz XA) (Qt XA) (Qk XA) .none kV21 dc21 pm21 an21 cd21 ct21), sl21⟩) (c21 : PySem.W.codeIn K cd21 "Shelf.lay" = true) (k21 : PySem.W.keepIn K (.ref f21) = true)
    (a22 : PySem.W.nsIn K mainGlobals "parted" = some (some (.ref f22))) (l22 : K.lookup f22 = some ⟨oc22, od22, .func (PySem.W.fnOf "parted" "parted" (Qz qK) (Qt qK) (Qk qK) .none kV22 dc22 pm22 an22 cd22 ct22), sl22⟩) (c22 : PySem.W.codeIn K cd22 "parted" = true) (k22 : PySem.W.keepIn K (.ref f22) = true)
    (a23 : PySem.W.nsIn K mainGlobals "is_full" = some (some (.ref f23))) (l23 : K.lookup f23 = some ⟨oc23, od23, .func (PySem.W.fnOf "is_full" "is_full" (Qz YC) (Qt YC) (Qk YC) .none kV23 dc23 pm23 an23 cd23 ct23), sl23⟩) (c23 : PySem.W.codeIn K cd23 "is_full" = true) (k23 : PySem.W.keepIn K (.ref f23) = true)
    (a24 : PySem.W.findIn K (.ref C_Walk) "settle" = some (some (.ref f24))) (i24 : PySem.W.isFn K (.ref f24) = true) (l24 : K.lookup f24 = some ⟨oc24, od24, .func (PySem.W.fnOf "settle" "Walk.settle" (Qz JR) (Qt JR) (Qk JR) .none kV24 dc24 pm24 an24 cd24 ct24), sl24⟩) (c24 : PySem.W.codeIn K cd24 "Walk.settle" = true) (k24 : PySem.W.keepIn K (.ref f24) = true)
    (a25 : PySem.W.nsIn K mainGlobals "with_pair" = some (some (.ref f25))) (l25 : K.lookup f25 = some ⟨oc25, od25, .func (PySem.W.fnOf "with_pair" "with_pair" (Qz XB) (Qt XB) (Qk XB) .none kV25 dc25 pm25 an25 cd25 ct25), sl25⟩) (c25 : PySem.W.codeIn K cd25 "with_pair" = true) (k25 : PySem.W.keepIn K (.ref f25) = true)
    (a26 : PySem.W.findIn K (.ref C_Walk) "put_pair" = some (some (.ref f26))) (i26 : PySem.W.isFn K (.ref f26) = true) (l26 : K.lookup f26 = some ⟨oc26, od26, .func (PySem.W.fnOf "put_pair" "Walk.put_pair" (Qz Jk) (Qt Jk) (Qk Jk) .none kV26 dc26 pm26 an26 cd26 ct26), sl26⟩) (c26 : PySem.W.codeIn K cd26 "Walk.put_pair" = true) (k26 : PySem.W.keepIn K (.ref f26) = true)
    (a27 : PySem.W.findIn K (.ref C_Walk) "find_worth" = some (some (.ref f27))) (i27 : PySem.W.isFn K (.ref f27) = true) (l27 : K.lookup f27 = some ⟨oc27, od27, .func (PySem.W.fnOf "find_worth" "Walk.find_worth" (Qz ZV) (Qt ZV) (Qk ZV) .none kV27 dc27 pm27 an27 cd27 ct27), sl27⟩) (c27 : PySem.W.codeIn K cd27 "Walk.find_worth" = true) (k27 : PySem.W.keepIn K (.ref f27) = true)
    (a28 : PySem.W.findIn K (.ref C_Walk) "do_deed" = some (some (.ref f28))) (i28 : PySem.W.isFn K (.ref f28) = true) (l28 : K.lookup f28 = some ⟨oc28, od28, .func (PySem.W.fnOf "do_deed" "Walk.do_deed" (Qz JC) (Qt JC) (Qk JC) .none kV28 dc28 pm28 an28 cd28 ct28), sl28⟩) (c28 : PySem.W.codeIn K cd28 "Walk.do_deed" = true) (k28 : PySem.W.keepIn K (.ref f28) = true)
    (a29 : PySem.W.nsIn K mainGlobals "with_kid" = some (some (.ref f29))) (l29 : K.lookup f29 = some ⟨oc29, od29, .func (PySem.W.fnOf "with_kid" "with_kid" (Qz XV) (Qt XV) (Qk XV) .none kV29 dc29 pm29 an29 cd29 ct29), sl29⟩) (c29 : PySem.W.codeIn K cd29 "with_kid" = true) (k29 : PySem.W.keepIn K (.ref f29) = true)
    (a30 : PySem.W.findIn K (.ref C_Walk) "tell_fork" = some (some (.ref f30))) (i30 : PySem.W.isFn K (.ref f30) = true) (l30 : K.lookup f30 = some ⟨oc30, od30, .func (PySem.W.fnOf "tell_fork" "Walk.tell_fork" (Qz Z9) (Qt Z9) (Qk Z9) .none kV30 dc30 pm30 an30 cd30 ct30), sl30⟩) (c30 : PySem.W.codeIn K cd30 "Walk.tell_fork" = true) (k30 : PySem.W.keepIn K (.ref f30) = true)
    (a31 : PySem.W.findIn K (.ref C_Walk) "go_on" = some (some (.ref f31))) (i31 : PySem.W.isFn K (.ref f31) = true) (l31 : K.lookup f31 = some ⟨oc31, od31, .func (PySem.W.fnOf "go_on" "Walk.go_on" (Qz Xa) (Qt Xa) (Qk Xa) .none kV31 dc31 pm31 an31 cd31 ct31), sl31⟩) (c31 : PySem.W.codeIn K cd31 "Walk.go_on" = true) (k31 : PySem.W.keepIn K (.ref f31) = true)
    (a32 : PySem.W.nsIn K mainGlobals "kid_for" = some (some (.ref f32))) (l32 : K.lookup f32 = some ⟨oc32, od32, .func (PySem.W.fnOf "kid_for" "kid_for" (Qz YB) (Qt YB) (Qk YB) .none kV32 dc32 pm32 an32 cd32 ct32), sl32⟩) (c32 : PySem.W.codeIn K cd32 "kid_for" = true) (k32 : PySem.W.keepIn K (.ref f32) = true)
    (a33 : PySem.W.nsIn K mainGlobals "beyond" = some (some (.ref f33))) (l33 : K.lookup f33 = some ⟨oc33, od33, .func (PySem.W.fnOf "beyond" "beyond" (Qz qM) (Qt qM) (Qk qM) .none kV33 dc33 pm33 an33 cd33 ct33), sl33⟩) (c33 : PySem.W.codeIn K cd33 "beyond" = true) (k33 : PySem.W.keepIn K (.ref f33) = true)
    (a34 : PySem.W.findIn K (.ref C_Shelf) "raise_root" = some (some (.ref f34))) (i34 : PySem.W.isFn K (.ref f34) = true) (l34 : K.lookup f34 = some ⟨oc34, od34, .func (PySem.W.fnOf "raise_root" "Shelf.raise_root" (Qz ZK) (Qt ZK) (Qk ZK) .none kV34 dc34 pm34 an34 cd34 ct34), sl34⟩) (c34 : PySem.W.codeIn K cd34 "Shelf.raise_root" = true) (k34 : PySem.W.keepIn K (.ref f34) = true)
    (a35 : PySem.W.findIn K (.ref C_Walk) "raise_root_over" = some (some (.ref f35))) (i35 : PySem.W.isFn K (.ref f35) = true) (l35 : K.lookup f35 = some ⟨oc35, od35, .func (PySem.W.fnOf "raise_root_over" "Walk.raise_root_over" (Qz Ze) (Qt Ze) (Qk Ze) .none kV35 dc35 pm35 an35 cd35 ct35), sl35⟩) (c35 : PySem.W.codeIn K cd35 "Walk.raise_root_over" = true) (k35 : PySem.W.keepIn K (.ref f35) = true)
    (a36 : PySem.W.findIn K (.ref C_Walk) "step" = some (some (.ref f36))) (i36 : PySem.W.isFn K (.ref f36) = true) (l36 : K.lookup f36 = some ⟨oc36, od36, .func (PySem.W.fnOf "step" "Walk.step" (Qz Xv) (Qt Xv) (Qk Xv) .none kV36 dc36 pm36 an36 cd36 ct36), sl36⟩) (c36 : PySem.W.codeIn K cd36 "Walk.step" = true) (k36 : PySem.W.keepIn K (.ref f36) = true)
    (a37 : PySem.W.findIn K (.ref C_Walk) "over" = some (some (.ref f37))) (i37 : PySem.W.isFn K (.ref f37) = true) (l37 : K.lookup f37 = some ⟨oc37, od37, .func (PySem.W.fnOf "over" "Walk.over" (Qz Xt) (Qt Xt) (Qk Xt) .none kV37 dc37 pm37 an37 cd37 ct37), sl37⟩) (c37 : PySem.W.codeIn K cd37 "Walk.over" = true) (k37 : PySem.W.keepIn K (.ref f37) = true)
    (a38 : PySem.W.findIn K (.ref C_Walk) "__init__" = some (some (.ref f38))) (i38 : PySem.W.isFn K (.ref f38) = true) (l38 : K.lookup f38 = some ⟨oc38, od38, .func (PySem.W.fnOf "__init__" "Walk.__init__" (Qz Jj) (Qt Jj) (Qk Jj) .none kV38 dc38 pm38 an38 cd38 ct38), sl38⟩) (c38 : PySem.W.codeIn K cd38 "Walk.__init__" = true) (k38 : PySem.W.keepIn K (.ref f38) = true)
    (a39 : PySem.W.nsIn K mainGlobals "_law_worth" = some (some (.ref f39))) (l39 : K.lookup f39 = some ⟨oc39, od39, .func (PySem.W.fnOf "_law_worth" "_law_worth" (Qz Xz) (Qt Xz) (Qk Xz) .none kV39 dc39 pm39 an39 cd39 ct39), sl39⟩) (c39 : PySem.W.codeIn K cd39 "_law_worth" = true) (k39 : PySem.W.keepIn K (.ref f39) = true)
    (a40 : PySem.W.nsIn K mainGlobals "_law_key" = some (some (.ref f40))) (l40 : K.lookup f40 = some ⟨oc40, od40, .func (PySem.W.fnOf "_law_key" "_law_key" (Qz YA) (Qt YA) (Qk YA) .none kV40 dc40 pm40 an40 cd40 ct40), sl40⟩) (c40 : PySem.W.codeIn K cd40 "_law_key" = true) (k40 : PySem.W.keepIn K (.ref f40) = true)
    (a41 : PySem.W.nsIn K mainGlobals "_law_deed" = some (some (.ref f41))) (l41 : K.lookup f41 = some ⟨oc41, od41, .func (PySem.W.fnOf "_law_deed" "_law_deed" (Qz X2) (Qt X2) (Qk X2) .none kV41 dc41 pm41 an41 cd41 ct41), sl41⟩) (c41 : PySem.W.codeIn K cd41 "_law_deed" = true) (k41 : PySem.W.keepIn K (.ref f41) = true)
    (a42 : PySem.W.nsIn K mainGlobals "_law_done" = some (some (.ref f42))) (l42 : K.lookup f42 = some ⟨oc42, od42, .func (PySem.W.fnOf "_law_done" "_law_done" (Qz XY) (Qt XY) (Qk XY) .none kV42 dc42 pm42 an42 cd42 ct42), sl42⟩) (c42 : PySem.W.codeIn K cd42 "_law_done" = true) (k42 : PySem.W.keepIn K (.ref f42) = true)
    (a43 : PySem.W.findIn K (.ref C_Shelf) "__init__" = some (some (.ref f43))) (i43 : PySem.W.isFn K (.ref f43) = true) (l43 : K.lookup f43 = some ⟨oc43, od43, .func (PySem.W.fnOf "__init__" "Shelf.__init__" (Qz Jd) (Qt Jd) (Qk Jd) .none kV43 dc43 pm43 an43 cd43 ct43), sl43⟩) (c43 : PySem.W.codeIn K cd43 "Shelf.__init__" = true) (k43 : PySem.W.keepIn K (.ref f43) = true)
    (a44 : PySem.W.nsIn K mainGlobals "_law_begun" = some (some (.ref f44))) (l44 : K.lookup f44 = some ⟨oc44, od44, .func (PySem.W.fnOf "_law_begun" "_law_begun" (Qz XC) (Qt XC) (Qk XC) .none kV44 dc44 pm44 an44 cd44 ct44), sl44⟩) (c44 : PySem.W.codeIn K cd44 "_law_begun" = true) (k44 : PySem.W.keepIn K (.ref f44) = true)
    (a45 : PySem.W.nsIn K mainGlobals "_law_cell_at" = some (some (.ref f45))) (l45 : K.lookup f45 = some ⟨oc45, od45, .func (PySem.W.fnOf "_law_cell_at" "_law_cell_at" (Qz JP) (Qt JP) (Qk JP) .none kV45 dc45 pm45 an45 cd45 ct45), sl45⟩) (c45 : PySem.W.codeIn K cd45 "_law_cell_at" = true) (k45 : PySem.W.keepIn K (.ref f45) = true)
    (a46 : PySem.W.nsIn K mainGlobals "law" = some (some (.ref f46))) (l46 : K.lookup f46 = some ⟨oc46, od46, .func (PySem.W.fnOf "law" "law" (Qz jN) (Qt jN) (Qk jN) .none kV46 dc46 pm46 an46 cd46 ct46), sl46⟩) (c46 : PySem.W.codeIn K cd46 "law" = true) (k46 : PySem.W.keepIn K (.ref f46) = true)
    (z_len : PySem.W.nsIn K mainGlobals "len" = some none)
    (z_range : PySem.W.nsIn K mainGlobals "range" = some none)
    (z_list : PySem.W.nsIn K mainGlobals "list" = some none)
    (z_int : PySem.W.nsIn K mainGlobals "int" = some none)
    (z_tuple : PySem.W.nsIn K mainGlobals "tuple" = some none)
    (z_zip : PySem.W.nsIn K mainGlobals "zip" = some none)
    (z_min : PySem.W.nsIn K mainGlobals "min" = some none)
    (g_SIDE : PySem.W.nsIn K mainGlobals "SIDE" = some (some (.int 4 t0)))
    (g_HIGH : PySem.W.nsIn K mainGlobals "HIGH" = some (some (.int 3 t1)))
    (g_KEYS : PySem.W.nsIn K mainGlobals "KEYS" = some (some (.int 1 t2)))
    (g_PARTS : PySem.W.nsIn K mainGlobals "PARTS" = some (some (.int 2 t3)))
    (g_LEVEL : PySem.W.nsIn K mainGlobals "LEVEL" = some (some (.int 0 t4)))
    (g_EMPTY_LEAF : PySem.W.nsIn K mainGlobals "EMPTY_LEAF" = some (some (.ref ta_EMPTY_LEAF_0)))
    (tp_EMPTY_LEAF_0 : K.lookup ta_EMPTY_LEAF_0 = some ⟨.type "tuple", td_EMPTY_LEAF_0, .seq #[.int 0 tt1, .ref ta_EMPTY_LEAF_1, .ref ta_EMPTY_LEAF_2, .none, .none] tn_EMPTY_LEAF_0, ts_EMPTY_LEAF_0⟩)
    (tp_EMPTY_LEAF_2 : K.lookup ta_EMPTY_LEAF_2 = some ⟨.type "tuple", td_EMPTY_LEAF_2, .seq #[] tn_EMPTY_LEAF_2, ts_EMPTY_LEAF_2⟩)
    (tp_EMPTY_LEAF_1 : K.lookup ta_EMPTY_LEAF_1 = some ⟨.type "tuple", td_EMPTY_LEAF_1, .seq #[] tn_EMPTY_LEAF_1, ts_EMPTY_LEAF_1⟩)
    (pg_Shelf : PySem.W.plainGet K C_Shelf Str.empty = true) (hd_Shelf : PySem.W.hasDictIn K C_Shelf = true) (po_Shelf : PySem.W.plainOver K C_Shelf = true) (sa_Shelf : PySem.W.findIn K (.ref C_Shelf) "__setattr__" = some (some (.builtin "object.__setattr__"))) (mk_Shelf : PySem.W.makesIn K C_Shelf = true) (kc_Shelf : PySem.W.keepIn K (.ref C_Shelf) = true)
    (pg_Walk : PySem.W.plainGet K C_Walk Str.empty = true) (hd_Walk : PySem.W.hasDictIn K C_Walk = true) (po_Walk : PySem.W.plainOver K C_Walk = true) (sa_Walk : PySem.W.findIn K (.ref C_Walk) "__setattr__" = some (some (.builtin "object.__setattr__"))) (mk_Walk : PySem.W.makesIn K C_Walk = true) (kc_Walk : PySem.W.keepIn K (.ref C_Walk) = true)
    (n_Shelf_write_count : PySem.W.findIn K (.ref C_Shelf) "write_count" = some none)
    (n_Shelf_page_room : PySem.W.findIn K (.ref C_Shelf) "page_room" = some none)
    (n_Shelf_top : PySem.W.findIn K (.ref C_Shelf) "top" = some none)
    (n_Shelf_kept : PySem.W.findIn K (.ref C_Shelf) "kept" = some none)
    (n_Shelf_read_count : PySem.W.findIn K (.ref C_Shelf) "read_count" = some none)
    (n_Walk_aim : PySem.W.findIn K (.ref C_Walk) "aim" = some none)
    (n_Walk_place : PySem.W.findIn K (.ref C_Walk) "place" = some none)
    (n_Walk_ended : PySem.W.findIn K (.ref C_Walk) "ended" = some none)
    (n_Walk_pairs : PySem.W.findIn K (.ref C_Walk) "pairs" = some none)
    (n_Walk_deed : PySem.W.findIn K (.ref C_Walk) "deed" = some none)
    (n_Walk_worth : PySem.W.findIn K (.ref C_Walk) "worth" = some none)
    (n_Walk_shelf : PySem.W.findIn K (.ref C_Walk) "shelf" = some none)
    (n_Walk_new_page : PySem.W.findIn K (.ref C_Walk) "new_page" = some none)
    (n_Walk_forks : PySem.W.findIn K (.ref C_Walk) "forks" = some none)
    (n_Walk_goal : PySem.W.findIn K (.ref C_Walk) "goal" = some none)
    : ∃ fd : FuncData, (∀ (s : Shared) (v : Value), BindsTo s fd ⟨[v], []⟩ [("script", v)]) /\ ∀ base : Heap, K.In base -> base.Ns mainGlobals mg -> zF P w K mg base CX0 9 fa fd ["script"] (spD K 1 Gp) := by
  have e := hfa.symm.trans (PySem.W.mg_of X G a46)
  cases e
  have U0 := QO (st := Ya) l0 c0 k0
  have U1 := QO (st := Ja) l1 c1 k1
  have U2 := QO (st := Xc) l2 c2 k2
  have U3 := QO (st := Jb) l3 c3 k3
  have U4 := QO (st := Jc) l4 c4 k4
  have U5 := QO (st := XZ) l5 c5 k5
  have U6 := QO (st := Xx) l6 c6 k6
  have U7 := QO (st := Xb) l7 c7 k7
  have U8 := QO (st := JS) l8 c8 k8
  have U9 := QO (st := Zu) l9 c9 k9
  have U10 := QO (st := J9) l10 c10 k10
  have U11 := QO (st := Xw) l11 c11 k11
  have U12 := QO (st := ZX) l12 c12 k12
  have U13 := QO (st := JN) l13 c13 k13
  have U14 := QO (st := X0) l14 c14 k14
  have U15 := QO (st := ZW) l15 c15 k15
  have U16 := QO (st := JO) l16 c16 k16
  have U17 := QO (st := X3) l17 c17 k17
  have U18 := QO (st := Yy) l18 c18 k18
  have U19 := QO (st := XX) l19 c19 k19
  have U20 := QO (st := JB) l20 c20 k20
  have U21 := QO (st := XA) l21 c21 k21
  have U22 := QO (st := qK) l22 c22 k22
  have U23 := QO (st := YC) l23 c23 k23
  have U24 := QO (st := JR) l24 c24 k24
  have U25 := QO (st := XB) l25 c25 k25
  have U26 := QO (st := Jk) l26 c26 k26
  have U27 := QO (st := ZV) l27 c27 k27
  have U28 := QO (st := JC) l28 c28 k28
  have U29 := QO (st := XV) l29 c29 k29
  have U30 := QO (st := Z9) l30 c30 k30
  have U31 := QO (st := Xa) l31 c31 k31
  have U32 := QO (st := YB) l32 c32 k32
  have U33 := QO (st := qM) l33 c33 k33
  have U34 := QO (st := ZK) l34 c34 k34
  have U35 := QO (st := Ze) l35 c35 k35
  have U36 := QO (st := Xv) l36 c36 k36
  have U37 := QO (st := Xt) l37 c37 k37
  have U38 := QO (st := Jj) l38 c38 k38
  have U39 := QO (st := Xz) l39 c39 k39
  have U40 := QO (st := YA) l40 c40 k40
  have U41 := QO (st := X2) l41 c41 k41
  have U42 := QO (st := XY) l42 c42 k42
  have U43 := QO (st := Jd) l43 c43 k43
  have U44 := QO (st := XC) l44 c44 k44
  have U45 := QO (st := JP) l45 c45 k45
  have U46 := QO (st := jN) l46 c46 k46
  have y_len := PySem.W.mg_none_of X G z_len
  have y_range := PySem.W.mg_none_of X G z_range
  have y_list := PySem.W.mg_none_of X G z_list
  have y_int := PySem.W.mg_none_of X G z_int
  have y_tuple := PySem.W.mg_none_of X G z_tuple
  have y_zip := PySem.W.mg_none_of X G z_zip
  have y_min := PySem.W.mg_none_of X G z_min
  have cl_Shelf : Cls K C_Shelf := ⟨pg_Shelf, hd_Shelf, po_Shelf, sa_Shelf⟩
  have cl_Walk : Cls K C_Walk := ⟨pg_Walk, hd_Walk, po_Walk, sa_Walk⟩
  have x_Shelf_write_count : QZ K "Shelf" "write_count" := ⟨C_Shelf, aC_Shelf, cl_Shelf, n_Shelf_write_count⟩
  have x_Shelf_page_room : QZ K "Shelf" "page_room" := ⟨C_Shelf, aC_Shelf, cl_Shelf, n_Shelf_page_room⟩
  have x_Shelf_top : QZ K "Shelf" "top" := ⟨C_Shelf, aC_Shelf, cl_Shelf, n_Shelf_top⟩
  have x_Shelf_kept : QZ K "Shelf" "kept" := ⟨C_Shelf, aC_Shelf, cl_Shelf, n_Shelf_kept⟩
  have x_Shelf_read_count : QZ K "Shelf" "read_count" := ⟨C_Shelf, aC_Shelf, cl_Shelf, n_Shelf_read_count⟩
  have x_Walk_aim : QZ K "Walk" "aim" := ⟨C_Walk, aC_Walk, cl_Walk, n_Walk_aim⟩
  have x_Walk_place : QZ K "Walk" "place" := ⟨C_Walk, aC_Walk, cl_Walk, n_Walk_place⟩
  have x_Walk_ended : QZ K "Walk" "ended" := ⟨C_Walk, aC_Walk, cl_Walk, n_Walk_ended⟩
  have x_Walk_pairs : QZ K "Walk" "pairs" := ⟨C_Walk, aC_Walk, cl_Walk, n_Walk_pairs⟩
  have x_Walk_deed : QZ K "Walk" "deed" := ⟨C_Walk, aC_Walk, cl_Walk, n_Walk_deed⟩
  have x_Walk_worth : QZ K "Walk" "worth" := ⟨C_Walk, aC_Walk, cl_Walk, n_Walk_worth⟩
  have x_Walk_shelf : QZ K "Walk" "shelf" := ⟨C_Walk, aC_Walk, cl_Walk, n_Walk_shelf⟩
  have x_Walk_new_page : QZ K "Walk" "new_page" := ⟨C_Walk, aC_Walk, cl_Walk, n_Walk_new_page⟩
  have x_Walk_forks : QZ K "Walk" "forks" := ⟨C_Walk, aC_Walk, cl_Walk, n_Walk_forks⟩
  have x_Walk_goal : QZ K "Walk" "goal" := ⟨C_Walk, aC_Walk, cl_Walk, n_Walk_goal⟩
  have w_SIDE := PySem.W.mg_of X G g_SIDE
  have w_HIGH := PySem.W.mg_of X G g_HIGH
  have w_KEYS := PySem.W.mg_of X G g_KEYS
  have w_PARTS := PySem.W.mg_of X G g_PARTS
  have w_LEVEL := PySem.W.mg_of X G g_LEVEL
  have w_EMPTY_LEAF := PySem.W.mg_of X G g_EMPTY_LEAF
  have qq_EMPTY_LEAF : KRep K (.tup [.int 0, .tup [], .tup [], .non, .non]) (.ref ta_EMPTY_LEAF_0) := (vj (xs := [.int 0, .ref ta_EMPTY_LEAF_1, .ref ta_EMPTY_LEAF_2, .non, .non]) tp_EMPTY_LEAF_0 (Nat.le_of_ble_eq_true rfl) (.cons ⟨_, rfl⟩ (.cons rfl (.cons rfl (.cons rfl (.cons rfl .nil))))) (zK QdQ (zK (vj (xs := []) tp_EMPTY_LEAF_1 (Nat.le_of_ble_eq_true rfl) .nil Kx) (zK (vj (xs := []) tp_EMPTY_LEAF_2 (Nat.le_of_ble_eq_true rfl) .nil Kx) (zK kc (zK kc Kx))))))
  refine ⟨PySem.W.fnOf "law" "law" (Qz jN) (Qt jN) (Qk jN) .none kV46 dc46 pm46 an46 cd46 ct46, fun s v => .of_eq rfl, fun base _ _ => ?_⟩
  have v0 := Kg (P := P) (w := w) (mg := mg) (base := base) U0 (PySem.W.mg_of X G a0)
  have v1 := js (P := P) (w := w) (mg := mg) (base := base) U1 aC_Shelf cl_Shelf ⟨a1, i1, k1⟩ x_Shelf_write_count
  have v2 := yO (P := P) (w := w) (mg := mg) (base := base) U2 aC_Shelf cl_Shelf ⟨a2, i2, k2⟩ x_Shelf_page_room
  have v3 := jt (P := P) (w := w) (mg := mg) (base := base) U3 (PySem.W.mg_of X G a3) y_len y_range y_list
  have v4 := ju (P := P) (w := w) (mg := mg) (base := base) U4 (PySem.W.mg_of X G a4) y_len y_range y_int y_list
  have v5 := Kv (P := P) (w := w) (mg := mg) (base := base) U5 (PySem.W.mg_of X G a5) y_len
  have v6 := V5 (P := P) (w := w) (mg := mg) (base := base) U6 (PySem.W.mg_of X G a6) v3 v4 v5
  have v7 := Vk (P := P) (w := w) (mg := mg) (base := base) U7 aC_Shelf cl_Shelf ⟨a7, i7, k7⟩ x_Shelf_top
  have v8 := yv (P := P) (w := w) (mg := mg) (base := base) U8 aC_Shelf cl_Shelf ⟨a8, i8, k8⟩ y_len x_Shelf_kept
  have v9 := qU (P := P) (w := w) (mg := mg) (base := base) U9 aC_Shelf cl_Shelf ⟨a9, i9, k9⟩ y_len x_Shelf_kept
  have v10 := Vh (P := P) (w := w) (mg := mg) (base := base) U10 aC_Shelf cl_Shelf ⟨a10, i10, k10⟩ v9 x_Shelf_kept x_Shelf_read_count
  have v11 := VQ (P := P) (w := w) (mg := mg) (base := base) U11 (PySem.W.mg_of X G a11) v2 v6 v7 v8 v10 y_len y_range
  have v12 := zY (P := P) (w := w) (mg := mg) (base := base) U12 aC_Walk cl_Walk ⟨a12, i12, k12⟩ y_tuple y_zip w_SIDE w_HIGH w_KEYS w_PARTS x_Walk_aim x_Walk_place x_Walk_ended x_Walk_pairs x_Walk_deed
  have v13 := yu (P := P) (w := w) (mg := mg) (base := base) U13 aC_Shelf cl_Shelf ⟨a13, i13, k13⟩ v9 x_Shelf_kept x_Shelf_write_count
  have v14 := UE (P := P) (w := w) (mg := mg) (base := base) U14 (PySem.W.mg_of X G a14) w_SIDE w_HIGH w_LEVEL
  have v15 := zX (P := P) (w := w) (mg := mg) (base := base) U15 (PySem.W.mg_of X G a15) y_len
  have v16 := yz (P := P) (w := w) (mg := mg) (base := base) U16 (PySem.W.mg_of X G a16) y_len
  have v17 := UK (P := P) (w := w) (mg := mg) (base := base) U17 (PySem.W.mg_of X G a17) v14 v15 v16 w_PARTS w_KEYS
  have v18 := GK (P := P) (w := w) (mg := mg) (base := base) U18 (PySem.W.mg_of X G a18) v17
  have v19 := Ko (P := P) (w := w) (mg := mg) (base := base) U19 (PySem.W.mg_of X G a19) v15 v16 w_PARTS w_KEYS
  have v20 := xy (P := P) (w := w) (mg := mg) (base := base) U20 aC_Walk cl_Walk ⟨a20, i20, k20⟩ v13 v18 v19 x_Walk_worth x_Walk_ended x_Walk_shelf x_Walk_aim
  have v21 := V9 (P := P) (w := w) (mg := mg) (base := base) U21 aC_Shelf cl_Shelf ⟨a21, i21, k21⟩ y_len x_Shelf_kept x_Shelf_write_count
  have v22 := GZ (P := P) (w := w) (mg := mg) (base := base) U22 (PySem.W.mg_of X G a22) y_len w_SIDE w_HIGH w_PARTS w_KEYS w_LEVEL
  have v23 := GB (P := P) (w := w) (mg := mg) (base := base) U23 (PySem.W.mg_of X G a23) y_len w_KEYS
  have v24 := yt (P := P) (w := w) (mg := mg) (base := base) U24 aC_Walk cl_Walk ⟨a24, i24, k24⟩ v13 v21 v8 v22 v2 v23 w_LEVEL x_Walk_new_page x_Walk_place x_Walk_forks x_Walk_goal x_Walk_aim x_Walk_shelf x_Walk_ended
  have v25 := VZ (P := P) (w := w) (mg := mg) (base := base) U25 (PySem.W.mg_of X G a25) v17
  have v26 := xl (P := P) (w := w) (mg := mg) (base := base) U26 aC_Walk cl_Walk ⟨a26, i26, k26⟩ v24 v25 v19 x_Walk_worth x_Walk_deed x_Walk_aim
  have v27 := z9 (P := P) (w := w) (mg := mg) (base := base) U27 aC_Walk cl_Walk ⟨a27, i27, k27⟩ v19 x_Walk_worth x_Walk_ended x_Walk_aim
  have v28 := xO (P := P) (w := w) (mg := mg) (base := base) U28 aC_Walk cl_Walk ⟨a28, i28, k28⟩ v12 v20 v26 v27 x_Walk_deed
  have v29 := Kt (P := P) (w := w) (mg := mg) (base := base) U29 (PySem.W.mg_of X G a29) v14 v15 w_PARTS w_KEYS
  have v30 := jq (P := P) (w := w) (mg := mg) (base := base) U30 aC_Walk cl_Walk ⟨a30, i30, k30⟩ v24 v29 x_Walk_new_page x_Walk_aim
  have v31 := VE (P := P) (w := w) (mg := mg) (base := base) U31 aC_Walk cl_Walk ⟨a31, i31, k31⟩ x_Walk_place
  have v32 := Gu (P := P) (w := w) (mg := mg) (base := base) U32 (PySem.W.mg_of X G a32) v15 w_PARTS w_KEYS
  have v33 := vm (P := P) (w := w) (mg := mg) (base := base) U33 (PySem.W.mg_of X G a33) w_HIGH
  have v34 := zq (P := P) (w := w) (mg := mg) (base := base) U34 aC_Shelf cl_Shelf ⟨a34, i34, k34⟩ v21 v9 w_LEVEL x_Shelf_top x_Shelf_kept
  have v35 := qk (P := P) (w := w) (mg := mg) (base := base) U35 aC_Walk cl_Walk ⟨a35, i35, k35⟩ v34 x_Walk_shelf x_Walk_new_page x_Walk_aim x_Walk_ended
  have v36 := V8 (P := P) (w := w) (mg := mg) (base := base) U36 aC_Walk cl_Walk ⟨a36, i36, k36⟩ v28 v30 v31 v32 v33 v35 v10 v7 w_LEVEL w_SIDE x_Walk_goal x_Walk_aim x_Walk_forks x_Walk_place x_Walk_shelf x_Walk_ended
  have v37 := V2 (P := P) (w := w) (mg := mg) (base := base) U37 aC_Walk cl_Walk ⟨a37, i37, k37⟩ x_Walk_ended
  have v38 := jL (P := P) (w := w) (mg := mg) (base := base) U38 aC_Walk (PySem.W.mg_of X G aC_Walk) ⟨mk_Walk, a38, i38, kc_Walk⟩ x_Walk_ended x_Walk_pairs x_Walk_worth x_Walk_new_page x_Walk_forks x_Walk_place x_Walk_goal x_Walk_aim x_Walk_deed x_Walk_shelf
  have v39 := VU (P := P) (w := w) (mg := mg) (base := base) U39 (PySem.W.mg_of X G a39) v0
  have v40 := GP (P := P) (w := w) (mg := mg) (base := base) U40 (PySem.W.mg_of X G a40) v0
  have v41 := Kb (P := P) (w := w) (mg := mg) (base := base) U41 (PySem.W.mg_of X G a41) v0 v39 v40 y_min
  have v42 := KB (P := P) (w := w) (mg := mg) (base := base) U42 (PySem.W.mg_of X G a42) v36 v37 v38 y_range
  have v43 := jx (P := P) (w := w) (mg := mg) (base := base) U43 aC_Shelf (PySem.W.mg_of X G aC_Shelf) ⟨mk_Shelf, a43, i43, kc_Shelf⟩ w_EMPTY_LEAF qq_EMPTY_LEAF x_Shelf_write_count x_Shelf_read_count x_Shelf_top x_Shelf_kept x_Shelf_page_room
  have v44 := V6 (P := P) (w := w) (mg := mg) (base := base) U44 (PySem.W.mg_of X G a44) v42 v0 v43 y_range
  have v45 := yp (P := P) (w := w) (mg := mg) (base := base) U45 (PySem.W.mg_of X G a45) y_len
  exact law_fn U46 v0 v1 v11 v36 v37 v38 v41 v44 v45 y_range
theorem walk {l : PySem.W.OpenLaw} {q : Program} {loose : List Str} {XP : (Str -> Option Value) -> Heap -> Prop} {YP : World -> Heap -> Prop} {d : DefRec} {K : Params -> PySem.W.Frag} (hn : l.most = some 63) (hdf : d.params.defaults = [])
    (hY : ∀ (w : World) (h : Heap), YP w h -> (K w.params).In h)
    (F : ∀ (w : World) (mg : Str -> Option Value) (fa : Addr) (h : Heap), (K w.params).In h -> h.Ns mainGlobals mg -> mg d.name = some (.ref fa) ->
      ∃ fd : FuncData, (∀ (s : Shared) (u : Value), BindsTo s fd ⟨[u], []⟩ [("script", u)]) /\ ∀ base : Heap, (K w.params).In base -> base.Ns mainGlobals mg -> zF l.prog w (K w.params) mg base CX0 9 fa fd ["script"] (spD (K w.params) 1 Gp)) :
    PySem.W.WalkO q loose XP YP l.row.toRowW d [] (fun f vs => PySem.call f vs) :=
  L2.uj (n := 63) (k := 9) (x := "script") (CX := fun _ => CX0) (sp := fun w => spD (K w.params) 1 Gp) hn (by decide) hdf ⟨rfl, by decide, by decide⟩ hY F (fun w _ a ns hl _ hS => Qdn (Qad ns hl) hS) fun _ _ _ _ _ z => z
end K25
open PySem PySem.W PyProof.Rows
set_option maxRecDepth 100000 in
set_option maxHeartbeats 0 in
theorem PySem.Challenge.cw_sidelink_k25_whole_sound_at_each_step_holds : PySem.Challenge.rw_sidelink_k25_whole_sound_at_each_step.Holds := by
  w_on; o_law; k_head; (case hw => w_witness2)
  k_fill
  refine K25.walk (l := PySem.Challenge.rw_sidelink_k25_whole_sound_at_each_step) rfl rfl (fun w h Y => PySem.W.kIn_of Y) ?F
  case F =>
    intro w mg fa h KX G hmg
    refine' K25.Qd0 KX G hmg ?aC_Shelf ?aC_Walk ?a0 ?l0 ?c0 ?k0 ?a1 ?i1 ?l1 ?c1 ?k1 ?a2 ?i2 ?l2 ?c2 ?k2 ?a3 ?l3 ?c3 ?k3 ?a4 ?l4 ?c4 ?k4 ?a5 ?l5 ?c5 ?k5 ?a6 ?l6 ?c6 ?k6 ?a7 ?i7 ?l7 ?c7 ?k7 ?a8 ?i8 ?l8 ?c8 ?k8 ?a9 ?i9 ?l9 ?c9 ?k9 ?a10 ?i10 ?l10 ?c10 ?k10 ?a11 ?l11 ?c11 ?k11 ?a12 ?i12 ?l12 ?c12 ?k12 ?a13 ?i13 ?l13 ?c13 ?k13 ?a14 ?l14 ?c14 ?k14 ?a15 ?l15 ?c15 ?k15 ?a16 ?l16 ?c16 ?k16 ?a17 ?l17 ?c17 ?k17 ?a18 ?l18 ?c18 ?k18 ?a19 ?l19 ?c19 ?k19 ?a20 ?i20 ?l20 ?c20 ?k20 ?a21 ?i21 ?l21 ?c21 ?k21 ?a22 ?l22 ?c22 ?k22 ?a23 ?l23 ?c23 ?k23 ?a24 ?i24 ?l24 ?c24 ?k24 ?a25 ?l25 ?c25 ?k25 ?a26 ?i26 ?l26 ?c26 ?k26 ?a27 ?i27 ?l27 ?c27 ?k27 ?a28 ?i28 ?l28 ?c28 ?k28 ?a29 ?l29 ?c29 ?k29 ?a30 ?i30 ?l30 ?c30 ?k30 ?a31 ?i31 ?l31 ?c31 ?k31 ?a32 ?l32 ?c32 ?k32 ?a33 ?l33 ?c33 ?k33 ?a34 ?i34 ?l34 ?c34 ?k34 ?a35 ?i35 ?l35 ?c35 ?k35 ?a36 ?i36 ?l36 ?c36 ?k36 ?a37 ?i37 ?l37 ?c37 ?k37 ?a38 ?i38 ?l38 ?c38 ?k38 ?a39 ?l39 ?c39 ?k39 ?a40 ?l40 ?c40 ?k40 ?a41 ?l41 ?c41 ?k41 ?a42 ?l42 ?c42 ?k42 ?a43 ?i43 ?l43 ?c43 ?k43 ?a44 ?l44 ?c44 ?k44 ?a45 ?l45 ?c45 ?k45 ?a46 ?l46 ?c46 ?k46 ?z_len ?z_range ?z_list ?z_int ?z_tuple ?z_zip ?z_min ?g_SIDE ?g_HIGH ?g_KEYS ?g_PARTS ?g_LEVEL ?g_EMPTY_LEAF ?tp_EMPTY_LEAF_0 ?tp_EMPTY_LEAF_2 ?tp_EMPTY_LEAF_1 ?pg_Shelf ?hd_Shelf ?po_Shelf ?sa_Shelf ?mk_Shelf ?kc_Shelf ?pg_Walk ?hd_Walk ?po_Walk ?sa_Walk ?mk_Walk ?kc_Walk ?n_Shelf_write_count ?n_Shelf_page_room ?n_Shelf_top ?n_Shelf_kept ?n_Shelf_read_count ?n_Walk_aim ?n_Walk_place ?n_Walk_ended ?n_Walk_pairs ?n_Walk_deed ?n_Walk_worth ?n_Walk_shelf ?n_Walk_new_page ?n_Walk_forks ?n_Walk_goal
    (case aC_Shelf => k_is)
    (case aC_Walk => k_is)
    (case a0 => k_is); (case l0 => k_is); (case c0 => k_is); (case k0 => k_is)
    (case a1 => k_is); (case i1 => k_is); (case l1 => k_is); (case c1 => k_is); (case k1 => k_is)
    (case a2 => k_is); (case i2 => k_is); (case l2 => k_is); (case c2 => k_is); (case k2 => k_is)
    (case a3 => k_is); (case l3 => k_is); (case c3 => k_is); (case k3 => k_is)
    (case a4 => k_is); (case l4 => k_is); (case c4 => k_is); (case k4 => k_is)
    (case a5 => k_is); (case l5 => k_is); (case c5 => k_is); (case k5 => k_is)
    (case a6 => k_is); (case l6 => k_is); (case c6 => k_is); (case k6 => k_is)
    (case a7 => k_is); (case i7 => k_is); (case l7 => k_is); (case c7 => k_is); (case k7 => k_is)
    (case a8 => k_is); (case i8 => k_is); (case l8 => k_is); (case c8 => k_is); (case k8 => k_is)
    (case a9 => k_is); (case i9 => k_is); (case l9 => k_is); (case c9 => k_is); (case k9 => k_is)
    (case a10 => k_is); (case i10 => k_is); (case l10 => k_is); (case c10 => k_is); (case k10 => k_is)
    (case a11 => k_is); (case l11 => k_is); (case c11 => k_is); (case k11 => k_is)
    (case a12 => k_is); (case i12 => k_is); (case l12 => k_is); (case c12 => k_is); (case k12 => k_is)
    (case a13 => k_is); (case i13 => k_is); (case l13 => k_is); (case c13 => k_is); (case k13 => k_is)
    (case a14 => k_is); (case l14 => k_is); (case c14 => k_is); (case k14 => k_is)
    (case a15 => k_is); (case l15 => k_is); (case c15 => k_is); (case k15 => k_is)
    (case a16 => k_is); (case l16 => k_is); (case c16 => k_is); (case k16 => k_is)
    (case a17 => k_is); (case l17 => k_is); (case c17 => k_is); (case k17 => k_is)
    (case a18 => k_is); (case l18 => k_is); (case c18 => k_is); (case k18 => k_is)
    (case a19 => k_is); (case l19 => k_is); (case c19 => k_is); (case k19 => k_is)
    (case a20 => k_is); (case i20 => k_is); (case l20 => k_is); (case c20 => k_is); (case k20 => k_is)
    (case a21 => k_is); (case i21 => k_is); (case l21 => k_is); (case c21 => k_is); (case k21 => k_is)
    (case a22 => k_is); (case l22 => k_is); (case c22 => k_is); (case k22 => k_is)
    (case a23 => k_is); (case l23 => k_is); (case c23 => k_is); (case k23 => k_is)
    (case a24 => k_is); (case i24 => k_is); (case l24 => k_is); (case c24 => k_is); (case k24 => k_is)
    (case a25 => k_is); (case l25 => k_is); (case c25 => k_is); (case k25 => k_is)
    (case a26 => k_is); (case i26 => k_is); (case l26 => k_is); (case c26 => k_is); (case k26 => k_is)
    (case a27 => k_is); (case i27 => k_is); (case l27 => k_is); (case c27 => k_is); (case k27 => k_is)
    (case a28 => k_is); (case i28 => k_is); (case l28 => k_is); (case c28 => k_is); (case k28 => k_is)
    (case a29 => k_is); (case l29 => k_is); (case c29 => k_is); (case k29 => k_is)
    (case a30 => k_is); (case i30 => k_is); (case l30 => k_is); (case c30 => k_is); (case k30 => k_is)
    (case a31 => k_is); (case i31 => k_is); (case l31 => k_is); (case c31 => k_is); (case k31 => k_is)
    (case a32 => k_is); (case l32 => k_is); (case c32 => k_is); (case k32 => k_is)
    (case a33 => k_is); (case l33 => k_is); (case c33 => k_is); (case k33 => k_is)
    (case a34 => k_is); (case i34 => k_is); (case l34 => k_is); (case c34 => k_is); (case k34 => k_is)
    (case a35 => k_is); (case i35 => k_is); (case l35 => k_is); (case c35 => k_is); (case k35 => k_is)
    (case a36 => k_is); (case i36 => k_is); (case l36 => k_is); (case c36 => k_is); (case k36 => k_is)
    (case a37 => k_is); (case i37 => k_is); (case l37 => k_is); (case c37 => k_is); (case k37 => k_is)
    (case a38 => k_is); (case i38 => k_is); (case l38 => k_is); (case c38 => k_is); (case k38 => k_is)
    (case a39 => k_is); (case l39 => k_is); (case c39 => k_is); (case k39 => k_is)
    (case a40 => k_is); (case l40 => k_is); (case c40 => k_is); (case k40 => k_is)
    (case a41 => k_is); (case l41 => k_is); (case c41 => k_is); (case k41 => k_is)
    (case a42 => k_is); (case l42 => k_is); (case c42 => k_is); (case k42 => k_is)
    (case a43 => k_is); (case i43 => k_is); (case l43 => k_is); (case c43 => k_is); (case k43 => k_is)
    (case a44 => k_is); (case l44 => k_is); (case c44 => k_is); (case k44 => k_is)
    (case a45 => k_is); (case l45 => k_is); (case c45 => k_is); (case k45 => k_is)
    (case a46 => k_is); (case l46 => k_is); (case c46 => k_is); (case k46 => k_is)
    (case z_len => k_is)
    (case z_range => k_is)
    (case z_list => k_is)
    (case z_int => k_is)
    (case z_tuple => k_is)
    (case z_zip => k_is)
    (case z_min => k_is)
    (case g_SIDE => k_is)
    (case g_HIGH => k_is)
    (case g_KEYS => k_is)
    (case g_PARTS => k_is)
    (case g_LEVEL => k_is)
    (case g_EMPTY_LEAF => k_is)
    (case tp_EMPTY_LEAF_0 => k_is)
    (case tp_EMPTY_LEAF_2 => k_is)
    (case tp_EMPTY_LEAF_1 => k_is)
    (case pg_Shelf => k_is); (case hd_Shelf => k_is); (case po_Shelf => k_is); (case sa_Shelf => k_is); (case mk_Shelf => k_is); (case kc_Shelf => k_is)
    (case pg_Walk => k_is); (case hd_Walk => k_is); (case po_Walk => k_is); (case sa_Walk => k_is); (case mk_Walk => k_is); (case kc_Walk => k_is)
    (case n_Shelf_write_count => k_is)
    (case n_Shelf_page_room => k_is)
    (case n_Shelf_top => k_is)
    (case n_Shelf_kept => k_is)
    (case n_Shelf_read_count => k_is)
    (case n_Walk_aim => k_is)
    (case n_Walk_place => k_is)
    (case n_Walk_ended => k_is)
    (case n_Walk_pairs => k_is)
    (case n_Walk_deed => k_is)
    (case n_Walk_worth => k_is)
    (case n_Walk_shelf => k_is)
    (case n_Walk_new_page => k_is)
    (case n_Walk_forks => k_is)
    (case n_Walk_goal => k_is)

import PyProof.Rows.All
import Wide.All
import OpenK.AllK
import Wide.FinOn
import Lean
import PyProof.EqAt
import PyProof.EqKinds
import PyProof.TupleCall
import PySem.Challenge.RW_sidelink_k63_whole_packed_is_sound
-- CHANGE: your row's module here,as the last of these rows
set_option Elab.async false
set_option linter.all false
set_option maxRecDepth 100000
namespace L2
open PySem PySem.Spec PyProof.Rows
abbrev Key:=Sum Int Str
def VG:Key -> Value -> Bool
  | .inl k,v=>Value.isInt k v
  | .inr x,v=>Value.isStrOf x v
def Qfw (w:World):Key -> Int
  | .inl k=>hashInt k
  | .inr x=>hashStr w x
theorem ZD:∀ {k:Key} {v:Value},VG k v = true -> (∃ i t,k = Sum.inl i /\ v = Value.int i t) ∨ (∃ x t,k = Sum.inr x /\ v = Value.str x t)
  | .inl i,v,h=>by
    obtain ⟨t,e⟩:=Value.isInt_shape (k:=i) (v:=v) h
    exact .inl ⟨i,t,rfl,e⟩
  | .inr x,v,h=>by
    obtain ⟨t,e⟩:=Value.isStrOf_shape (x:=x) (v:=v) h
    exact .inr ⟨x,t,rfl,e⟩
theorem kq (i:Int) (t:Tok):VG (.inl i) (.int i t) = true:=by simp [VG,Value.isInt]
theorem kg (x:Str) (t:Tok):VG (.inr x) (.str x t) = true:=by simp [VG,Value.isStrOf]
theorem QdL (a b:Int):decide ((Sum.inl a:Key) = Sum.inl b) = (a == b):=by
  by_cases e:a = b
  . subst e;simp
  . have h:¬ (Sum.inl a:Key) = Sum.inl b:=fun q=>e (Sum.inl.inj q)
    rw [decide_eq_false h]
    exact (beq_eq_false_iff_ne.mpr e).symm
theorem Qej (a b:Str):decide ((Sum.inr a:Key) = Sum.inr b) = decide (a = b):=by
  by_cases e:a = b
  . subst e;simp
  . have h:¬ (Sum.inr a:Key) = Sum.inr b:=fun q=>e (Sum.inr.inj q)
    rw [decide_eq_false h,decide_eq_false e]
theorem Qei (a:Int) (b:Str):decide ((Sum.inl a:Key) = Sum.inr b) = false:=decide_eq_false (fun q=>nomatch q)
theorem Qd0 (a:Str) (b:Int):decide ((Sum.inr a:Key) = Sum.inl b) = false:=decide_eq_false (fun q=>nomatch q)
def ZT (prog:Program) (w:World):PySem.KeyKind prog w Key where
  is:=VG
  hash:=Qfw w
  inj:=fun v a b ha hb=>by
    rcases ZD ha with ⟨i,t,rfl,rfl⟩ | ⟨x,t,rfl,rfl⟩
    . rcases ZD hb with ⟨j,u,rfl,e⟩ | ⟨y,u,rfl,e⟩
      . injection e with e1 _;rw [e1]
      . exact nomatch e
    . rcases ZD hb with ⟨j,u,rfl,e⟩ | ⟨y,u,rfl,e⟩
      . exact nomatch e
      . injection e with e1 _;rw [e1]
  byValue:=fun k v h=>by
    rcases ZD h with ⟨i,t,rfl,rfl⟩ | ⟨x,t,rfl,rfl⟩ <;> rfl
  pyHash:=fun hv h=>by
    rcases ZD hv with ⟨i,t,rfl,rfl⟩ | ⟨x,t,rfl,rfl⟩
    . exact wpAny_pyHash_int h
    . exact wpAny_pyHash_str h
  eqBool:=fun hu hv h=>by
    rcases ZD hu with ⟨i,t,rfl,rfl⟩ | ⟨x,t,rfl,rfl⟩
    . rcases ZD hv with ⟨j,u,rfl,rfl⟩ | ⟨y,u,rfl,rfl⟩
      . rw [QdL] at h;exact wpAny_eqBool_int h
      . rw [Qei] at h;exact SeqAt.EqAt.int_str i t y u _ _ _ _ h
    . rcases ZD hv with ⟨j,u,rfl,rfl⟩ | ⟨y,u,rfl,rfl⟩
      . rw [Qd0] at h;exact SeqAt.EqAt.str_int x t j u _ _ _ _ h
      . rw [Qej] at h;exact wpAny_eqBool_str h
  «strs»:=fun k x t v h=>by
    rcases ZD h with ⟨i,u,rfl,e⟩ | ⟨y,u,rfl,e⟩
    . exact nomatch e
    . injection e with e1 _
      subst e1
      cases v <;> rfl
theorem Kq (prog:Program) (w:World) (i:Int) (t:Tok):(ZT prog w).is (.inl i) (.int i t) = true:=kq i t
theorem Kh (prog:Program) (w:World) (x:Str) (t:Tok):(ZT prog w).is (.inr x) (.str x t) = true:=kg x t
end L2
namespace L2
open PySem PySem.Spec PyProof.Rows
inductive V where
  | non | bl (b:Bool) | int (i:Int) | str (x:Str) | byt (b:Array UInt8) | flt (b:UInt64) | ref (a:Addr) | ty (n:String)
  deriving DecidableEq
def RelV:V -> Value -> Prop
  | .non,u=>u = Value.none
  | .bl b,u=>u = Value.bool b
  | .int i,u=>∃ t,u = Value.int i t
  | .str x,u=>∃ t,u = Value.str x t
  | .byt b,u=>∃ t,u = Value.bytes b t
  | .flt b,u=>∃ t,u = Value.float b t
  | .ref a,u=>u = Value.ref a
  | .ty n,u=>u = Value.type n
abbrev Vals:List V -> List Value -> Prop:=Paired RelV
theorem Vals.length {xs:List V} {us:List Value} (r:Vals xs us):xs.length = us.length:=Paired.length r
theorem Vals.get:∀ {xs:List V} {us:List Value} {i:Nat} {x:V},Vals xs us -> xs[i]? = some x -> ∃ u,us[i]? = some u /\ RelV x u
  | _,_,_,_,.nil,e=>by simp at e
  | _,_,0,_,.cons r _,e=>by simp at e;subst e;exact ⟨_,rfl,r⟩
  | _,_,i + 1,x,.cons _ t,e=>by
    obtain ⟨u,h1,h2⟩:=Vals.get (i:=i) (x:=x) t (by simpa using e)
    exact ⟨u,by simpa using h1,h2⟩
theorem Vals.set {x:V} {u:Value} (r:RelV x u):∀ {xs:List V} {us:List Value} (i:Nat),Vals xs us -> Vals (xs.set i x) (us.set i u)
  | _,_,_,.nil=>.nil
  | _,_,0,.cons _ t=>.cons r t
  | _,_,i + 1,.cons q t=>.cons q (Vals.set r i t)
theorem Vals.append:∀ {xs ys:List V} {us ws:List Value},Vals xs us -> Vals ys ws -> Vals (xs ++ ys) (us ++ ws)
  | _,_,_,_,.nil,s=>s
  | _,_,_,_,.cons r t,s=>.cons r (Vals.append t s)
theorem Vals.take:∀ {xs:List V} {us:List Value} (n:Nat),Vals xs us -> Vals (xs.take n) (us.take n)
  | _,_,0,_=>.nil
  | _,_,_ + 1,.nil=>.nil
  | _,_,n + 1,.cons r t=>.cons r (Vals.take n t)
theorem Vals.drop:∀ {xs:List V} {us:List Value} (n:Nat),Vals xs us -> Vals (xs.drop n) (us.drop n)
  | _,_,0,r=>r
  | _,_,_ + 1,.nil=>.nil
  | _,_,n + 1,.cons _ t=>Vals.drop n t
theorem Vals.none_of:∀ {xs:List V} {us:List Value} {i:Nat},Vals xs us -> xs[i]? = none -> us[i]? = none:=fun {xs us i} r e=>by
  have h1:=r.length
  have h2:xs.length <= i:=List.getElem?_eq_none_iff.mp e
  exact List.getElem?_eq_none_iff.mpr (by omega)
def RelO:Option V -> Option Value -> Prop
  | some v,some u=>RelV v u
  | none,none=>True
  | _,_=>False
def KV {κ:Type}:List (κ × V) -> List (κ × Value) -> Prop:=Paired fun (p:κ × V) (q:κ × Value)=>p.1 = q.1 /\ RelV p.2 q.2
def kV:Key -> V
  | .inl i=>.int i
  | .inr x=>.str x
inductive HO where
    | lst (xs:List V)
    | tup (xs:List V)
    | dK (kvs:List (Key × V)) | dT (kvs:List (List Key × V))
    | set (S:Int -> Bool) (n:Nat)
    | ins (C dx:Addr) (fs:List (Str × V))
    | own (x:Addr)
    | xd (fs:List (Str × V))
    | met (f x:Addr)
    | rng (lo hi:Int)
    | frz (o:Obj) (u:HO)
    | tbl (ps:Array Value)
    | ext (φ:Heap -> Prop)
abbrev Hp:=Addr -> Option HO
def upd (H:Hp) (a:Addr) (o:HO):Hp:=fun b=>if b = a then some o else H b
theorem QR {H:Hp} {a:Addr} {o:HO}:upd H a o a = some o:=by unfold upd;rw [if_pos rfl]
theorem QE {H:Hp} {a b:Addr} {o:HO} (h:b ≠ a):upd H a o b = H b:=by unfold upd;rw [if_neg h]
theorem Qe8 {H:Hp} {a b:Addr} {o u:HO} (h:H a = some o) (h':H b = some u) (d:o ≠ u):a ≠ b:=by
  intro e;subst e;rw [h] at h';exact d (Option.some.inj h')
theorem Zc {H:Hp} {a b:Addr} {o:HO} (h:H a = some o) (h':H b = none):a ≠ b:=by
  intro e;subst e;rw [h] at h';cases h'
section
variable (P:Program) (w:World)
def ObjOk (H:Hp) (h:Heap) (a:Addr):HO -> Prop
  | .lst xs=>xs.length <= sizeLine /\ ∃ (its:List Value) (n:Nat),Vals xs its /\ h.get? a = some { cls:=.type "list", data:=.seq its.toArray n }
  | .tup xs=>xs.length <= sizeLine /\ ∃ its:List Value,Vals xs its /\ IsTup h a its.toArray
  | .dK kvs=>kvs.length <= sizeLine /\ (a == sysModules) = false /\ ∃ vs,KV kvs vs /\ h.DictOf (ZT P w) a vs
  | .dT kvs=>kvs.length <= sizeLine /\ (a == sysModules) = false /\ ∃ xs:List (List Key × Addr × Value),
      Paired (fun (p:List Key × V) (q:List Key × Addr × Value)=>p.1 = q.1 /\ H q.2.1 = some (.tup (p.1.map kV)) /\ RelV p.2 q.2.2) kvs xs /\
      ∃ o es ep,h.get? a = some o /\ o.ExactDict /\ o.data = .dict es ep /\ es.toList = xs.map (entryOfKey (tupleKind (ZT P w))) /\ (xs.map (·.1)).Nodup
  | .set S n=>h.SetOf (intKind P w) a S n
  | .ins C dx fs=>H dx = some (.own a) /\ fs.length <= 1000 /\ dx ≠ a /\ h.get? a = some (PySem.W.instObj C dx) /\
      ∃ mA,h.Ns1 dx mA /\ (∀ f,RelO (fs.lookup f) (mA f)) /\ PySem.Within mA (fs.map (·.1))
  | .own _=>∃ o,h.get? a = some o
  | .xd fs=>∃ mA,h.Ns1 a mA /\ ∀ f,RelO (fs.lookup f) (mA f)
  | .rng lo hi=>∃ t u v,h.get? a = some { cls:=.type "range", data:=.fields #[.int lo t,.int hi u,.int 1 v] }
  | .frz o u=>h.get? a = some o /\ ObjOk H h a u
  | .tbl ps=>h.get? a = some { cls:=.none,data:=.fields ps }
  | .met f x=>h.get? a = some (PySem.W.methodObj (.ref f) (.ref x))
  | .ext φ=>φ h /\ (∃ o,h.get? a = some o) /\ ∀ h1 h2:Heap,φ h1 -> (∀ o,h1.get? a = some o -> h2.get? a = some o) -> φ h2
def HOk (H:Hp) (h:Heap):Prop:=∀ a o,H a = some o -> ObjOk P w H h a o
end
section
variable {P:Program} {w:World} {H H':Hp} {h h':Heap} {a:Addr} {o:HO}
theorem ObjOk.lt (x:ObjOk P w H h a o):a < h.objs.size:=by
  cases o with
  | lst xs=>obtain ⟨_,_,_,_,e⟩:=x;exact Heap.lt_size e
  | tup xs=>obtain ⟨_,_,_,p⟩:=x;exact p.lt
  | dK kvs=>obtain ⟨_,_,_,_,o,_,_,e,_⟩:=x;exact Heap.lt_size e
  | dT kvs=>obtain ⟨_,_,_,_,o,_,_,e,_⟩:=x;exact Heap.lt_size e
  | set S n=>obtain ⟨o,_,_,_,e,_⟩:=x;exact Heap.lt_size e
  | ins C dx fs=>obtain ⟨_,_,_,e,_⟩:=x;exact Heap.lt_size e
  | own y=>obtain ⟨_,e⟩:=x;exact Heap.lt_size e
  | xd fs=>obtain ⟨_,⟨_,_,_,e,_⟩,_⟩:=x;exact Heap.lt_size e
  | rng lo hi=>obtain ⟨_,_,_,e⟩:=x;exact Heap.lt_size e
  | frz ob u=>obtain ⟨e,_⟩:=x;exact Heap.lt_size e
  | tbl ps=>exact Heap.lt_size (show h.get? a = some _ from x)
  | met f y=>exact Heap.lt_size (show h.get? a = some _ from x)
  | ext φ=>obtain ⟨_,⟨_,e⟩,_⟩:=x;exact Heap.lt_size e
theorem Paired.mapP {α β:Type} {F G:α -> β -> Prop}:∀ {l₁:List α} {l₂:List β},Paired F l₁ l₂ -> (∀ a b,F a b -> G a b) -> Paired G l₁ l₂
  | _,_,.nil,_=>.nil
  | _,_,.cons r t,f=>.cons (f _ _ r) (Paired.mapP t f)
theorem ObjOk.stay (x:ObjOk P w H h a o) (k:∀ b u,(b = a ∨ H b = some (.own a)) -> h.get? b = some u -> h'.get? b = some u)
    (ho:∀ b,H b = some (.own a) -> H' b = some (.own a)) (ht:∀ b xs,H b = some (.tup xs) -> H' b = some (.tup xs)):ObjOk P w H' h' a o:=by
  induction o with
  | lst xs=>obtain ⟨z,its,n,r,e⟩:=x;exact ⟨z,its,n,r,k _ _ (.inl rfl) e⟩
  | tup xs=>obtain ⟨z,its,r,ob,e,c⟩:=x;exact ⟨z,its,r,ob,k _ _ (.inl rfl) e,c⟩
  | dK kvs=>obtain ⟨z,y,vs,r,ob,es,ep,e,c⟩:=x;exact ⟨z,y,vs,r,ob,es,ep,k _ _ (.inl rfl) e,c⟩
  | dT kvs =>
    obtain ⟨z,y,xs,r,ob,es,ep,e,c⟩:=x
    exact ⟨z,y,xs,Paired.mapP r fun p q z=>⟨z.1,ht _ _ z.2.1,z.2.2⟩,ob,es,ep,k _ _ (.inl rfl) e,c⟩
  | set S n=>obtain ⟨ob,es,ep,t,e,c⟩:=x;exact ⟨ob,es,ep,t,k _ _ (.inl rfl) e,c⟩
  | ins C dx fs =>
    obtain ⟨d,z,ne,e,mA,⟨od,es,ep,e2,c⟩,r⟩:=x
    exact ⟨ho _ d,z,ne,k _ _ (.inl rfl) e,mA,⟨od,es,ep,k _ _ (.inr d) e2,c⟩,r⟩
  | own y=>obtain ⟨ob,e⟩:=x;exact ⟨ob,k _ _ (.inl rfl) e⟩
  | xd fs=>obtain ⟨mA,⟨od,es,ep,e,c⟩,r⟩:=x;exact ⟨mA,⟨od,es,ep,k _ _ (.inl rfl) e,c⟩,r⟩
  | rng lo hi=>obtain ⟨t,u,v,e⟩:=x;exact ⟨t,u,v,k _ _ (.inl rfl) e⟩
  | frz ob u ih=>obtain ⟨e,q⟩:=x;exact ⟨k _ _ (.inl rfl) e,ih q⟩
  | tbl ps =>
    have e:h.get? a = some { cls:=.none,data:=.fields ps }:=x
    show h'.get? a = some { cls:=.none,data:=.fields ps }
    exact k a _ (.inl rfl) e
  | met f y =>
    have e:h.get? a = some (PySem.W.methodObj (.ref f) (.ref y)):=x
    show h'.get? a = some (PySem.W.methodObj (.ref f) (.ref y))
    exact k a _ (.inl rfl) e
  | ext φ=>obtain ⟨p,⟨o,e⟩,st⟩:=x;exact ⟨st _ _ p fun o q=>k _ _ (.inl rfl) q,⟨o,k _ _ (.inl rfl) e⟩,st⟩
theorem HOk.lt (x:HOk P w H h) (e:H a = some o):a < h.objs.size:=(x a o e).lt
theorem HOk.fresh (x:HOk P w H h) (e:h.objs.size <= a):H a = none:=by
  cases q:H a with
  | none=>rfl
  | some u=>exact absurd (Nat.lt_of_lt_of_le (x.lt q) e) (Nat.lt_irrefl _)
theorem HOk.kept (x:HOk P w H h) (k:∀ b u,h.get? b = some u -> h'.get? b = some u):HOk P w H h':=fun a o e =>
  (x a o e).stay (fun b u _ q=>k b u q) (fun _ q=>q) fun _ _ q=>q
theorem HOk.laid (x:HOk P w H h) (k:∀ b u,h.get? b = some u -> h'.get? b = some u) (hp:h.objs.size <= a) (new:ObjOk P w (upd H a o) h' a o):HOk P w (upd H a o) h':=fun b u e=>by
  have hn:=x.fresh hp
  by_cases hb:b = a
  . subst hb;rw [QR] at e;cases e;exact new
  . rw [QE hb] at e
    exact (x b u e).stay (fun c v _ q=>k c v q) (fun c q=>by rw [QE (Zc q hn)];exact q) fun c xs q=>by rw [QE (Zc q hn)];exact q
end
def Rd (H:Hp) (a:Addr) (u:HO):Prop:=H a = some u ∨ ∃ o,H a = some (.frz o u)
theorem Rd.of {H:Hp} {a:Addr} {u:HO} (h:H a = some u):Rd H a u:=.inl h
theorem Rd.ok {P:Program} {w:World} {H:Hp} {h:Heap} {a:Addr} {u:HO} (r:Rd H a u) (x:HOk P w H h):ObjOk P w H h a u:=by
  rcases r with r | ⟨o,r⟩
  . exact x a u r
  . obtain ⟨_,q⟩:=x a _ r
    exact q
def Mut:Option HO -> Prop
  | some (.lst _)=>True
  | some (.dK _)=>True
  | some (.dT _)=>True
  | some (.set _ _)=>True
  | some (.ins _ _ _)=>True
  | some (.ext _)=>True
  | _=>False
section
variable {P:Program} {w:World} {H:Hp} {h h':Heap} {x e:Addr} {o':HO}
theorem HOk.write (ok:HOk P w H h) (mu:Mut (H x)) (he:e = x ∨ H e = some (.own x)) (k:∀ b u,b ≠ e -> h.get? b = some u -> h'.get? b = some u) (heo:∃ u,h'.get? e = some u)
    (new:ObjOk P w (upd H x o') h' x o'):HOk P w (upd H x o') h':=fun b u q=>by
  have nown:∀ c y,H c = some (.own y) -> c ≠ x:=fun c y r z=>by subst z;rw [r] at mu;exact mu
  have ntup:∀ c xs,H c = some (.tup xs) -> c ≠ x:=fun c xs r z=>by subst z;rw [r] at mu;exact mu
  by_cases hb:b = x
  . subst hb;rw [QR] at q;cases q;exact new
  . rw [QE hb] at q
    by_cases hbe:b = e
    . have q':H b = some (.own x):=by
        rcases he with z | z
        . exact absurd (hbe.trans z) hb
        . rw [hbe];exact z
      rw [q] at q';cases q'
      obtain ⟨v,hv⟩:=heo
      exact ⟨v,by rw [hbe];exact hv⟩
    . refine (ok b u q).stay (fun c v hc r=>k c v ?_ r) (fun c r=>by rw [QE (nown c b r)];exact r) fun c xs r=>by rw [QE (ntup c xs r)];exact r
      rcases hc with rfl | hc
      . exact hbe
      . rintro rfl
        rcases he with z | z
        . exact nown c b hc z
        . rw [hc] at z;cases z;exact hb rfl
end
structure Un (fs ex:List Addr) (H H':Hp) (h h':Heap):Prop where
  keep:∀ b o,h.get? b = some o -> H b = none -> b ∉ fs -> b ∉ ex -> h'.get? b = some o
  slot:∀ b o,h.get? b = some o -> H b = none -> b ∈ fs -> b ∉ ex -> ∃ sl,h'.get? b = some { o with slots:=sl }
  free:∀ b o,h.get? b = some o -> H b = none -> b ∉ ex -> H' b = none
  there:∀ b o,h.get? b = some o -> b ∉ ex -> ∃ o',h'.get? b = some o'
  tups:∀ b xs,H b = some (.tup xs) -> H' b = some (.tup xs)
  frzs:∀ b o u,H b = some (.frz o u) -> H' b = some (.frz o u)
  tbls:∀ b ps,H b = some (.tbl ps) -> ∃ more,H' b = some (.tbl (ps ++ more))
section
variable {fs fs' ex ex':List Addr} {H H1 H2:Hp} {h h1 h2 h':Heap} {a x e:Addr} {o:HO}
theorem Un.any (u:Un fs ex H H1 h h1) {b:Addr} {ob:Obj} (q:h.get? b = some ob) (n:H b = none) (hx:b ∉ ex):∃ sl,h1.get? b = some { ob with slots:=sl }:=by
  by_cases hb:b ∈ fs
  . exact u.slot b ob q n hb hx
  . exact ⟨ob.slots,u.keep b ob q n hb hx⟩
theorem Un.trans (a:Un fs ex H H1 h h1) (b:Un fs ex H1 H2 h1 h2):Un fs ex H H2 h h2 where
  keep:=fun c ob q n hc hx=>b.keep c ob (a.keep c ob q n hc hx) (a.free c ob q n hx) hc hx
  slot:=fun c ob q n hc hx=>by
    obtain ⟨sl,e1⟩:=a.slot c ob q n hc hx
    obtain ⟨sl',e2⟩:=b.slot c _ e1 (a.free c ob q n hx) hc hx
    exact ⟨sl',e2⟩
  free:=fun c ob q n hx=>by
    obtain ⟨o',e1⟩:=a.there c ob q hx
    exact b.free c o' e1 (a.free c ob q n hx) hx
  there:=fun c ob q hx=>by
    obtain ⟨o',e1⟩:=a.there c ob q hx
    exact b.there c o' e1 hx
  tups:=fun c xs q=>b.tups c xs (a.tups c xs q)
  frzs:=fun c ob xs q=>b.frzs c ob xs (a.frzs c ob xs q)
  tbls:=fun c ps q=>by
    obtain ⟨m1,e1⟩:=a.tbls c ps q
    obtain ⟨m2,e2⟩:=b.tbls c _ e1
    exact ⟨m1 ++ m2,by rw [e2,Array.append_assoc]⟩
theorem Un.kept (k:∀ b u,h.get? b = some u -> h'.get? b = some u):Un fs ex H H h h' :=
  ⟨fun b ob q _ _ _=>k b ob q,fun b ob q _ _ _=>⟨ob.slots,k b ob q⟩,fun _ _ _ n _=>n,fun b ob q _=>⟨ob,k b ob q⟩,fun _ _ q=>q,fun _ _ _ q=>q,fun _ ps q=>⟨#[],by rw [q];simp⟩⟩
theorem Un.refl:Un fs ex H H h h:=Un.kept fun _ _ q=>q
theorem Un.laid (k:∀ b u,h.get? b = some u -> h'.get? b = some u) (hp:h.objs.size <= a) (hn:H a = none):Un fs ex H (upd H a o) h h' where
  keep:=fun b u q _ _ _=>k b u q
  slot:=fun b u q _ _ _=>⟨u.slots,k b u q⟩
  free:=fun b u q n _=>by rw [QE (Nat.ne_of_lt (Nat.lt_of_lt_of_le (Heap.lt_size q) hp))];exact n
  there:=fun b u q _=>⟨u,k b u q⟩
  tups:=fun b xs q=>by rw [QE (Zc q hn)];exact q
  frzs:=fun b u xs q=>by rw [QE (Zc q hn)];exact q
  tbls:=fun b ps q=>⟨#[],by rw [QE (Zc q hn),q];simp⟩
theorem Un.write (mu:Mut (H x)) (he:e = x ∨ H e = some (.own x)) (k:∀ b u,b ≠ e -> h.get? b = some u -> h'.get? b = some u) (heo:∃ u,h'.get? e = some u):Un fs ex H (upd H x o) h h':=by
  have hx:∀ b,H b = none -> b ≠ x:=fun b n z=>by subst z;rw [n] at mu;exact mu
  have hb:∀ b,H b = none -> b ≠ e:=fun b n z=>by
    subst z
    rcases he with r | r
    . exact hx b n r
    . rw [n] at r;cases r
  have hm:∀ b u,H b = some u -> ¬ Mut (some u) -> b ≠ x:=fun b u q nm z=>by subst z;rw [q] at mu;exact nm mu
  refine ⟨fun b u q n _ _=>k b u (hb b n) q,fun b u q n _ _=>⟨u.slots,k b u (hb b n) q⟩,fun b u q n _=>by rw [QE (hx b n)];exact n,fun b u q _=>?_,
    fun b xs q=>by rw [QE (hm b _ q fun z=>z)];exact q,fun b u xs q=>by rw [QE (hm b _ q fun z=>z)];exact q,fun b ps q=>⟨#[],by rw [QE (hm b _ q fun z=>z),q];simp⟩⟩
  by_cases hbe:b = e
  . subst hbe;exact heo
  . exact ⟨u,k b u hbe q⟩
theorem Un.mono (u:Un fs ex H H1 h h1) (hs:∀ b ∈ fs,b ∈ fs') (hx:∀ b ∈ ex,b ∈ ex'):Un fs' ex' H H1 h h1 :=
  ⟨fun b ob q n hb he=>u.keep b ob q n (fun z=>hb (hs b z)) fun z=>he (hx b z),fun _ _ q n _ he=>u.any q n fun z=>he (hx _ z),fun b ob q n he=>u.free b ob q n fun z=>he (hx b z),fun b ob q he=>u.there b ob q fun z=>he (hx b z),u.tups,u.frzs,u.tbls⟩
end
def trk (h:Heap) (H:Hp):List Addr:=(List.range h.objs.size).filter fun a=>(H a).isSome
def UI (h:Heap) (H:Hp):Heap:=PySem.W.hideAll h (trk h H)
theorem g9 (h:Heap) (H:Hp):(UI h H).objs.size = h.objs.size:=PySem.W.hideAll_size _ _
theorem Qbv {h:Heap} {H:Hp} {b:Addr} {o:Obj} (e:h.get? b = some o) (n:H b = none):(UI h H).get? b = some o :=
  PySem.W.hideAll_get _ e fun hm=>by
    have q:(H b).isSome = true:=(List.mem_filter.mp hm).2
    rw [n] at q;simp at q
theorem QcF {h:Heap} {H:Hp} {b:Addr} {o:Obj} (e:(UI h H).get? b = some o):h.get? b = some o /\ H b = none:=by
  have e':h.get? b = some o:=PySem.W.of_hideAll (trk h H) e
  refine ⟨e',?_⟩
  cases q:H b with
  | none=>rfl
  | some x =>
    have hm:b ∈ trk h H:=List.mem_filter.mpr ⟨List.mem_range.mpr (Heap.lt_size e'),by simp [q]⟩
    have z:(UI h H).get? b = none:=PySem.W.hideAll_none (trk h H) hm
    rw [z] at e;cases e
def Uy (g h:Heap) (L:Addr):List (Addr × Obj):=(List.range h.objs.size).filterMap fun a=>if a = L ∨ (g.get? a).isSome = true then none else (h.get? a).map fun o=>(a,o)
theorem xZ {g h:Heap} {L:Addr} {p:Addr × Obj} (hp:p ∈ Uy g h L):p.1 ≠ L /\ g.get? p.1 = none /\ h.get? p.1 = some p.2:=by
  obtain ⟨b,_,e⟩:=List.mem_filterMap.mp hp
  split at e
  . cases e
  . rename_i hn
    cases q:h.get? b with
    | none=>rw [q] at e;simp at e
    | some u =>
      rw [q] at e
      simp only [Option.map_some,Option.some.injEq] at e
      subst e
      refine ⟨fun z=>hn (.inl z),?_,q⟩
      show g.get? b = none
      cases r:g.get? b with
      | none=>rfl
      | some v=>exact (hn (.inr (by simp [r]))).elim
def rest (g h:Heap) (L d:Addr):List (Addr × Obj):=(Uy g h L).filter fun p=>decide (p.1 ≠ d)
theorem Qbs {g h:Heap} {L:Addr}:News g L h (Uy g h L):=fun p hp=>let ⟨a,b,c⟩:=xZ hp;⟨c,a,b⟩
end L2
namespace L2
open PySem PySem.Spec PyProof.Rows
structure Mod (K:PySem.W.Frag) (mg:Str -> Option Value) (base:Heap):Prop where
  kin:K.In base
  glob:base.Ns mainGlobals mg
  blt:∃ mb,base.Ns builtinsNs mb /\ ∀ x:Str,x ≠ "__name__" -> mb x = bootBuiltins x
  nolimit:base.NoLimit
structure Cx where
  prog:Program
  w:World
  K:PySem.W.Frag
  mg:Str -> Option Value
  base:Heap
  A:Around
  N:List Str
  s₀:Shared
  H₀:Hp
  env:Env
  outer:List Env
  stack:List Env
  ex:List Addr
  fn:Str -> Bool
  calm:Bool
  pn:List (Addr × Obj)
  xe:Value -> Shared -> Prop
def frs (l:List Env):List Addr:=l.filterMap (·.frame)
abbrev Cx.fs (X:Cx):List Addr:=frs X.outer
def Vis (sc:Scope) (x:Str):Prop:=sc.names.lookup x = some .local ∨ sc.names.lookup x = some .cell ∨ sc.names.lookup x = some .free
def Loc (sc:Scope) (x:Str):Prop:=sc.names.lookup x = some .local ∨ sc.names.lookup x = some .cell
def QfI (env:Env) (h:Heap) (m:Str -> Option Value) (x:Str) (u:Value):Prop :=
  (env.kindOf x = some .local /\ m x = some u) ∨ ((env.kindOf x = some .cell ∨ env.kindOf x = some .free) /\ ∃ c,env.cells.lookup x = some c /\ h.IsCell c (some u))
structure Cx.Ok (X:Cx):Prop where
  mod:Mod X.K X.mg X.base
  kind:X.env.scope.kind = .function
  glob:X.env.globals = mainGlobals
  blt:X.env.builtins = builtinsNs
  above:X.s₀.heap.objs.size <= X.env.locals
  inj:∀ x y c,X.env.cells.lookup x = some c -> X.env.cells.lookup y = some c -> x = y
  has:∀ x,(X.env.kindOf x = some .cell ∨ X.env.kindOf x = some .free) -> ∃ c,X.env.cells.lookup x = some c
  cab:∀ x c,X.fn x = true -> X.env.cells.lookup x = some c -> X.s₀.heap.objs.size <= c
  hd:X.calm = true -> X.A.handled = none
  frames:X.A.frames = some X.stack
  stk:X.stack = X.outer ∨ (X.stack = X.env :: X.outer /\ X.env.frame = some X.env.locals)
  exf:∀ b ∈ X.ex,b ≠ X.env.locals /\ ∀ x c,X.env.cells.lookup x = some c -> c ≠ b
  bs:∀ b o,X.base.get? b = some o -> X.s₀.heap.get? b = some o /\ X.H₀ b = none
  bsz:X.base.objs.size <= X.s₀.heap.objs.size
  noex:∀ b o,X.base.get? b = some o -> b ∉ X.ex
  exfs:∀ b ∈ X.ex,b ∉ X.fs
  funs:X.s₀.heap.FunFrames X.base X.outer
  frf:∀ b ∈ X.fs,X.H₀ b = none
structure Inv (X:Cx) (pins:List (Addr × Obj)) (σ:List (Option V)) (H:Hp) (s:Shared):Prop where
  ok:X.Ok
  os:s.os = X.s₀.os
  bare:AllBare s.gens
  base:Un X.fs X.ex X.H₀ H X.s₀.heap s.heap
  loc:∃ m,s.heap.Ns X.env.locals m /\ ∀ (i:Nat) (x:Str) (v:V),X.N[i]? = some x -> σ[i]? = some (some v) -> Vis X.env.scope x -> ∃ u,RelV v u /\ QfI X.env s.heap m x u
  cell:∀ x c,X.env.cells.lookup x = some c -> ∃ v,s.heap.IsCell c v
  free:H X.env.locals = none
  freeC:∀ x c,X.env.cells.lookup x = some c -> H c = none
  pin:∀ p ∈ X.pn ++ pins,s.heap.get? p.1 = some p.2 /\ H p.1 = none /\ p.1 ≠ X.env.locals /\ p.1 ∉ X.fs /\ ∀ v,p.2.data ≠ .cell v
  hok:HOk X.prog X.w H s.heap
  len:σ.length = X.N.length
section
variable {X:Cx} {pins:List (Addr × Obj)} {σ:List (Option V)} {H H':Hp} {s:Shared} {h':Heap}
theorem Cx.Ok.nofr (ok:X.Ok) {b:Addr} {o:Obj} (e:X.base.get? b = some o):b ∉ X.fs:=fun hb=>by
  have:=(ok.funs.mem hb).1
  rw [e] at this;cases this
theorem Inv.bs (I:Inv X pins σ H s):∀ b o,X.base.get? b = some o -> s.heap.get? b = some o /\ H b = none:=fun b o e =>
  ⟨I.base.keep b o (I.ok.bs b o e).1 (I.ok.bs b o e).2 (I.ok.nofr e) (I.ok.noex b o e),I.base.free b o (I.ok.bs b o e).1 (I.ok.bs b o e).2 (I.ok.noex b o e)⟩
theorem Inv.bk (I:Inv X pins σ H s):∀ b o,X.base.get? b = some o -> s.heap.get? b = some o:=fun b o e=>(I.bs b o e).1
theorem Inv.mod (I:Inv X pins σ H s):Mod X.K X.mg X.base:=I.ok.mod
theorem Inv.kIn (I:Inv X pins σ H s):X.K.In s.heap:=I.ok.mod.kin.keeps I.bk
theorem Inv.nolimit (I:Inv X pins σ H s):s.heap.NoLimit:=I.ok.mod.nolimit.keeps I.bk
theorem Inv.fr (I:Inv X pins σ H s):∃ m,Fr X.base X.env.locals s.heap m :=
  let ⟨m,hn,_⟩:=I.loc
  ⟨m,hn,I.bk,Nat.le_trans I.ok.bsz I.ok.above⟩
theorem Inv.lt (I:Inv X pins σ H s):X.env.locals < s.heap.objs.size:=let ⟨_,hn,_⟩:=I.loc;hn.lt
theorem Inv.sz (I:Inv X pins σ H s):X.s₀.heap.objs.size <= s.heap.objs.size:=Nat.le_trans I.ok.above (Nat.le_of_lt I.lt)
theorem Inv.nofs (I:Inv X pins σ H s) {a:Addr} (h:s.heap.objs.size <= a):a ∉ X.fs:=fun hb=>by
  obtain ⟨_,o,ho,_⟩:=I.ok.funs.mem hb
  exact absurd (Nat.lt_of_lt_of_le (Heap.lt_size ho) (Nat.le_trans I.sz h)) (Nat.lt_irrefl _)
theorem Inv.cne (I:Inv X pins σ H s):∀ x c,X.env.cells.lookup x = some c -> c ≠ X.env.locals:=fun x c e z=>by
  obtain ⟨v,o,ho,hd⟩:=I.cell x c e
  obtain ⟨m,⟨o',es,ep,ho',hd',_⟩,_⟩:=I.loc
  rw [z,ho'] at ho;cases ho;rw [hd'] at hd;cases hd
theorem Inv.funs (I:Inv X pins σ H s):s.heap.FunFrames X.base X.outer:=by
  have all:∀ (l:List Env),(∀ b ∈ frs l,b ∈ X.fs) -> X.s₀.heap.FunFrames X.base l -> s.heap.FunFrames X.base l:=by
    intro l
    induction l with
    | nil=>intro _ _;trivial
    | cons env r ih =>
      intro hs hl
      obtain ⟨hk,⟨L,o,hf,hn,ho,hd⟩,hr⟩:=hl
      have hL:L ∈ X.fs:=hs L (by unfold frs;rw [List.filterMap_cons,hf];exact List.mem_cons_self)
      obtain ⟨sl,e⟩:=I.base.slot L o ho (I.ok.frf L hL) hL fun z=>I.ok.exfs L z hL
      exact ⟨hk,⟨L,_,hf,hn,e,hd⟩,ih (fun b hb=>hs b (by unfold frs;rw [List.filterMap_cons,hf];exact List.mem_cons_of_mem _ hb)) hr⟩
  exact all X.outer (fun _ hb=>hb) I.ok.funs
theorem Inv.stack (I:Inv X pins σ H s):s.heap.FunFrames X.base X.stack:=by
  rcases I.ok.stk with e | ⟨e,hf⟩
  . rw [e];exact I.funs
  . rw [e]
    obtain ⟨m,hn,_⟩:=I.loc
    refine .cons (by rw [I.ok.kind];decide) hf hn ?_ I.funs
    exact Heap.get?_none_of_le (Nat.le_trans I.ok.bsz I.ok.above)
theorem Inv.stkSub (I:Inv X pins σ H s):∀ b ∈ frs X.stack,b ∈ X.env.locals :: X.fs:=fun b hb=>by
  rcases I.ok.stk with e | ⟨e,hf⟩
  . rw [e] at hb;exact List.mem_cons_of_mem _ hb
  . rw [e] at hb
    unfold frs at hb
    rw [List.filterMap_cons,hf] at hb
    exact hb
theorem Inv.stkFree (I:Inv X pins σ H s):∀ b ∈ frs X.stack,H b = none:=fun b hb=>by
  rcases List.mem_cons.mp (I.stkSub b hb) with e | hb
  . rw [e];exact I.free
  . obtain ⟨_,o,ho,_⟩:=I.ok.funs.mem hb
    exact I.base.free b o ho (I.ok.frf b hb) fun z=>I.ok.exfs b z hb
theorem Inv.step {g':Array GenState} {t':Nat} {d':Drawn} {ch:List Addr} (I:Inv X pins σ H s)
    (hch:∀ b ∈ ch,(b ∈ X.ex ∨ X.s₀.heap.objs.size <= b) /\ b ≠ X.env.locals /\ (∀ x c,X.env.cells.lookup x = some c -> c ≠ b) /\ ∀ p ∈ X.pn ++ pins,p.1 ≠ b)
    (keep:∀ b o,b ≠ X.env.locals -> b ∉ X.fs -> b ∉ ch -> s.heap.get? b = some o -> H b = none -> h'.get? b = some o)
    (slot:∀ b o,b ≠ X.env.locals -> b ∈ X.fs -> b ∉ ch -> s.heap.get? b = some o -> H b = none -> ∃ sl,h'.get? b = some { o with slots:=sl }) (free:∀ b o,b ∉ ch -> s.heap.get? b = some o -> H b = none -> H' b = none)
    (there:∀ b o,b ∉ ch -> s.heap.get? b = some o -> ∃ o',h'.get? b = some o')
    (tups:∀ b xs,H b = some (.tup xs) -> H' b = some (.tup xs)) (frzs:∀ b o u,H b = some (.frz o u) -> H' b = some (.frz o u)) (tbls:∀ b ps,H b = some (.tbl ps) -> ∃ more,H' b = some (.tbl (ps ++ more)))
    (ns:∀ m,s.heap.Ns X.env.locals m -> h'.Ns X.env.locals m) (hok:HOk X.prog X.w H' h') (hg:AllBare g') :
    Inv X pins σ H' { s with heap:=h',gens:=g',drawn:=d',toks:=t' }:=by
  have neL:∀ b o,X.s₀.heap.get? b = some o -> b ≠ X.env.locals:=fun b o e=>Nat.ne_of_lt (Nat.lt_of_lt_of_le (Heap.lt_size e) I.ok.above)
  have neC:∀ b o,X.s₀.heap.get? b = some o -> b ∉ X.ex -> b ∉ ch:=fun b o e hx hb=>by
    rcases (hch b hb).1 with z | z
    . exact hx z
    . exact absurd (Nat.lt_of_lt_of_le (Heap.lt_size e) z) (Nat.lt_irrefl _)
  have cellK:∀ x c,X.env.cells.lookup x = some c -> ∀ v,s.heap.IsCell c v -> h'.IsCell c v:=fun x c e v ⟨o,ho,hd⟩=>by
    have nch:c ∉ ch:=fun z=>(hch c z).2.2.1 x c e rfl
    by_cases hc:c ∈ X.fs
    . obtain ⟨sl,q⟩:=slot c o (I.cne x c e) hc nch ho (I.freeC x c e)
      exact ⟨_,q,hd⟩
    . exact ⟨o,keep c o (I.cne x c e) hc nch ho (I.freeC x c e),hd⟩
  refine ⟨I.ok,I.os,hg,⟨fun b o e n hb hx=>?_,fun b o e n hb hx=>?_,fun b o e n hx=>?_,fun b o e hx=>?_,fun b xs e=>tups b xs (I.base.tups b xs e),fun b o xs e=>frzs b o xs (I.base.frzs b o xs e),fun b ps e=>?_⟩,?_,fun x c e=>?_,?_,fun x c e=>?_,fun p hp=>?_,hok,I.len⟩
  . exact keep b o (neL b o e) hb (neC b o e hx) (I.base.keep b o e n hb hx) (I.base.free b o e n hx)
  . obtain ⟨sl,e1⟩:=I.base.slot b o e n hb hx
    obtain ⟨sl',e2⟩:=slot b _ (neL b o e) hb (neC b o e hx) e1 (I.base.free b o e n hx)
    exact ⟨sl',e2⟩
  . obtain ⟨o',e1⟩:=I.base.there b o e hx
    exact free b o' (neC b o e hx) e1 (I.base.free b o e n hx)
  . obtain ⟨o',e1⟩:=I.base.there b o e hx
    exact there b o' (neC b o e hx) e1
  . obtain ⟨m1,e1⟩:=I.base.tbls b ps e
    obtain ⟨m2,e2⟩:=tbls b _ e1
    exact ⟨m1 ++ m2,by rw [e2,Array.append_assoc]⟩
  . obtain ⟨m,hn,hl⟩:=I.loc
    refine ⟨m,ns m hn,fun i x v e1 e2 e3=>?_⟩
    obtain ⟨u,r,l⟩:=hl i x v e1 e2 e3
    refine ⟨u,r,?_⟩
    rcases l with l | ⟨k,c,e,z⟩
    . exact .inl l
    . exact .inr ⟨k,c,e,cellK x c e _ z⟩
  . obtain ⟨v,z⟩:=I.cell x c e
    exact ⟨v,cellK x c e v z⟩
  . obtain ⟨m,⟨o,_,_,ho,_⟩,_⟩:=I.loc
    exact free _ o (fun z=>(hch _ z).2.1 rfl) ho I.free
  . obtain ⟨v,o,ho,hd⟩:=I.cell x c e
    exact free c o (fun z=>(hch c z).2.2.1 x c e rfl) ho (I.freeC x c e)
  . obtain ⟨e,n,ne,nf,d⟩:=I.pin p hp
    have nch:p.1 ∉ ch:=fun z=>(hch p.1 z).2.2.2 p hp rfl
    exact ⟨keep p.1 p.2 ne nf nch e n,free p.1 p.2 nch e n,ne,nf,d⟩
theorem Inv.un {t':Nat} (I:Inv X pins σ H s) (u:Un X.fs [] H H' s.heap h') (hok:HOk X.prog X.w H' h'):Inv X pins σ H' { s with heap:=h',toks:=t' }:=by
  obtain ⟨m,⟨o,es,ep,ho,r⟩,_⟩:=id I.loc
  obtain ⟨sl,hL⟩:=u.any ho I.free (by simp)
  exact I.step (g':=s.gens) (d':=s.drawn) (ch:=[]) (fun _ z=>nomatch z) (fun b o _ hb _ e n=>u.keep b o e n hb (by simp)) (fun b o _ hb _ e n=>u.slot b o e n hb (by simp)) (fun b o _ e n=>u.free b o e n (by simp)) (fun b o _ e=>u.there b o e (by simp)) u.tups u.frzs u.tbls (fun m' hm=>by
    obtain ⟨o',es',ep',ho',r'⟩:=hm
    rw [ho] at ho';cases ho'
    exact ⟨_,es',ep',hL,r'⟩) hok I.bare
theorem Inv.call {g':Array GenState} {t':Nat} {d':Drawn} {ch:List Addr} (I:Inv X pins σ H s) (u:Un (frs X.stack) ch H H' s.heap h') (hok:HOk X.prog X.w H' h') (hg:AllBare g')
    (hch:∀ b ∈ ch,(b ∈ X.ex ∨ X.s₀.heap.objs.size <= b) /\ b ≠ X.env.locals /\ (∀ x c,X.env.cells.lookup x = some c -> c ≠ b) /\ ∀ p ∈ X.pn ++ pins,p.1 ≠ b) :
    Inv X pins σ H' { s with heap:=h',gens:=g',drawn:=d',toks:=t' }:=by
  obtain ⟨m,⟨o,es,ep,ho,r⟩,_⟩:=id I.loc
  obtain ⟨sl,hL⟩:=u.any ho I.free fun z=>(hch _ z).2.1 rfl
  exact I.step (ch:=ch) hch (fun b o hL hb hc e n=>u.keep b o e n (fun z=>(List.mem_cons.mp (I.stkSub b z)).elim hL hb) hc) (fun b o _ _ hc e n=>u.any e n hc) (fun b o hc e n=>u.free b o e n hc) (fun b o hc e=>u.there b o e hc) u.tups u.frzs u.tbls (fun m' hm=>by
    obtain ⟨o',es',ep',ho',r'⟩:=hm
    rw [ho] at ho';cases ho'
    exact ⟨_,es',ep',hL,r'⟩) hok hg
theorem Inv.turned {t':Nat} {it:Addr} (I:Inv X pins σ H s) (k:∀ b o,b ≠ it -> s.heap.get? b = some o -> h'.get? b = some o) (hn:H it = none) (hL:it ≠ X.env.locals)
    (h1:it ∈ X.ex ∨ X.s₀.heap.objs.size <= it) (h2:∀ x c,X.env.cells.lookup x = some c -> c ≠ it) (h3:∀ p ∈ X.pn ++ pins,p.1 ≠ it):Inv X pins σ H { s with heap:=h',toks:=t' }:=by
  have nit:∀ b u,H b = some u -> b ≠ it:=fun b u e z=>by rw [z,hn] at e;cases e
  refine I.step (g':=s.gens) (d':=s.drawn) (ch:=[it]) (fun b hb=>?_) (fun b o _ _ hc e _=>k b o (fun z=>hc (by simp [z])) e) (fun b o _ _ hc e _=>⟨o.slots,k b o (fun z=>hc (by simp [z])) e⟩) (fun _ _ _ _ n=>n)
    (fun b o hc e=>⟨o,k b o (fun z=>hc (by simp [z])) e⟩) (fun _ _ e=>e) (fun _ _ _ e=>e) (fun b ps e=>⟨#[],by rw [e];simp⟩) (fun m hm=>?_) (fun b u e=>?_) I.bare
  . have e:b = it:=by simpa using hb
    subst e
    exact ⟨h1,hL,h2,h3⟩
  . obtain ⟨o,es,ep,ho,r⟩:=hm
    exact ⟨o,es,ep,k _ o (Ne.symm hL) ho,r⟩
  . refine (I.hok b u e).stay (fun c v hc q=>k c v ?_ q) (fun _ q=>q) fun _ _ q=>q
    rcases hc with z | z
    . rw [z];exact nit b u e
    . exact nit c _ z
theorem Inv.tok (I:Inv X pins σ H s) (t:Nat):Inv X pins σ H { s with toks:=t }:=I.un (h':=s.heap) (t':=t) Un.refl I.hok
theorem Inv.kept {t':Nat} (I:Inv X pins σ H s) (k:∀ b u,s.heap.get? b = some u -> h'.get? b = some u):Inv X pins σ H { s with heap:=h',toks:=t' }:=I.un (Un.kept k) (I.hok.kept k)
theorem Inv.laid {a:Addr} {o:HO} {t':Nat} (I:Inv X pins σ H s) (k:∀ b u,s.heap.get? b = some u -> h'.get? b = some u) (hp:s.heap.objs.size <= a) (new:ObjOk X.prog X.w (upd H a o) h' a o) :
    Inv X pins σ (upd H a o) { s with heap:=h',toks:=t' }:=I.un (Un.laid k hp (I.hok.fresh hp)) (I.hok.laid k hp new)
theorem Inv.write {x e:Addr} {o:HO} {t':Nat} (I:Inv X pins σ H s) (mu:Mut (H x)) (he:e = x ∨ H e = some (.own x)) (k:∀ b u,b ≠ e -> s.heap.get? b = some u -> h'.get? b = some u) (heo:∃ u,h'.get? e = some u)
    (new:ObjOk X.prog X.w (upd H x o) h' x o):Inv X pins σ (upd H x o) { s with heap:=h',toks:=t' }:=I.un (Un.write mu he k heo) (I.hok.write mu he k heo new)
theorem Inv.pins_of {pins':List (Addr × Obj)} (I:Inv X pins σ H s) (h:∀ p ∈ pins',s.heap.get? p.1 = some p.2 /\ H p.1 = none /\ p.1 ≠ X.env.locals /\ p.1 ∉ X.fs /\ ∀ v,p.2.data ≠ .cell v):Inv X pins' σ H s :=
  ⟨I.ok,I.os,I.bare,I.base,I.loc,I.cell,I.free,I.freeC,fun p hp=>(List.mem_append.mp hp).elim (fun z=>I.pin p (List.mem_append_left _ z)) (h p),I.hok,I.len⟩
theorem Gc {N:List Str} (hN:N.Nodup) {i j:Nat} {x:Str} (a:N[i]? = some x) (b:N[j]? = some x):i = j:=by
  obtain ⟨h1,e1⟩:=List.getElem?_eq_some_iff.mp a
  obtain ⟨h2,e2⟩:=List.getElem?_eq_some_iff.mp b
  exact (List.getElem_inj hN).mp (e1.trans e2.symm)
theorem VC {M:Model} {A:Around} {E:Value -> Shared -> Prop} {i:Nat} {x:Str} {v:V} {u:Value} {Q:Unit -> Shared -> Prop} (I:Inv X pins σ H s) (hN:X.N.Nodup) (hi:X.N[i]? = some x) (hx:Loc X.env.scope x) (r:RelV v u)
    (h:∀ s',Inv X pins (σ.set i (some v)) H s' -> (∃ a,Heap.SameBut a s.heap s'.heap /\ (a = X.env.locals ∨ X.env.cells.lookup x = some a)) -> Q () s') (hf:X.fn x = true ∨ X.env.scope.names.lookup x = some .local:=by first | exact .inl rfl | exact .inr rfl | assumption):wpAny M A (storeName X.env x u) Q E s:=by
  obtain ⟨m,hn,hl⟩:=id I.loc
  have hcls:(X.env.scope.kind == .class || (X.env.scope.kind == .module && X.env.locals != X.env.globals)) = false:=by rw [I.ok.kind];rfl
  have hiσ:i < σ.length:=by rw [I.len];exact (List.getElem?_eq_some_iff.mp hi).1
  have cne:=I.cne
  have tracked:∀ {a:Addr} {h':Heap},(∃ o,s.heap.get? a = some o /\ H a = none) -> Heap.SameBut a s.heap h' -> HOk X.prog X.w H h':=fun {a h'} ha hs b ob e=>by
    obtain ⟨_,_,hfree⟩:=ha
    refine (I.hok b ob e).stay (fun c w' hc q=>(hs.2 c ?_).trans q) (fun _ q=>q) fun _ _ q=>q
    rintro rfl
    rcases hc with rfl | hc
    . rw [hfree] at e;cases e
    . rw [hfree] at hc;cases hc
  rcases hx with hk | hk
  . refine wpAny_storeName_local hk hn (fun h' hn' hs=>?_) hcls
    obtain ⟨oL,_,_,hoL,_⟩:=id hn
    refine h _ ⟨I.ok,I.os,I.bare,⟨fun b o e n hb hx=>?_,fun b o e n hb hx=>?_,I.base.free,fun b o e hx=>?_,I.base.tups,I.base.frzs,I.base.tbls⟩,⟨_,hn',fun j y v' e1 e2 e3=>?_⟩,fun y c e=>?_,I.free,I.freeC,fun p hp=>?_,tracked ⟨oL,hoL,I.free⟩ hs,by simpa using I.len⟩ ⟨_,hs,.inl rfl⟩
    . exact (hs.2 b (Nat.ne_of_lt (Nat.lt_of_lt_of_le (Heap.lt_size e) I.ok.above))).trans (I.base.keep b o e n hb hx)
    . obtain ⟨sl,e1⟩:=I.base.slot b o e n hb hx
      exact ⟨sl,(hs.2 b (Nat.ne_of_lt (Nat.lt_of_lt_of_le (Heap.lt_size e) I.ok.above))).trans e1⟩
    . obtain ⟨o',e1⟩:=I.base.there b o e hx
      exact ⟨o',(hs.2 b (Nat.ne_of_lt (Nat.lt_of_lt_of_le (Heap.lt_size e) I.ok.above))).trans e1⟩
    . by_cases hj:j = i
      . subst hj
        rw [hi] at e1;cases e1
        rw [List.getElem?_set_self hiσ] at e2
        cases e2
        exact ⟨u,r,.inl ⟨hk,by simp⟩⟩
      . rw [List.getElem?_set_ne (Ne.symm hj)] at e2
        obtain ⟨u',r',q⟩:=hl j y v' e1 e2 e3
        refine ⟨u',r',?_⟩
        rcases q with ⟨k,e⟩ | ⟨k,c,e,z⟩
        . refine .inl ⟨k,?_⟩
          have:y ≠ x:=fun e=>hj (Gc hN e1 (e ▸ hi))
          simp [this,e]
        . exact .inr ⟨k,c,e,z.sameBut hs (cne y c e)⟩
    . obtain ⟨w',z⟩:=I.cell y c e
      exact ⟨w',z.sameBut hs (cne y c e)⟩
    . obtain ⟨e,n,ne,nf,d⟩:=I.pin p hp
      exact ⟨(hs.2 p.1 ne).trans e,n,ne,nf,d⟩
  . have hfn:X.fn x = true:=by
      rcases hf with z | z
      . exact z
      . rw [z] at hk;cases hk
    obtain ⟨c,hc⟩:=I.ok.has x (.inl hk)
    obtain ⟨w',z⟩:=I.cell x c hc
    refine wpAny_storeName_cell I.ok.kind hk hc z (fun h' hc' hs=>?_)
    obtain ⟨oc,hoc,hocd⟩:=id z
    refine h { s with heap:=h' } ⟨I.ok,I.os,I.bare,⟨fun b o e n hb hx=>?_,fun b o e n hb hx=>?_,I.base.free,fun b o e hx=>?_,I.base.tups,I.base.frzs,I.base.tbls⟩,⟨m,hn.sameBut hs (Ne.symm (cne x c hc)),fun j y v' e1 e2 e3=>?_⟩,fun y c' e=>?_,I.free,I.freeC,fun p hp=>?_,tracked ⟨oc,hoc,I.freeC x c hc⟩ hs,by simpa using I.len⟩ ⟨c,hs,.inr hc⟩
    . exact (hs.2 b (Nat.ne_of_lt (Nat.lt_of_lt_of_le (Heap.lt_size e) (I.ok.cab x c hfn hc)))).trans (I.base.keep b o e n hb hx)
    . obtain ⟨sl,e1⟩:=I.base.slot b o e n hb hx
      exact ⟨sl,(hs.2 b (Nat.ne_of_lt (Nat.lt_of_lt_of_le (Heap.lt_size e) (I.ok.cab x c hfn hc)))).trans e1⟩
    . obtain ⟨o',e1⟩:=I.base.there b o e hx
      exact ⟨o',(hs.2 b (Nat.ne_of_lt (Nat.lt_of_lt_of_le (Heap.lt_size e) (I.ok.cab x c hfn hc)))).trans e1⟩
    . by_cases hj:j = i
      . subst hj
        rw [hi] at e1;cases e1
        rw [List.getElem?_set_self hiσ] at e2
        cases e2
        exact ⟨u,r,.inr ⟨.inl hk,c,hc,hc'⟩⟩
      . rw [List.getElem?_set_ne (Ne.symm hj)] at e2
        obtain ⟨u',r',q⟩:=hl j y v' e1 e2 e3
        refine ⟨u',r',?_⟩
        rcases q with q | ⟨k,c',e,z'⟩
        . exact .inl q
        . refine .inr ⟨k,c',e,z'.sameBut hs ?_⟩
          rintro rfl
          exact hj (Gc hN e1 (I.ok.inj _ _ _ e hc ▸ hi))
    . by_cases hcc:c' = c
      . subst hcc;exact ⟨_,hc'⟩
      . obtain ⟨w2,z2⟩:=I.cell y c' e
        exact ⟨w2,z2.sameBut hs hcc⟩
    . obtain ⟨e,n,ne,nf,d⟩:=I.pin p hp
      refine ⟨(hs.2 p.1 ?_).trans e,n,ne,nf,d⟩
      intro q
      rw [q,hoc] at e
      have q':oc = p.2:=Option.some.inj e
      exact d w' (by rw [<- q'];exact hocd)
theorem yu {M:Model} {A:Around} {E:Value -> Shared -> Prop} {i:Nat} {x:Str} {v:V} {u:Value} {Q:Unit -> Shared -> Prop} (I:Inv X pins σ H s) (hN:X.N.Nodup) (hi:X.N[i]? = some x) (hx:Loc X.env.scope x) (r:RelV v u)
    (h:∀ s',Inv X pins (σ.set i (some v)) H s' -> Q () s') (hf:X.fn x = true ∨ X.env.scope.names.lookup x = some .local:=by first | exact .inl rfl | exact .inr rfl | assumption):wpAny M A (storeName X.env x u) Q E s :=
  VC I hN hi hx r (fun s' I' _=>h s' I') hf
theorem Inv.call' {s':Shared} {ch:List Addr} (I:Inv X pins σ H s) (ho:s'.os = s.os) (u:Un (frs X.stack) ch H H' s.heap s'.heap) (hok:HOk X.prog X.w H' s'.heap) (hg:AllBare s'.gens)
    (hch:∀ b ∈ ch,(b ∈ X.ex ∨ X.s₀.heap.objs.size <= b) /\ b ≠ X.env.locals /\ (∀ x c,X.env.cells.lookup x = some c -> c ≠ b) /\ ∀ p ∈ X.pn ++ pins,p.1 ≠ b):Inv X pins σ H' s':=by
  obtain ⟨h',g',d',t',o'⟩:=s'
  have e:o' = s.os:=ho
  subst e
  exact I.call (g':=g') (t':=t') (d':=d') u hok hg hch
end
abbrev XK:=Value -> Option Addr -> Hp -> Prop
abbrev St:=List (Option V)
abbrev VK:=V -> Hp -> Prop
abbrev TE:=St -> Hp -> VK -> Prop
abbrev TT:=St -> Hp -> (Bool -> Hp -> Prop) -> Prop
abbrev TA:=St -> Hp -> (List V -> Hp -> Prop) -> Prop
structure yZ where
  nx:St -> Hp -> Prop
  rt:VK
  bk:St -> Hp -> Prop:=fun _ _=>False
  ct:St -> Hp -> Prop:=fun _ _=>False
abbrev TS:=yZ -> St -> Hp -> Prop
def EP (X:Cx) (pins:List (Addr × Obj)) (σ:St) (Q:VK) (u:Value) (s':Shared):Prop:=∃ v H',Inv X pins σ H' s' /\ RelV v u /\ Q v H'
def TP (X:Cx) (pins:List (Addr × Obj)) (σ:St) (Q:Bool -> Hp -> Prop) (b:Bool) (s':Shared):Prop:=∃ H',Inv X pins σ H' s' /\ Q b H'
def AP (X:Cx) (pins:List (Addr × Obj)) (σ:St) (Q:List V -> Hp -> Prop) (us:List Value) (s':Shared):Prop:=∃ vs H',Inv X pins σ H' s' /\ Vals vs us /\ Q vs H'
def SP (X:Cx) (pins:List (Addr × Obj)) (D:yZ) (f:Flow) (s':Shared):Prop :=
  match f with
  | .next=>∃ σ' H',Inv X pins σ' H' s' /\ D.nx σ' H'
  | .brk=>∃ σ' H',Inv X pins σ' H' s' /\ D.bk σ' H'
  | .cont=>∃ σ' H',Inv X pins σ' H' s' /\ D.ct σ' H'
  | .ret u=>∃ v σ' H',Inv X pins σ' H' s' /\ RelV v u /\ D.rt v H'
def PE (X:Cx) (e:Expr) (t:TE):Prop :=
  ∀ (pins:List (Addr × Obj)) (s:Shared) (σ:St) (H:Hp) (Q:VK),Inv X pins σ H s -> t σ H Q -> wpAny (model X.prog X.w) X.A (eval e X.env) (EP X pins σ Q) X.xe s
def PT (X:Cx) (e:Expr) (t:TT):Prop :=
  ∀ (pins:List (Addr × Obj)) (s:Shared) (σ:St) (H:Hp) (Q:Bool -> Hp -> Prop),Inv X pins σ H s -> t σ H Q -> wpAny (model X.prog X.w) X.A (isTrue e X.env (eval e X.env)) (TP X pins σ Q) X.xe s
def PW (X:Cx) (e:Expr) (t:TT):Prop :=
  ∀ (whole:Sem Value) (pins:List (Addr × Obj)) (s:Shared) (σ:St) (H:Hp) (Q:Bool -> Hp -> Prop),Inv X pins σ H s -> t σ H Q -> wpAny (model X.prog X.w) X.A (isTrue e X.env whole) (TP X pins σ Q) X.xe s
theorem PW.pt {X:Cx} {e:Expr} {t:TT} (h:PW X e t):PT X e t:=h _
def PA (X:Cx) (es:List Expr) (t:TA):Prop :=
  ∀ (pos:Pos) (pins:List (Addr × Obj)) (s:Shared) (σ:St) (H:Hp) (Q:List V -> Hp -> Prop),Inv X pins σ H s -> t σ H Q -> wpAny (model X.prog X.w) X.A (spliced (backTo pos (starEach es X.env))) (AP X pins σ Q) X.xe s
def PS (X:Cx) (st:Stmt) (t:TS):Prop :=
  ∀ (pins:List (Addr × Obj)) (s:Shared) (σ:St) (H:Hp) (D:yZ),Inv X pins σ H s -> t D σ H -> wpAny (model X.prog X.w) X.A (exec st X.env) (SP X pins D) X.xe s
def PSs (X:Cx) (st:List Stmt) (t:TS):Prop :=
  ∀ (pins:List (Addr × Obj)) (s:Shared) (σ:St) (H:Hp) (D:yZ),Inv X pins σ H s -> t D σ H -> wpAny (model X.prog X.w) X.A (execs st X.env) (SP X pins D) X.xe s
theorem thn {α:Type} {t:Sem α} {Q Q':α -> Shared -> Prop} {M:Model} {A:Around} {E:Value -> Shared -> Prop} {s:Shared} (h:wpAny M A t Q E s) (hQ:∀ a s,Q a s -> Q' a s):wpAny M A t Q' E s:=wpAny_mono h hQ fun _ _ x=>x
end L2
namespace L2
open PySem PySem.Spec PyProof.Rows
section
variable {X:Cx}
theorem bin {a b:Expr} {ta tb:TE} (ha:PE X a ta) (hb:PE X b tb) {pins:List (Addr × Obj)} {s:Shared} {σ:St} {H:Hp} {R:V -> V -> Hp -> Prop} (I:Inv X pins σ H s) (h:ta σ H fun x H1=>tb σ H1 fun y H2=>R x y H2)
    {α:Type} {Q:α -> Shared -> Prop} {f:Value -> Value -> Sem α}
    (hf:∀ v u s2 x y H2,Inv X pins σ H2 s2 -> RelV x v -> RelV y u -> R x y H2 -> wpAny (model X.prog X.w) X.A (f v u) Q X.xe s2) :
    wpAny (model X.prog X.w) X.A (eval a X.env) (fun v s₁=>wpAny (model X.prog X.w) X.A (eval b X.env) (fun u s₂=>wpAny (model X.prog X.w) X.A (f v u) Q X.xe s₂) X.xe s₁) X.xe s:=by
  refine thn (ha pins s σ H _ I h) fun v s1 ⟨x,H1,I1,r1,q1⟩=>?_
  refine thn (hb pins s1 σ H1 _ I1 q1) fun u s2 ⟨y,H2,I2,r2,q2⟩=>?_
  exact hf v u s2 x y H2 I2 r1 r2 q2
def QfR (i:Nat):TE:=fun σ H Q=>∃ v,σ[i]? = some (some v) /\ Q v H
def tC (v:V):TE:=fun _ H Q=>Q v H
theorem Qba {i:Nat} {x:Str} {pos:Pos} (hN:X.N[i]? = some x) (hv:Vis X.env.scope x) (hd:(x == ("__debug__" : Str)) = false:=by decide) (hcd:(x == ("__classdict__" : Str)) = false:=by decide):PE X (.Name x pos) (QfR i):=by
  intro pins s σ H Q I h
  obtain ⟨v,e,h⟩:=h
  obtain ⟨m,hn,hl⟩:=I.loc
  obtain ⟨u,r,l⟩:=hl i x v hN e hv
  have fin:EP X pins σ Q u s:=⟨v,H,I,r,h⟩
  rcases l with ⟨hk,hm⟩ | ⟨hk,c,hc,hcell⟩
  . exact wpAny_Name (wpAny_loadName_local I.ok.kind hk hn hm fin) hd
  . rcases hk with hk | hk
    . exact wpAny_Name (wpAny_loadName_cell I.ok.kind hk hc hcell fin) hd
    . exact wpAny_Name (wpAny_loadName_free I.ok.kind hk hc hcell fin hcd) hd
theorem Qak {i j pos}:PE X (.Constant (.int i) j pos) (tC (.int i)):=fun _ _ _ H _ I h=>wpAny_Constant_int ⟨.int i,H,I.tok _,⟨_,rfl⟩,h⟩
theorem QeM {b j pos}:PE X (.Constant (.bool b) j pos) (tC (.bl b)):=fun _ _ _ H _ I h=>Constant_bool ⟨.bl b,H,I,rfl,h⟩
theorem QdV {j pos}:PE X (.Constant .none j pos) (tC .non):=fun _ _ _ H _ I h=>Constant_none ⟨.non,H,I,rfl,h⟩
theorem QdZ {x j pos}:PE X (.Constant (.str x) j pos) (tC (.str x)):=fun _ _ _ H _ I h=>Calls.Constant_str ⟨.str x,H,I.tok _,⟨_,rfl⟩,h⟩
def Gl (X:Cx) (x:Str):Prop:=X.env.kindOf x = some .globalImplicit
theorem UX {E:Value -> Shared -> Prop} {pins:List (Addr × Obj)} {s:Shared} {σ:St} {H:Hp} {x:Str} {u:Value} {pos:Pos} {Q:Value -> Shared -> Prop} (I:Inv X pins σ H s) (hg:Gl X x) (hm:X.mg x = some u) (h:Q u s)
    (hd:(x == ("__debug__" : Str)) = false:=by decide):wpAny (model X.prog X.w) X.A (eval (.Name x pos) X.env) Q E s :=
  Calls.Name_function_global I.ok.kind hg (Calls.loadGlobal_global (by rw [I.ok.glob];exact I.mod.glob.keeps I.bk) hm h) hd
theorem Xh {E:Value -> Shared -> Prop} {pins:List (Addr × Obj)} {s:Shared} {σ:St} {H:Hp} {x:Str} {u:Value} {pos:Pos} {Q:Value -> Shared -> Prop} (I:Inv X pins σ H s) (hg:Gl X x) (hm:X.mg x = none) (hv:bootBuiltins x = some u) (h:Q u s)
    (hn:x ≠ "__name__" := by decide) (hd:(x == ("__debug__" : Str)) = false:=by decide):wpAny (model X.prog X.w) X.A (eval (.Name x pos) X.env) Q E s:=by
  obtain ⟨mb,h1,h2⟩:=I.mod.blt
  exact Calls.Name_function_global I.ok.kind hg (Calls.loadGlobal_builtin (by rw [I.ok.glob];exact I.mod.glob.keeps I.bk) hm (by rw [I.ok.blt];exact h1.keeps I.bk) ((h2 x hn).trans hv) h) hd
theorem gb {x:Str} {v:V} {u:Value} {pos:Pos} (hg:Gl X x) (hm:X.mg x = some u) (r:RelV v u) (hd:(x == ("__debug__" : Str)) = false:=by decide):PE X (.Name x pos) (tC v) :=
  fun _ _ _ H _ I h=>UX I hg hm ⟨v,H,I,r,h⟩ hd
variable {a b:Expr} {ta tb:TE} {pos:Pos}
def PC (X:Cx) (op:CmpOp) (a b:Expr) (t:TE):Prop :=
  ∀ (pins : List (Addr × Obj)) (s : Shared) (σ : St) (H : Hp) (Q : VK), Inv X pins σ H s -> t σ H Q ->
    wpAny (model X.prog X.w) X.A (eval a X.env) (fun v s₁=>wpAny (model X.prog X.w) X.A (eval b X.env) (fun u s₂=>wpAny (model X.prog X.w) X.A (compareOp op v u) (EP X pins σ Q) X.xe s₂) X.xe s₁) X.xe s
theorem QbE (b:Expr) {op:CmpOp} (h:op ≠ .In) (h2:op ≠ .NotIn):behindInMarks op b = false:=by
  have e1:(op == CmpOp.In) = false:=by cases op <;> first | rfl | exact absurd rfl h
  have e2:(op == CmpOp.NotIn) = false:=by cases op <;> first | rfl | exact absurd rfl h2
  cases b <;> simp [behindInMarks,e1,e2]
def tB (t:TE):TT:=fun σ H Q=>t σ H fun x H1=>∃ c,x = .bl c /\ Q c H1
theorem QfL {op:CmpOp} {t:TE} (h:PC X op a b t) (h1:behindInMarks op b = false:=by first | exact QbE _ (by decide) (by decide) | rfl):PT X (.Compare a [op] [b] pos) (tB t):=by
  intro pins s σ H Q I hw
  refine wpAny_isTrue_Compare1 (thn (h pins s σ H _ I hw) fun v s1 h1=>thn h1 fun u s2 h2=>thn h2 fun c s3 ⟨x,H1,I1,r1,q1⟩=>?_) h1
  obtain ⟨d,rfl,q⟩:=q1
  cases r1
  exact wpAny_truthy_bool ⟨H1,I1,q⟩
theorem Qeg {e:Expr} {t:TE} (h:PE X e t) (he:∀ whole,isTrue e X.env whole = (do let v <- whole;standAt e.pos;holding [v] (truthy v)):=by intro _;rfl):PT X e (tB t):=by
  intro pins s σ H Q I hw
  refine isTrue_plain (thn (h pins s σ H _ I hw) fun v s1 ⟨x,H1,I1,r1,q1⟩=>?_) (he _)
  obtain ⟨d,rfl,q⟩:=q1
  cases r1
  exact wpAny_truthy_bool ⟨H1,I1,q⟩
variable {tA tB':TT} {rest:List Expr}
def QfS (t u:TT):TT:=fun σ H Q=>t σ H fun c H1=>if c = true then u σ H1 Q else Q false H1
def tOr (t u:TT):TT:=fun σ H Q=>t σ H fun c H1=>if c = true then Q true H1 else u σ H1 Q
def Qfp (t:TT):TT:=fun σ H Q=>t σ H fun c H1=>Q (!c) H1
theorem Qcj (ha:PT X a tA):PW X (.BoolOp .And [a] pos) tA:=by
  intro wh pins s σ H Q I h
  refine isTrue_and (thn (ha pins s σ H Q I h) fun c s1 e=>?_)
  cases c with
  | true=>exact isTrue_and_nil e
  | false=>exact e
theorem Qeo (ha:PT X a tA):PW X (.BoolOp .Or [a] pos) tA:=by
  intro wh pins s σ H Q I h
  refine isTrue_or (thn (ha pins s σ H Q I h) fun c s1 e=>?_)
  cases c with
  | false=>exact isTrue_or_nil e
  | true=>exact e
theorem Qeb (ha:PT X a tA) (hb:PW X (.BoolOp .And (b :: rest) pos) tB'):PW X (.BoolOp .And (a :: b :: rest) pos) (QfS tA tB'):=by
  intro wh pins s σ H Q I h
  refine isTrue_and (thn (ha pins s σ H _ I h) fun c s1 ⟨H1,I1,q1⟩=>?_)
  cases c with
  | true=>exact hb wh pins s1 σ H1 Q I1 q1
  | false=>exact ⟨H1,I1,q1⟩
theorem Qfg (ha:PT X a tA) (hb:PW X (.BoolOp .Or (b :: rest) pos) tB'):PW X (.BoolOp .Or (a :: b :: rest) pos) (tOr tA tB'):=by
  intro wh pins s σ H Q I h
  refine isTrue_or (thn (ha pins s σ H _ I h) fun c s1 ⟨H1,I1,q1⟩=>?_)
  cases c with
  | true=>exact ⟨H1,I1,q1⟩
  | false=>exact hb wh pins s1 σ H1 Q I1 q1
theorem QdG (ha:PT X a tA):PT X (.UnaryOp .Not a pos) (Qfp tA):=by
  intro pins s σ H Q I h
  exact isTrue_not (ha pins s σ H (fun c H1=>Q (!c) H1) I h)
def Qfi (ta tb:TE):TE:=fun σ H Q=>ta σ H fun x H1=>∃ c,x = .bl c /\ if c = true then tb σ H1 Q else Q (.bl false) H1
def Qft (ta tb:TE):TE:=fun σ H Q=>ta σ H fun x H1=>∃ c,x = .bl c /\ if c = true then Q (.bl true) H1 else tb σ H1 Q
theorem Qdu {op} {t:TE} (h:PE X a t):PE X (.BoolOp op [a] pos) t:=fun pins s σ H Q I hw=>BoolOp_one (h pins s σ H Q I hw)
theorem Qdx (ha:PE X a ta) (hb:PE X (.BoolOp .And (b :: rest) pos) tb):PE X (.BoolOp .And (a :: b :: rest) pos) (Qfi ta tb):=by
  intro pins s σ H Q I h
  refine BoolOp_and (thn (ha pins s σ H _ I h) fun v s1 ⟨x,H1,I1,r1,q1⟩=>?_)
  obtain ⟨c,rfl,q1⟩:=q1
  cases r1
  refine wpAny_truthy_bool ?_
  cases c with
  | true=>exact hb pins s1 σ H1 Q I1 q1
  | false=>exact ⟨.bl false,H1,I1,rfl,q1⟩
theorem Qe1 (ha:PE X a ta) (hb:PE X (.BoolOp .Or (b :: rest) pos) tb):PE X (.BoolOp .Or (a :: b :: rest) pos) (Qft ta tb):=by
  intro pins s σ H Q I h
  refine BoolOp_or (thn (ha pins s σ H _ I h) fun v s1 ⟨x,H1,I1,r1,q1⟩=>?_)
  obtain ⟨c,rfl,q1⟩:=q1
  cases r1
  refine wpAny_truthy_bool ?_
  cases c with
  | false=>exact hb pins s1 σ H1 Q I1 q1
  | true=>exact ⟨.bl true,H1,I1,rfl,q1⟩
def tIf (t:TT) (ta tb:TE):TE:=fun σ H Q=>t σ H fun c H1=>if c = true then ta σ H1 Q else tb σ H1 Q
theorem Qbg {c:Expr} (hc:PT X c tA) (ha:PE X a ta) (hb:PE X b tb):PE X (.IfExp c a b pos) (tIf tA ta tb):=by
  intro pins s σ H Q I h
  refine wpAny_IfExp (thn (hc pins s σ H _ I h) fun d s1 ⟨H1,I1,q1⟩=>?_)
  cases d with
  | true=>exact ha pins s1 σ H1 Q I1 q1
  | false=>exact hb pins s1 σ H1 Q I1 q1
end
end L2
namespace L2
open PySem PySem.Spec PyProof.Rows
def SqL (K:PySem.W.Frag) (H:Hp) (a:Addr) (xs:List V):Prop :=
  Rd H a (.lst xs) ∨
    ∃ (o:Obj) (its:Array Value) (n:Nat),K.lookup a = some o /\ o.cls = .type "list" /\ o.dict = none /\ o.data = .seq its n /\ its.size <= sizeLine /\ Vals xs its.toList
def SqT (K:PySem.W.Frag) (H:Hp) (a:Addr) (xs:List V):Prop :=
  Rd H a (.tup xs) ∨
    ∃ (o:Obj) (its:Array Value) (n:Nat),K.lookup a = some o /\ o.cls = .type "tuple" /\ o.data = .seq its n /\ its.size <= sizeLine /\ Vals xs its.toList
def Qfn:Value -> Option V
  | .none=>some .non
  | .bool b=>some (.bl b)
  | .int i _=>some (.int i)
  | .str x _=>some (.str x)
  | .bytes b _=>some (.byt b)
  | .float b _=>some (.flt b)
  | .ref a=>some (.ref a)
  | .type n=>some (.ty n)
  | _=>none
theorem RelV.abs {x:V} {u:Value} (r:RelV x u):Qfn u = some x:=by
  cases x with
  | non=>cases r;rfl
  | bl _=>cases r;rfl
  | int _=>obtain ⟨t,rfl⟩:=r;rfl
  | str _=>obtain ⟨t,rfl⟩:=r;rfl
  | byt _=>obtain ⟨t,rfl⟩:=r;rfl
  | flt _=>obtain ⟨t,rfl⟩:=r;rfl
  | ref _=>cases r;rfl
  | ty _=>cases r;rfl
theorem RelV.inj {x y:V} {u:Value} (r:RelV x u) (q:RelV y u):x = y:=Option.some.inj (r.abs.symm.trans q.abs)
theorem Vals.inj:∀ {xs ys:List V} {us:List Value},Vals xs us -> Vals ys us -> xs = ys
  | _,_,_,.nil,.nil=>rfl
  | _,_,_,.cons r t,.cons r' t'=>by rw [r.inj r',Vals.inj t t']
section
variable {X:Cx} {pins:List (Addr × Obj)} {σ:St} {H:Hp} {s:Shared} {a:Addr} {xs ys:List V}
theorem SqL.of {K:PySem.W.Frag} (h:H a = some (.lst xs)):SqL K H a xs:=.inl (.inl h)
theorem SqT.of {K:PySem.W.Frag} (h:H a = some (.tup xs)):SqT K H a xs:=.inl (.inl h)
theorem Inv.list (I:Inv X pins σ H s) (h:SqL X.K H a xs):∃ its:List Value,Vals xs its /\ PlainL s.heap a its.toArray /\ xs.length <= sizeLine:=by
  rcases h with h | ⟨o,its,n,hk,hc,hd,hs,hz,r⟩
  . obtain ⟨z,its,n,r,e⟩:=h.ok I.hok
    exact ⟨its,r,⟨_,n,e,rfl,rfl,rfl⟩,z⟩
  . refine ⟨its.toList,r,⟨o,n,I.kIn a o hk,hc,hd,by simpa using hs⟩,?_⟩
    have e:=r.length
    simp only [Array.length_toList] at e
    omega
theorem Inv.tuple (I:Inv X pins σ H s) (h:SqT X.K H a xs):∃ its:List Value,Vals xs its /\ IsTup s.heap a its.toArray /\ xs.length <= sizeLine:=by
  rcases h with h | ⟨o,its,n,hk,hc,hs,hz,r⟩
  . obtain ⟨z,its,r,p⟩:=h.ok I.hok
    exact ⟨its,r,p,z⟩
  . refine ⟨its.toList,r,⟨o,I.kIn a o hk,hc,n,by simpa using hs⟩,?_⟩
    have e:=r.length
    simp only [Array.length_toList] at e
    omega
theorem Inv.list_inj (I:Inv X pins σ H s) (h:SqL X.K H a xs) (h':SqL X.K H a ys):xs = ys:=by
  obtain ⟨its,r,⟨o,n,e,_,_,d⟩,_⟩:=I.list h
  obtain ⟨its',r',⟨o',n',e',_,_,d'⟩,_⟩:=I.list h'
  rw [e] at e';cases e'
  rw [d] at d'
  injection d' with d1 _
  have:its = its':=by simpa using congrArg Array.toList d1
  subst this
  exact r.inj r'
theorem Inv.tuple_inj (I:Inv X pins σ H s) (h:SqT X.K H a xs) (h':SqT X.K H a ys):xs = ys:=by
  obtain ⟨its,r,⟨o,e,_,n,d⟩,_⟩:=I.tuple h
  obtain ⟨its',r',⟨o',e',_,n',d'⟩,_⟩:=I.tuple h'
  rw [e] at e';cases e'
  rw [d] at d'
  injection d' with d1 _
  have:its = its':=by simpa using congrArg Array.toList d1
  subst this
  exact r.inj r'
end
abbrev Cx.wish (X:Cx) (E:Value -> Shared -> Prop):Cx:={ X with xe:=E }
abbrev Cx.nox (X:Cx):Cx:=X.wish fun _ _=>False
theorem Cx.Ok.wish {X:Cx} (ok:X.Ok) (E:Value -> Shared -> Prop):(X.wish E).Ok :=
  ⟨ok.mod,ok.kind,ok.glob,ok.blt,ok.above,ok.inj,ok.has,ok.cab,ok.hd,ok.frames,ok.stk,ok.exf,ok.bs,ok.bsz,ok.noex,ok.exfs,ok.funs,ok.frf⟩
theorem Cx.Ok.unwish {X:Cx} {E:Value -> Shared -> Prop} (ok:(X.wish E).Ok):X.Ok :=
  ⟨ok.mod,ok.kind,ok.glob,ok.blt,ok.above,ok.inj,ok.has,ok.cab,ok.hd,ok.frames,ok.stk,ok.exf,ok.bs,ok.bsz,ok.noex,ok.exfs,ok.funs,ok.frf⟩
section
variable {X:Cx} {pins:List (Addr × Obj)} {σ:St} {H:Hp} {s:Shared} {E:Value -> Shared -> Prop}
theorem Inv.wish (I:Inv X pins σ H s) (E:Value -> Shared -> Prop):Inv (X.wish E) pins σ H s:=⟨I.ok.wish E,I.os,I.bare,I.base,I.loc,I.cell,I.free,I.freeC,I.pin,I.hok,I.len⟩
theorem Inv.unwish (I:Inv (X.wish E) pins σ H s):Inv X pins σ H s:=⟨I.ok.unwish,I.os,I.bare,I.base,I.loc,I.cell,I.free,I.freeC,I.pin,I.hok,I.len⟩
theorem SP.unwish {D:yZ} {f:Flow} {s':Shared} (h:SP (X.wish E) pins D f s'):SP X pins D f s':=by
  cases f with
  | next=>obtain ⟨σ',H',I,q⟩:=h;exact ⟨σ',H',I.unwish,q⟩
  | brk=>obtain ⟨σ',H',I,q⟩:=h;exact ⟨σ',H',I.unwish,q⟩
  | cont=>obtain ⟨σ',H',I,q⟩:=h;exact ⟨σ',H',I.unwish,q⟩
  | ret u=>obtain ⟨v,σ',H',I,r,q⟩:=h;exact ⟨v,σ',H',I.unwish,r,q⟩
theorem PE.nox {e:Expr} {t:TE} (h:PE X.nox e t):PE X e t:=fun pins s σ H Q I hw =>
  wpAny_mono (h pins s σ H Q (I.wish _) hw) (fun _ _ ⟨v,H',I',r,q⟩=>⟨v,H',I'.unwish,r,q⟩) fun _ _ z=>False.elim z
theorem PT.nox {e:Expr} {t:TT} (h:PT X.nox e t):PT X e t:=fun pins s σ H Q I hw =>
  wpAny_mono (h pins s σ H Q (I.wish _) hw) (fun _ _ ⟨H',I',q⟩=>⟨H',I'.unwish,q⟩) fun _ _ z=>False.elim z
theorem PSs.nox {st:List Stmt} {t:TS} (h:PSs X.nox st t):PSs X st t:=fun pins s σ H D I hw =>
  wpAny_mono (h pins s σ H D (I.wish _) hw) (fun _ _ q=>q.unwish) fun _ _ z=>False.elim z
end
section
variable {X:Cx} {st:Stmt} {rest:List Stmt} {t u:TS} {e:Expr} {te:TE} {pos:Pos}
def QeQ:TS:=fun D σ H=>D.nx σ H
def Qfh (t u:TS):TS:=fun D σ H=>t { D with nx:=u D } σ H
theorem pss_nil:PSs X [] QeQ:=fun _ _ σ H _ I h=>wpAny_execs_nil ⟨σ,H,I,h⟩
theorem Qbb (h1:PS X st t) (h2:PSs X rest u):PSs X (st :: rest) (Qfh t u):=by
  intro pins s σ H D I h
  refine wpAny_execs_cons (thn (h1 pins s σ H { D with nx:=u D } I h) fun f s1 q=>?_)
  cases f with
  | next =>
    obtain ⟨σ',H',I',q⟩:=q
    exact h2 pins s1 σ' H' D I' q
  | ret v=>exact q
  | brk=>exact q
  | cont=>exact q
theorem QcD (h1:PS X st t):PSs X [st] t:=by
  intro pins s σ H D I h
  refine wpAny_execs_cons (thn (h1 pins s σ H D I h) fun f s1 q=>?_)
  cases f with
  | next=>exact wpAny_execs_nil q
  | ret v=>exact q
  | brk=>exact q
  | cont=>exact q
theorem Inv.quiet {pins:List (Addr × Obj)} {σ:St} {H:Hp} {s:Shared} (I:Inv X pins σ H s):interactive X.env = false:=by simp [interactive,I.ok.kind]
def Qdc (te:TE):TS:=fun D σ H=>te σ H fun _ H1=>D.nx σ H1
theorem uf (he:PE X e te) (hs:swapsWith e none pos.line X.env = pure false:=by rfl):PS X (.Expr e pos) (Qdc te):=by
  intro pins s σ H D I h
  exact wpAny_Expr_any (thn (he pins s σ H _ I h) fun v s1 ⟨x,H1,I1,r1,q1⟩=>⟨σ,H1,I1,q1⟩) I.quiet hs
def Qfu (te:TE):TS:=fun D σ H=>te σ H D.rt
theorem QdQ (he:PE X e te):PS X (.Return (some e) pos) (Qfu te):=by
  intro pins s σ H D I h
  exact wpAny_Return_some (thn (he pins s σ H _ I h) fun v s1 ⟨x,H1,I1,r1,q1⟩=>⟨x,σ,H1,I1,r1,q1⟩)
def QfQ (c:TT) (t u:TS):TS:=fun D σ H=>c σ H fun b H1=>if b = true then t D σ H1 else u D σ H1
theorem Qe6 {c:Expr} {a b:List Stmt} {tc:TT} (hc:PT X c tc) (ha:PSs X a t) (hb:PSs X b u):PS X (.If c a b pos) (QfQ tc t u):=by
  intro pins s σ H D I h
  refine wpAny_If (thn (hc pins s σ H _ I h) fun d s1 ⟨H1,I1,q1⟩=>?_)
  cases d with
  | true=>exact ha pins s1 σ H1 D I1 q1
  | false=>exact hb pins s1 σ H1 D I1 q1
def Qea:TS:=fun _ _ _=>False
theorem QaZ:PS X st Qea:=fun _ _ _ _ _ _ h=>h.elim
end
abbrev TG:=V -> St -> Hp -> (St -> Hp -> Prop) -> Prop
def PG (X:Cx) (target:Expr) (t:TG):Prop :=
  ∀ (pins : List (Addr × Obj)) (s : Shared) (σ : St) (H : Hp) (v : V) (u : Value) (Q : St -> Hp -> Prop), Inv X pins σ H s -> RelV v u -> t v σ H Q ->
    wpAny (model X.prog X.w) X.A (assign target X.env u) (fun _ s'=>∃ σ' H',Inv X pins σ' H' s' /\ Q σ' H') X.xe s
abbrev Qce:=V -> V -> V -> Hp -> (Hp -> Prop) -> Prop
def QcA (X:Cx) (t:Qce):Prop :=
  ∀ (pins : List (Addr × Obj)) (s : Shared) (σ : St) (H : Hp) (o i v : V) (ov iv u : Value) (Q : Hp -> Prop), Inv X pins σ H s -> RelV o ov -> RelV i iv -> RelV v u -> t o i v H Q ->
    wpAny (model X.prog X.w) X.A (setItem ov iv u) (fun _ s'=>∃ H',Inv X pins σ H' s' /\ Q H') X.xe s
abbrev TIp:=V -> V -> Hp -> VK -> Prop
def PIp (X:Cx) (op:Operator) (t:TIp):Prop :=
  ∀ (pins : List (Addr × Obj)) (s : Shared) (σ : St) (H : Hp) (x y : V) (v u : Value) (Q : VK), Inv X pins σ H s -> RelV x v -> RelV y u -> t x y H Q ->
    wpAny (model X.prog X.w) X.A (inplaceOp op v u) (EP X pins σ Q) X.xe s
section
variable {X:Cx} {pos:Pos}
def vR (i:Nat):TG:=fun v σ H Q=>Q (σ.set i (some v)) H
theorem uG {i:Nat} {x:Str} (hN:X.N.Nodup) (hi:X.N[i]? = some x) (hx:Loc X.env.scope x) (hf:X.fn x = true ∨ X.env.scope.names.lookup x = some .local:=by first | exact .inl rfl | exact .inr rfl | assumption):PG X (.Name x pos) (vR i):=by
  intro pins s σ H v u Q I r h
  exact wpAny_assign_Name (yu I hN hi hx r (fun s' I'=>⟨_,H,I',h⟩) hf)
def Qfz (to ti:TE) (t:Qce):TG:=fun v σ H Q=>to σ H fun o H1=>ti σ H1 fun i H2=>t o i v H2 fun H3=>Q σ H3
theorem Qd3 {o i:Expr} {to ti:TE} {t:Qce} (ho:PE X o to) (hi:PE X i ti) (hs:QcA X t)
    (ha:∀ v,assign (.Subscript o i pos) X.env v = (do
      let ov <- holding [v] (eval o X.env)
      let iv <- holding [v,ov] (eval i X.env)
      standAt pos
      holding [v,ov,iv] (setItem ov iv v)
      release [v,ov,iv] []):=by intro _;rfl):PG X (.Subscript o i pos) (Qfz to ti t):=by
  intro pins s σ H v u Q I r h
  rw [ha]
  refine wpAny_bind (wpAny_holding (thn (ho pins s σ H _ I h) fun ov s1 ⟨x,H1,I1,r1,q1⟩=>?_))
  refine wpAny_bind (wpAny_holding (thn (hi pins s1 σ H1 _ I1 q1) fun iv s2 ⟨y,H2,I2,r2,q2⟩=>?_))
  refine wpAny_bind (wpAny_standAt (wpAny_bind (wpAny_holding (thn (hs pins s2 σ H2 x y v ov iv u _ I2 r1 r2 r q2) fun _ s3 ⟨H3,I3,q3⟩=>?_))))
  exact wpAny_release ⟨σ,H3,I3,q3⟩
def QbY (te:TE) (g:TG):TS:=fun D σ H=>te σ H fun x H1=>g x σ H1 D.nx
theorem QdP {tg e:Expr} {te:TE} {g:TG} (he:PE X e te) (hg:PG X tg g) (hs:swapsWithSole [tg] e pos.line X.env = pure false:=by rfl) (hw:swappedStores [tg] e X.env = pure none:=by rfl)
    (h1:(assignEach [tg] X.env).map (·.2) = [assign tg X.env]:=by rfl):PS X (.Assign [tg] e pos) (QbY te g):=by
  intro pins s σ H D I h
  refine wpAny_Assign_stores (thn (he pins s σ H _ I h) fun v s1 ⟨x,H1,I1,r1,q1⟩=>?_) hs hw
  rw [h1]
  exact thn (hg pins s1 σ H1 x v _ I1 r1 q1) fun _ s2 q=>q
theorem QbC {i:Nat} {x:Str} {e:Expr} {te:TE} {pos':Pos} (hN:X.N.Nodup) (hi:X.N[i]? = some x) (hx:Loc X.env.scope x) (he:PE X e te) (hs:swapsWith e (some (.Name x pos')) pos.line X.env = pure false:=by rfl) (hf:X.fn x = true ∨ X.env.scope.names.lookup x = some .local:=by first | exact .inl rfl | exact .inr rfl | assumption) :
    PS X (.Assign [.Name x pos'] e pos) (QbY te (vR i)):=by
  intro pins s σ H D I h
  refine wpAny_Assign_Name (thn (he pins s σ H _ I h) fun v s1 ⟨y,H1,I1,r1,q1⟩=>?_) hs
  exact yu I1 hN hi hx r1 (fun s2 I2=>⟨_,H1,I2,q1⟩) hf
def QeV (i:Nat) (te:TE) (ti:TIp):TS:=fun D σ H=>∃ x,σ[i]? = some (some x) /\ te σ H fun y H1=>ti x y H1 fun z H2=>D.nx (σ.set i (some z)) H2
theorem Qdr {i:Nat} {x:Str} {e:Expr} {te:TE} {op:Operator} {ti:TIp} {pos':Pos} (hN:X.N.Nodup) (hi:X.N[i]? = some x) (hx:Loc X.env.scope x) (he:PE X e te) (ho:PIp X op ti) (hf:X.fn x = true ∨ X.env.scope.names.lookup x = some .local:=by first | exact .inl rfl | exact .inr rfl | assumption) :
    PS X (.AugAssign (.Name x pos') op e pos) (QeV i te ti):=by
  intro pins s σ H D I h
  obtain ⟨v,e1,h⟩:=h
  obtain ⟨m,hn,hl⟩:=I.loc
  have vis:Vis X.env.scope x:=by rcases hx with k | k;exact .inl k;exact .inr (.inl k)
  obtain ⟨u,r,l⟩:=hl i x v hi e1 vis
  refine wpAny_AugAssign_Name ?_
  have go:wpAny (model X.prog X.w) X.A (eval e X.env) (fun w s₂=>wpAny (model X.prog X.w) X.A (inplaceOp op u w) (fun r s₃=>wpAny (model X.prog X.w) X.A (storeName X.env x r) (fun _=>SP X pins D .next) X.xe s₃) X.xe s₂) X.xe s:=by
    refine thn (he pins s σ H _ I h) fun w s1 ⟨y,H1,I1,r1,q1⟩=>?_
    refine thn (ho pins s1 σ H1 v y u w _ I1 r r1 q1) fun z s2 ⟨zv,H2,I2,r2,q2⟩=>?_
    exact yu I2 hN hi hx r2 (fun s3 I3=>⟨_,H2,I3,q2⟩) hf
  rcases l with ⟨hk,hm⟩ | ⟨hk,c,hc,hcell⟩
  . exact wpAny_loadName_local I.ok.kind hk hn hm go
  . rcases hk with hk | hk
    . exact wpAny_loadName_cell I.ok.kind hk hc hcell go
    . rcases hx with k | k
      . have:X.env.scope.names.lookup x = some .free:=hk
        rw [k] at this;cases this
      . have:X.env.scope.names.lookup x = some .free:=hk
        rw [k] at this;cases this
def ipI (f:Int -> Int -> Int):TIp:=fun x y H Q=>∃ i j,x = .int i /\ y = .int j /\ Q (.int (f i j)) H
theorem Qdo:PIp X .Add (ipI fun i j=>i + j):=by
  intro pins s σ H x y v u Q I r1 r2 h
  obtain ⟨i,j,e1,e2,q⟩:=h
  subst e1;subst e2
  obtain ⟨t,rfl⟩:=r1
  obtain ⟨t',rfl⟩:=r2
  exact iadd_int ⟨.int _,H,I.tok _,⟨_,rfl⟩,q⟩
end
section
variable {X:Cx} {pos:Pos}
def Qd5 (c:TT) (tb:TS):TS:=fun D σ H=>∃ W:Nat -> St -> Hp -> Prop,(∃ m,W m σ H) /\ ∀ m σ H,W m σ H ->
  c σ H fun b H1=>if b = true then ∃ N:St -> Hp -> Prop,(∀ σ' H',N σ' H' -> ∃ m',m' < m /\ W m' σ' H') /\ tb { D with nx:=N,ct:=N,bk:=D.nx } σ H1 else D.nx σ H1
theorem kL {c:Expr} {body:List Stmt} {tc:TT} {tb:TS} (hp:PassesOwn (model X.prog X.w) X.A X.env X.xe) (hc:PT X c tc) (hb:PSs X body tb):PS X (.While c body [] pos) (Qd5 tc tb):=by
  intro pins s σ H D I h
  obtain ⟨W,⟨m0,w0⟩,turn⟩:=h
  refine wpAny_While (codeAny_whileLoop (fun n s'=>∃ σ' H',Inv X pins σ' H' s' /\ W n σ' H') ?_ m0 ⟨σ,H,I,w0⟩)
  rintro n s1 ⟨σ1,H1,I1,w1⟩
  refine wpAny_passesOwn hp (thn (hc pins s1 σ1 H1 _ I1 (turn n σ1 H1 w1)) fun b s2 ⟨H2,I2,q2⟩=>?_)
  cases b with
  | true =>
    obtain ⟨N,hN,q2⟩:=q2
    rw [if_pos rfl]
    refine wpAny_passesOwn hp (thn (hb pins s2 σ1 H2 _ I2 q2) fun f s3 q3=>?_)
    cases f with
    | next =>
      obtain ⟨σ3,H3,I3,n3⟩:=q3
      obtain ⟨m',hm,w3⟩:=hN σ3 H3 n3
      exact ⟨m',hm,σ3,H3,I3,w3⟩
    | cont =>
      obtain ⟨σ3,H3,I3,n3⟩:=q3
      obtain ⟨m',hm,w3⟩:=hN σ3 H3 n3
      exact ⟨m',hm,σ3,H3,I3,w3⟩
    | brk=>exact q3
    | ret v=>exact q3
  | false =>
    rw [if_neg Bool.false_ne_true]
    exact wpAny_execs_nil ⟨σ1,H2,I2,q2⟩
end
structure It where
  go:Nat -> Hp -> Prop
  yld:Nat -> Hp -> V -> Hp -> Prop
  stop:Nat -> Hp -> Prop
def xB (X:Cx) (pins:List (Addr × Obj)) (H:Hp) (b:Addr):Prop :=
  H b = none /\ b ≠ X.env.locals /\ b ∉ X.fs /\ (b ∈ X.ex ∨ X.s₀.heap.objs.size <= b) /\ (∀ x c,X.env.cells.lookup x = some c -> c ≠ b) /\ ∀ p ∈ X.pn ++ pins,p.1 ≠ b
theorem Inv.fpOk {X:Cx} {pins:List (Addr × Obj)} {σ:St} {H H':Hp} {s:Shared} {b:Addr} (I:Inv X pins σ H s) (hb:s.heap.objs.size <= b) (hn:H' b = none):xB X pins H' b:=by
  refine ⟨hn,Nat.ne_of_gt (Nat.lt_of_lt_of_le I.lt hb),I.nofs hb,.inr (Nat.le_trans I.sz hb),fun x c e z=>?_,fun p hp z=>?_⟩
  . obtain ⟨v,q⟩:=I.cell x c e
    exact absurd (Nat.lt_of_lt_of_le q.lt (by rw [z];exact hb)) (Nat.lt_irrefl _)
  . exact absurd (Nat.lt_of_lt_of_le (Heap.lt_size (I.pin p hp).1) (by rw [z];exact hb)) (Nat.lt_irrefl _)
structure gB (P:Program) (w:World) (K:PySem.W.Frag) (tg:Expr) (J:It) (fp:List Addr) (it:Addr) (tn:Nat -> Heap -> Prop):Prop where
  mem:it ∈ fp
  obj:∀ i h,tn i h -> ∀ b ∈ fp,∃ o,h.get? b = some o /\ ∀ v,o.data ≠ .cell v
  keep:∀ i h h',tn i h -> (∀ b ∈ fp,∀ o,h.get? b = some o -> h'.get? b = some o) -> tn i h'
  item:∀ (X:Cx),X.prog = P -> X.w = w -> X.K = K -> X.calm = true -> ∀ (i:Nat) (pins:List (Addr × Obj)) (s:Shared) (σ:St) (H:Hp) (E:Value -> Shared -> Prop),Inv X pins σ H s -> (∀ b ∈ fp,xB X pins H b) -> tn i s.heap -> J.go i H ->
    wpAny (model P w) X.A (pyNext (.ref it)) (fun r s1=>∃ u,r = some u /\
      wpAny (model P w) X.A (letOwnedTupleGo tg (.ref it) u) (fun _ s2=>∃ x H',Inv X pins σ H' s2 /\ RelV x u /\ J.yld i H x H' /\ tn (i + 1) s2.heap /\ ∀ b ∈ fp,H' b = none) E s1) E s
  done:∀ (X:Cx),X.prog = P -> X.w = w -> X.K = K -> X.calm = true -> ∀ (i:Nat) (pins:List (Addr × Obj)) (s:Shared) (σ:St) (H:Hp) (E:Value -> Shared -> Prop),Inv X pins σ H s -> (∀ b ∈ fp,xB X pins H b) -> tn i s.heap -> J.stop i H ->
    wpAny (model P w) X.A (pyNext (.ref it)) (fun r s1=>r = none /\ Inv X pins σ H s1) E s
  self:∀ (A:Around) (i:Nat) (s:Shared) (Q:Value -> Shared -> Prop) (E:Value -> Shared -> Prop),tn i s.heap -> Q (.ref it) s -> wpAny (model P w) A (pyIter (.ref it)) Q E s
abbrev TI:=St -> Hp -> (It -> Hp -> Prop) -> Prop
def PIE (X:Cx) (pins:List (Addr × Obj)) (σ:St) (tg:Expr) (R:It -> Hp -> Prop) (itv:Value) (s2:Shared):Prop :=
  ∃ (it:Addr) (fp:List Addr) (tn:Nat -> Heap -> Prop) (J:It) (H':Hp),itv = .ref it /\ Inv X pins σ H' s2 /\ gB X.prog X.w X.K tg J fp it tn /\ tn 0 s2.heap /\ (∀ b ∈ fp,xB X pins H' b) /\ R J H'
def PI (X:Cx) (tg iter:Expr) (wi:TI):Prop :=
  ∀ (pins : List (Addr × Obj)) (s : Shared) (σ : St) (H : Hp) (R : It -> Hp -> Prop), Inv X pins σ H s -> wi σ H R ->
    wpAny (model X.prog X.w) X.A (eval iter X.env) (fun v s1=>wpAny (model X.prog X.w) X.A (pyIter v) (PIE X pins σ tg R) X.xe s1) X.xe s
theorem vY {M:Model} {A:Around} {E:Value -> Shared -> Prop} {s:Shared} {tg:Expr} {it:Addr} {u:Value} {o:Obj} {n:String} {vs:Array Value} {Q:Unit -> Shared -> Prop} (ho:s.heap.get? it = some o) (hc:o.cls = .type n) (hd:o.data = .fields vs)
    (hn:["enumerate", "zip", "dict_itemiterator", "dict_reverseitemiterator", "odict_iterator", "itertools.zip_longest", "itertools.pairwise"].contains n = false) (hQ:Q () s):wpAny M A (letOwnedTupleGo tg (.ref it) u) Q E s:=by
  unfold letOwnedTupleGo
  cases tg <;> first
    | exact wpAny_pure hQ
    | (cases u <;> first
        | exact wpAny_pure hQ
        | (refine wpAny_bind (wpAny_load ho ?_)
           rw [hc,hd]
           show wpAny M A (if (["enumerate", "zip", "dict_itemiterator", "dict_reverseitemiterator", "odict_iterator", "itertools.zip_longest", "itertools.pairwise"].contains n && vs[0]? == some (rawInt _)) = true then _ else _) Q E s
           rw [if_neg (by intro h;rw [hn,Bool.false_and] at h;cases h)]
           exact wpAny_pure hQ))
def Itl (K:PySem.W.Frag) (a:Addr):It :=
  ⟨fun i H=>∃ xs x,SqL K H a xs /\ xs[i]? = some x,fun i H x H'=>H' = H /\ ∀ xs,SqL K H a xs -> xs[i]? = some x,fun i H=>∃ xs,SqL K H a xs /\ xs.length <= i⟩
def Itt (K:PySem.W.Frag) (a:Addr):It :=
  ⟨fun i H=>∃ xs x,SqT K H a xs /\ xs[i]? = some x,fun i H x H'=>H' = H /\ ∀ xs,SqT K H a xs -> xs[i]? = some x,fun i H=>∃ xs,SqT K H a xs /\ xs.length <= i⟩
def Itr (lo:Int) (n:Nat):It:=⟨fun i _=>i < n,fun i H x H'=>H' = H /\ x = .int (lo + i),fun i _=>n <= i⟩
theorem gI {P:Program} {w:World} {K:PySem.W.Frag} {tg:Expr} (a it:Addr):gB P w K tg (Itl K a) [it] it (fun i h=>h.IsListIter it a i) where
  mem:=by simp
  obj:=fun i h st b hb=>by
    have e:b = it:=by simpa using hb
    subst e
    obtain ⟨o,e,c,d⟩:=st
    exact ⟨o,e,fun v z=>by rw [d] at z;cases z⟩
  keep:=fun i h h' st k=>st.at fun o e=>k it (by simp) o e
  item:=by
    intro X hP hw hK hc i pins s σ H E I hf st hg
    subst hP hw hK
    obtain ⟨xs,x,hq,hx⟩:=hg
    obtain ⟨its,rv,p,hz⟩:=I.list hq
    obtain ⟨u,hu,ru⟩:=rv.get hx
    obtain ⟨f0,f1,f2,f3,f4,f5⟩:=hf it (by simp)
    refine wpAny_pyNext_list_item st p.isList (x:=u) (by simpa using hu) fun h' st' sb=>?_
    have I1:Inv X pins σ H { s with heap:=h' }:=I.turned (t':=s.toks) (fun b o hb e=>(sb.2 b hb).trans e) f0 f1 f3 f4 f5
    obtain ⟨o,e,c,d⟩:=id st'
    exact ⟨u,rfl,vY (s:={ s with heap:=h' }) e c d (by decide) ⟨x,H,I1,ru,⟨rfl,fun ys hy=>by rw [I.list_inj hy hq];exact hx⟩,st',fun b hb=>(hf b hb).1⟩⟩
  done:=by
    intro X hP hw hK hc i pins s σ H E I hf st hg
    subst hP hw hK
    obtain ⟨xs,hq,hx⟩:=hg
    obtain ⟨its,rv,p,hz⟩:=I.list hq
    obtain ⟨f0,f1,f2,f3,f4,f5⟩:=hf it (by simp)
    have hl:=rv.length
    exact wpAny_pyNext_list_end (I.ok.hd hc) st p.isList (by simp;omega) fun h' eb=>⟨rfl,I.turned (t':=s.toks) (fun b o hb e=>eb b o hb e) f0 f1 f3 f4 f5⟩
  self:=fun _ _ _ _ _ st h=>wpAny_pyIter_listiter st h
theorem vG {P:Program} {w:World} {K:PySem.W.Frag} {tg:Expr} (a it:Addr):gB P w K tg (Itt K a) [it] it (fun i h=>h.IsTupleIter it a i) where
  mem:=by simp
  obj:=fun i h st b hb=>by
    have e:b = it:=by simpa using hb
    subst e
    obtain ⟨o,e,c,d⟩:=st
    exact ⟨o,e,fun v z=>by rw [d] at z;cases z⟩
  keep:=fun i h h' st k=>st.at fun o e=>k it (by simp) o e
  item:=by
    intro X hP hw hK hc i pins s σ H E I hf st hg
    subst hP hw hK
    obtain ⟨xs,x,hq,hx⟩:=hg
    obtain ⟨its,rv,p,hz⟩:=I.tuple hq
    obtain ⟨u,hu,ru⟩:=rv.get hx
    obtain ⟨f0,f1,f2,f3,f4,f5⟩:=hf it (by simp)
    refine wpAny_pyNext_tuple_item st (show s.heap.IsTuple a its.toArray from p) (x:=u) (by simpa using hu) fun h' st' sb=>?_
    have I1:Inv X pins σ H { s with heap:=h' }:=I.turned (t':=s.toks) (fun b o hb e=>(sb.2 b hb).trans e) f0 f1 f3 f4 f5
    obtain ⟨o,e,c,d⟩:=id st'
    exact ⟨u,rfl,vY (s:={ s with heap:=h' }) e c d (by decide) ⟨x,H,I1,ru,⟨rfl,fun ys hy=>by rw [I.tuple_inj hy hq];exact hx⟩,st',fun b hb=>(hf b hb).1⟩⟩
  done:=by
    intro X hP hw hK hc i pins s σ H E I hf st hg
    subst hP hw hK
    obtain ⟨xs,hq,hx⟩:=hg
    obtain ⟨its,rv,p,hz⟩:=I.tuple hq
    obtain ⟨f0,f1,f2,f3,f4,f5⟩:=hf it (by simp)
    have hl:=rv.length
    exact wpAny_pyNext_tuple_end (I.ok.hd hc) st (show s.heap.IsTuple a its.toArray from p) (by simp;omega) fun h' eb=>⟨rfl,I.turned (t':=s.toks) (fun b o hb e=>eb b o hb e) f0 f1 f3 f4 f5⟩
  self:=fun _ _ _ _ _ st h=>wpAny_pyIter_tupleiter st h
theorem vc {P:Program} {w:World} {K:PySem.W.Frag} {tg:Expr} (it:Addr) (lo:Int) (n:Nat):gB P w K tg (Itr lo n) [it] it (fun i h=>IsRangeIter h it (lo + (i:Nat) * 1) ((n:Int) - (i:Nat)) 1) where
  mem:=by simp
  obj:=fun i h st b hb=>by
    have e:b = it:=by simpa using hb
    subst e
    exact ⟨_,st,fun v z=>by
      have z':Data.fields _ = Data.cell v:=z
      cases z'⟩
  keep:=fun i h h' st k=>k it (by simp) _ st
  item:=by
    intro X hP hw hK hc i pins s σ H E I hf st hg
    subst hP hw hK
    obtain ⟨f0,f1,f2,f3,f4,f5⟩:=hf it (by simp)
    have W:=Walks.range (prog:=X.prog) (w:=X.w) (I.ok.hd hc) it lo 1 n
    refine W.item i s _ _ hg st fun v h' tk hv st' kk=>?_
    obtain ⟨t,rfl⟩:=hv
    have I1:Inv X pins σ H { s with heap:=h',toks:=tk }:=I.turned (fun b o hb e=>kk b o (by simpa using hb) e) f0 f1 f3 f4 f5
    refine ⟨_,rfl,vY (s:={ s with heap:=h',toks:=tk }) (n := "range_iterator") st' rfl rfl (by decide) ⟨.int (lo + i),H,I1,⟨t,?_⟩,⟨rfl,rfl⟩,st',fun b hb=>(hf b hb).1⟩⟩
    rw [Int.mul_one]
  done:=by
    intro X hP hw hK hc i pins s σ H E I hf st hg
    subst hP hw hK
    obtain ⟨f0,f1,f2,f3,f4,f5⟩:=hf it (by simp)
    exact wpAny_pyNext_range_end (I.ok.hd hc) st (by have:n <= i:=hg;omega) fun h' eb=>⟨rfl,I.turned (t':=s.toks) (fun b o hb e=>eb b o hb e) f0 f1 f3 f4 f5⟩
  self:=fun _ _ _ _ _ st h=>wpAny_pyIter_rangeiter st h
end L2
namespace L2
open PySem PySem.Spec PyProof.Rows
section
variable {X:Cx} {tg:Expr}
def Qey (K:PySem.W.Frag) (tl:TE):TI:=fun σ H R=>tl σ H fun x H1=>∃ a,x = .ref a /\ (∃ xs,SqL K H1 a xs) /\ R (Itl K a) H1
def Qfl (K:PySem.W.Frag) (tl:TE):TI:=fun σ H R=>tl σ H fun x H1=>∃ a,x = .ref a /\ (∃ xs,SqT K H1 a xs) /\ R (Itt K a) H1
theorem QcH {l:Expr} {tl:TE} (hl:PE X l tl):PI X tg l (Qey X.K tl):=by
  intro pins s σ H R I h
  refine thn (hl pins s σ H _ I h) fun v s1 ⟨x,H1,I1,r1,q1⟩=>?_
  obtain ⟨a,e,⟨xs,hq⟩,q⟩:=q1
  subst e
  cases r1
  obtain ⟨its,rv,p,hz⟩:=I1.list hq
  refine wpAny_pyIter_list p.isList ?_
  refine ⟨s1.heap.objs.size,[s1.heap.objs.size],_,_,H1,rfl,I1.kept (t':=s1.toks) fun b o e=>Heap.get?_push_of_some _ e,gI a _,⟨_,Heap.get?_push_size _ rfl,rfl,rfl⟩,fun b hb=>?_,q⟩
  have e:b = s1.heap.objs.size:=by simpa using hb
  subst e
  exact I1.fpOk (Nat.le_refl _) (I1.hok.fresh (Nat.le_refl _))
theorem QdB {l:Expr} {tl:TE} (hl:PE X l tl):PI X tg l (Qfl X.K tl):=by
  intro pins s σ H R I h
  refine thn (hl pins s σ H _ I h) fun v s1 ⟨x,H1,I1,r1,q1⟩=>?_
  obtain ⟨a,e,⟨xs,hq⟩,q⟩:=q1
  subst e
  cases r1
  obtain ⟨its,rv,p,hz⟩:=I1.tuple hq
  refine wpAny_pyIter_tuple (show s1.heap.IsTuple a its.toArray from p) ?_
  refine ⟨s1.heap.objs.size,[s1.heap.objs.size],_,_,H1,rfl,I1.kept (t':=s1.toks) fun b o e=>Heap.get?_push_of_some _ e,vG a _,⟨_,Heap.get?_push_size _ rfl,rfl,rfl⟩,fun b hb=>?_,q⟩
  have e:b = s1.heap.objs.size:=by simpa using hb
  subst e
  exact I1.fpOk (Nat.le_refl _) (I1.hok.fresh (Nat.le_refl _))
theorem K1 {pins:List (Addr × Obj)} {σ:St} {H:Hp} {s:Shared} {R:It -> Hp -> Prop} {E:Value -> Shared -> Prop} {lo hi:Int} {t u v:Tok} {tk:Nat} (I:Inv X pins σ H s) (h1:-(2 ^ 62) <= lo) (h2:lo < 2 ^ 62) (h3:-(2 ^ 62) <= hi) (h4:hi < 2 ^ 62)
    (q:R (Itr lo (hi - lo).toNat) H):wpAny (model X.prog X.w) X.A (pyIter (.ref s.heap.objs.size)) (PIE X pins σ tg R) E { s with heap:=s.heap.push { cls:=.type "range", data:=.fields #[.int lo t,.int hi u,.int 1 v] },toks:=tk }:=by
  refine wpAny_pyIter_range (IsRange.new ..) (small_one h1 h2 h3 h4) ?_
  have I1:Inv X pins σ H { s with heap:=s.heap.push { cls:=.type "range", data:=.fields #[.int lo t,.int hi u,.int 1 v] },toks:=tk }:=I.kept fun b o e=>Heap.get?_push_of_some _ e
  refine ⟨(s.heap.push { cls:=.type "range", data:=.fields #[.int lo t,.int hi u,.int 1 v] }).objs.size,[(s.heap.push { cls:=.type "range", data:=.fields #[.int lo t,.int hi u,.int 1 v] }).objs.size],_,_,H,rfl,
    I1.kept (t':=tk) fun b o e=>Heap.get?_push_of_some _ e,vc _ lo (hi - lo).toNat,?_,fun b hb=>?_,q⟩
  . have e1:lo + ((0:Nat):Int) * 1 = lo:=by simp
    have e2:(((hi - lo).toNat:Nat):Int) - ((0:Nat):Int) = Builtin.Range.rangeSize lo hi 1:=by rw [rangeSize_one];split <;> omega
    show IsRangeIter _ _ (lo + ((0:Nat):Int) * 1) ((((hi - lo).toNat:Nat):Int) - ((0:Nat):Int)) 1
    rw [e1,e2]
    exact Heap.get?_push_size _ rfl
  . have e:b = (s.heap.push { cls:=.type "range", data:=.fields #[.int lo t,.int hi u,.int 1 v] }).objs.size:=by simpa using hb
    subst e
    exact I1.fpOk (Nat.le_refl _) (I1.hok.fresh (Nat.le_refl _))
def QeH (ta:TA):TI:=fun σ H R=>ta σ H fun vs H1=>∃ j:Int,vs = [.int j] /\ -(2 ^ 62) <= j /\ j < 2 ^ 62 /\ R (Itr 0 j.toNat) H1
def QeT (ta:TA):TI:=fun σ H R=>ta σ H fun vs H1=>∃ i j:Int,vs = [.int i,.int j] /\ (-(2 ^ 62) <= i /\ i < 2 ^ 62 /\ -(2 ^ 62) <= j /\ j < 2 ^ 62) /\ R (Itr i (j - i).toNat) H1
theorem gz {a:Expr} {ta:TA} {p pos:Pos} (hg:Gl X "range") (hm:X.mg "range" = none) (ha:PA X [a] ta) (hs:starEach [a] X.env = [(false,eval a X.env)]:=by rfl):PI X tg (.Call (.Name "range" p) [a] [] pos) (QeH ta):=by
  intro pins s σ H R I h
  refine Call_ (Xh I hg hm boot_range (PyProof.Rows.callWith_type1 (thn (ha pos pins s σ H _ I h) fun us s1 ⟨vs,H1,I1,r1,q1⟩=>?_) hs rfl))
  obtain ⟨j,e,q1,q2,q⟩:=q1
  subst e
  cases r1 with
  | cons r rr =>
    cases rr
    obtain ⟨t,rfl⟩:=r
    exact call_range_1 (K1 I1 (by omega) (by omega) q1 q2 (by simpa using q))
theorem gR {a b:Expr} {ta:TA} {p pos:Pos} (hg:Gl X "range") (hm:X.mg "range" = none) (ha:PA X [a,b] ta) (hs:starEach [a,b] X.env = [(false,eval a X.env),(false,eval b X.env)]:=by rfl) (hs2:starEach [b] X.env = [(false,eval b X.env)]:=by rfl) :
    PI X tg (.Call (.Name "range" p) [a,b] [] pos) (QeT ta):=by
  intro pins s σ H R I h
  refine Call_ (Xh I hg hm boot_range (PyProof.Rows.callWith_type1 (thn (ha pos pins s σ H _ I h) fun us s1 ⟨vs,H1,I1,r1,q1⟩=>?_) (by rw [hs,hs2]) (by rw [hs2];rfl)))
  obtain ⟨i,j,e,⟨q1,q2,q3,q4⟩,q⟩:=q1
  subst e
  cases r1 with
  | cons r rr =>
    cases rr with
    | cons r' rr =>
      cases rr
      obtain ⟨t,rfl⟩:=r
      obtain ⟨t',rfl⟩:=r'
      exact call_range_2 (K1 I1 q1 q2 q3 q4 q)
def QfO (wi:TI) (g:TG) (tb:TS):TS:=fun D σ H=>wi σ H fun J H1=>∃ W:Nat -> Nat -> St -> Hp -> Prop,(∃ m,W 0 m σ H1) /\ ∀ i m σ H,W i m σ H ->
  (J.stop i H /\ D.nx σ H) ∨ (J.go i H /\ ∃ N:St -> Hp -> Prop,(∀ σ' H',N σ' H' -> ∃ m',m' < m /\ W (i + 1) m' σ' H') /\ ∀ x H',J.yld i H x H' -> g x σ H' fun σ2 H2=>tb { D with nx:=N,ct:=N,bk:=D.nx } σ2 H2)
def yL (fp:List Addr) (h:Heap):List (Addr × Obj):=fp.filterMap fun b=>(h.get? b).map fun o=>(b,o)
theorem qd {fp:List Addr} {h:Heap} {b:Addr} {o:Obj} (hb:b ∈ fp) (e:h.get? b = some o):(b,o) ∈ yL fp h:=List.mem_filterMap.mpr ⟨b,hb,by rw [e];rfl⟩
theorem gQ {fp:List Addr} {h:Heap} {p:Addr × Obj} (hp:p ∈ yL fp h):p.1 ∈ fp /\ h.get? p.1 = some p.2:=by
  obtain ⟨b,hb,e⟩:=List.mem_filterMap.mp hp
  cases q:h.get? b with
  | none=>rw [q] at e;cases e
  | some o =>
    rw [q] at e
    have e':(b,o) = p:=Option.some.inj e
    subst e'
    exact ⟨hb,q⟩
theorem Inv.pinned {pins:List (Addr × Obj)} {σ:St} {H:Hp} {s:Shared} {fp:List Addr} (I:Inv X pins σ H s) (hf:∀ b ∈ fp,xB X pins H b) (ho:∀ b ∈ fp,∃ o,s.heap.get? b = some o /\ ∀ v,o.data ≠ .cell v):Inv X (pins ++ yL fp s.heap) σ H s :=
  I.pins_of fun p hp=>(List.mem_append.mp hp).elim (fun z=>I.pin p (List.mem_append_right _ z)) fun z=>by
    obtain ⟨hb,e⟩:=gQ z
    obtain ⟨f0,f1,f2,_⟩:=hf p.1 hb
    obtain ⟨o,e',d⟩:=ho p.1 hb
    rw [e] at e';cases e'
    exact ⟨e,f0,f1,f2,d⟩
theorem Inv.unpinned {pins pl:List (Addr × Obj)} {σ:St} {H:Hp} {s:Shared} (I:Inv X (pins ++ pl) σ H s):Inv X pins σ H s:=I.pins_of fun p hp=>I.pin p (List.mem_append_right _ (List.mem_append_left _ hp))
theorem QaF {iter:Expr} {body:List Stmt} {wi:TI} {g:TG} {tb:TS} {pos:Pos} (hp:PassesOwn (model X.prog X.w) X.A X.env X.xe) (hc:X.calm = true) (hi:PI X tg iter wi) (hg:PG X tg g) (hb:PSs X body tb)
    (hs:∀ x,foldedSetIterable iter X.env x = pure x:=by intro _;rfl):PS X (.For tg iter body [] pos) (QfO wi g tb):=by
  intro pins s σ H D I h
  refine wpAny_For (thn (hi pins s σ H _ I h) fun v s1 h1=>thn h1 fun itv s2 h2=>?_) hs
  obtain ⟨it,fp,tn,J,H2,e,I2,T,st2,f2,W,⟨m0,w0⟩,turn⟩:=h2
  subst e
  have stat:∀ {H':Hp},(∀ b ∈ fp,H' b = none) -> ∀ b ∈ fp,xB X pins H' b:=fun hn b hb=>⟨hn b hb,(f2 b hb).2⟩
  refine codeAny_forLoop_any (fun n s'=>∃ i σ' H',Inv X pins σ' H' s' /\ tn i s'.heap /\ (∀ b ∈ fp,H' b = none) /\ W i n σ' H') ?_ m0 ⟨0,σ,H2,I2,st2,fun b hb=>(f2 b hb).1,w0⟩
  rintro n s3 ⟨i,σ3,H3,I3,st3,fr3,w3⟩
  rcases turn i n σ3 H3 w3 with ⟨stop,qn⟩ | ⟨go,N,hN,step⟩
  . refine wpAny_passesOwn hp (thn (T.done X rfl rfl rfl hc i pins s3 σ3 H3 X.xe I3 (stat fr3) st3 stop) fun r s4 ⟨hr,I4⟩=>?_)
    subst hr
    exact wpAny_execs_nil ⟨σ3,H3,I4,qn⟩
  . refine wpAny_passesOwn hp (thn (T.item X rfl rfl rfl hc i pins s3 σ3 H3 X.xe I3 (stat fr3) st3 go) fun r s4 ⟨u,hr,h4⟩=>?_)
    subst hr
    refine wpAny_passesOwn hp (thn h4 fun _ s5 ⟨x,H5,I5,r5,y5,st5,fr5⟩=>?_)
    have I5':=I5.pinned (stat fr5) (T.obj _ _ st5)
    refine wpAny_passesOwn hp (thn (hg _ s5 σ3 H5 x u _ I5' r5 (step x H5 y5)) fun _ s6 ⟨σ6,H6,I6,q6⟩=>?_)
    refine wpAny_passesOwn hp (thn (hb _ s6 σ6 H6 _ I6 q6) fun f s7 q7=>?_)
    have again:∀ {σ7:St} {H7:Hp},Inv X (pins ++ yL fp s5.heap) σ7 H7 s7 -> N σ7 H7 -> ∃ m,m < n /\ ∃ i σ' H',Inv X pins σ' H' s7 /\ tn i s7.heap /\ (∀ b ∈ fp,H' b = none) /\ W i m σ' H':=fun {σ7 H7} I7 n7=>by
      obtain ⟨m',hm,w7⟩:=hN σ7 H7 n7
      refine ⟨m',hm,i + 1,σ7,H7,I7.unpinned,T.keep _ _ _ st5 fun b hb o e=>(I7.pin (b,o) (List.mem_append_right _ (List.mem_append_right _ (qd hb e)))).1,fun b hb=>?_,w7⟩
      obtain ⟨o,e,d⟩:=T.obj _ _ st5 b hb
      exact (I7.pin (b,o) (List.mem_append_right _ (List.mem_append_right _ (qd hb e)))).2.1
    cases f with
    | next=>obtain ⟨σ7,H7,I7,n7⟩:=q7;exact again I7 n7
    | cont=>obtain ⟨σ7,H7,I7,n7⟩:=q7;exact again I7 n7
    | brk=>obtain ⟨σ7,H7,I7,q7⟩:=q7;exact ⟨σ7,H7,I7.unpinned,q7⟩
    | ret v=>obtain ⟨x7,σ7,H7,I7,r7,q7⟩:=q7;exact ⟨x7,σ7,H7,I7.unpinned,r7,q7⟩
end
end L2
namespace L2
open PySem PySem.Spec PyProof.Rows
abbrev R2:=V -> V -> Hp -> VK -> Prop
def OpR (X:Cx) (f:Value -> Value -> Sem Value) (r:R2):Prop :=
  ∀ (pins : List (Addr × Obj)) (s : Shared) (σ : St) (H : Hp) (x y : V) (v u : Value) (Q : VK), Inv X pins σ H s -> RelV x v -> RelV y u -> r x y H Q ->
    wpAny (model X.prog X.w) X.A (f v u) (EP X pins σ Q) X.xe s
def UnR (X:Cx) (f:Value -> Sem Value) (r:V -> Hp -> VK -> Prop):Prop :=
  ∀ (pins : List (Addr × Obj)) (s : Shared) (σ : St) (H : Hp) (x : V) (v : Value) (Q : VK), Inv X pins σ H s -> RelV x v -> r x H Q ->
    wpAny (model X.prog X.w) X.A (f v) (EP X pins σ Q) X.xe s
def CallR (X:Cx) (f:Value) (r:List V -> Hp -> VK -> Prop):Prop :=
  ∀ (pins : List (Addr × Obj)) (s : Shared) (σ : St) (H : Hp) (xs : List V) (us : List Value) (Q : VK), Inv X pins σ H s -> Vals xs us -> r xs H Q ->
    wpAny (model X.prog X.w) X.A (call f us) (EP X pins σ Q) X.xe s
def QfE (X:Cx) (r:V -> Hp -> (Bool -> Hp -> Prop) -> Prop):Prop :=
  ∀ (pins : List (Addr × Obj)) (s : Shared) (σ : St) (H : Hp) (x : V) (v : Value) (Q : Bool -> Hp -> Prop), Inv X pins σ H s -> RelV x v -> r x H Q ->
    wpAny (model X.prog X.w) X.A (truthy v) (TP X pins σ Q) X.xe s
def tOp (r:R2) (ta tb:TE):TE:=fun σ H Q=>ta σ H fun x H1=>tb σ H1 fun y H2=>r x y H2 Q
def tUn (r:V -> Hp -> VK -> Prop) (ta:TE):TE:=fun σ H Q=>ta σ H fun x H1=>r x H1 Q
def rI (C:Int -> Int -> Prop) (g:Int -> Int -> V):R2:=fun x y H Q=>∃ i j,x = .int i /\ y = .int j /\ C i j /\ Q (g i j) H
def rI0 (g:Int -> Int -> V):R2:=fun x y H Q=>∃ i j,x = .int i /\ y = .int j /\ Q (g i j) H
def rU (g:Int -> V):V -> Hp -> VK -> Prop:=fun x H Q=>∃ i,x = .int i /\ Q (g i) H
section
variable {X:Cx} {a b c:Expr} {ta tb tc:TE} {pos:Pos}
theorem QdY (ha:PE X a ta) (hb:PE X b tb) {pins:List (Addr × Obj)} {s:Shared} {σ:St} {H:Hp} {R:V -> V -> Hp -> Prop} (I:Inv X pins σ H s)
    (h:ta σ H fun x H1=>tb σ H1 fun y H2=>R x y H2) {Q:Value -> Shared -> Prop} {f:Value -> Value -> Sem Value}
    (hf:∀ v u s2 x y H2,Inv X pins σ H2 s2 -> RelV x v -> RelV y u -> R x y H2 -> wpAny (model X.prog X.w) X.A (f v u) Q X.xe s2) :
    wpAny (model X.prog X.w) X.A (eval a X.env) (fun v s₁=>wpAny (model X.prog X.w) X.A (eval b X.env) (fun u s₂=>wpAny (model X.prog X.w) X.A (f v u) Q X.xe s₂) X.xe s₁) X.xe s:=by
  refine thn (ha pins s σ H _ I h) fun v s1 ⟨x,H1,I1,r1,q1⟩=>?_
  refine thn (hb pins s1 σ H1 _ I1 q1) fun u s2 ⟨y,H2,I2,r2,q2⟩=>?_
  exact hf v u s2 x y H2 I2 r1 r2 q2
theorem QeW {op:Operator} {r:R2} (ho:OpR X (binaryOp op) r) (ha:PE X a ta) (hb:PE X b tb):PE X (.BinOp a op b pos) (tOp r ta tb):=by
  intro pins s σ H Q I h
  exact wpAny_BinOp (QdY ha hb I h fun v u s2 x y H2 I2 rx ry q=>ho pins s2 σ H2 x y v u Q I2 rx ry q)
theorem Qc6 {op:UnaryOp} {r:V -> Hp -> VK -> Prop} (ho:UnR X (unaryOp op) r) (ha:PE X a ta):PE X (.UnaryOp op a pos) (tUn r ta):=by
  intro pins s σ H Q I h
  exact UnaryOp_ (thn (ha pins s σ H _ I h) fun v s1 ⟨x,H1,I1,r1,q1⟩=>ho pins s1 σ H1 x v Q I1 r1 q1)
theorem opI {f:Value -> Value -> Sem Value} {C:Int -> Int -> Prop} {g:Int -> Int -> Int}
    (rule:∀ (i j:Int) (t u:Tok) (s:Shared) (Q:Value -> Shared -> Prop) (E:Value -> Shared -> Prop),C i j -> Q (.int (g i j) s.toks) { s with toks:=s.toks + 1 } -> wpAny (model X.prog X.w) X.A (f (.int i t) (.int j u)) Q E s) :
    OpR X f (rI C fun i j=>.int (g i j)):=by
  intro pins s σ H x y v u Q I rx ry h
  obtain ⟨i,j,rfl,rfl,hc,q⟩:=h
  obtain ⟨t,rfl⟩:=rx
  obtain ⟨t',rfl⟩:=ry
  exact rule i j t t' s _ _ hc ⟨.int (g i j),H,I.tok _,⟨_,rfl⟩,q⟩
theorem Qe5 {f:Value -> Value -> Sem Value} {g:Int -> Int -> Int}
    (rule:∀ (i j:Int) (t u:Tok) (s:Shared) (Q:Value -> Shared -> Prop) (E:Value -> Shared -> Prop),Q (.int (g i j) s.toks) { s with toks:=s.toks + 1 } -> wpAny (model X.prog X.w) X.A (f (.int i t) (.int j u)) Q E s) :
    OpR X f (rI0 fun i j=>.int (g i j)):=by
  intro pins s σ H x y v u Q I rx ry h
  obtain ⟨i,j,rfl,rfl,q⟩:=h
  obtain ⟨t,rfl⟩:=rx
  obtain ⟨t',rfl⟩:=ry
  exact rule i j t t' s _ _ ⟨.int (g i j),H,I.tok _,⟨_,rfl⟩,q⟩
theorem Qch {f:Value -> Value -> Sem Value} {g:Int -> Int -> Bool}
    (rule:∀ (i j:Int) (t u:Tok) (s:Shared) (Q:Value -> Shared -> Prop) (E:Value -> Shared -> Prop),Q (.bool (g i j)) s -> wpAny (model X.prog X.w) X.A (f (.int i t) (.int j u)) Q E s) :
    OpR X f (rI0 fun i j=>.bl (g i j)):=by
  intro pins s σ H x y v u Q I rx ry h
  obtain ⟨i,j,rfl,rfl,q⟩:=h
  obtain ⟨t,rfl⟩:=rx
  obtain ⟨t',rfl⟩:=ry
  exact rule i j t t' s _ _ ⟨.bl (g i j),H,I,rfl,q⟩
def QfG (i j:Int):Prop:=0 < j /\ j < 1073741824
def Qfm (i j:Int):Prop:=0 <= j /\ j <= 1000000 /\ i.natAbs < 2 ^ 64
def CMul (i j:Int):Prop:=(-(2 ^ 64) < i /\ i < 2 ^ 64) ∨ (-(2 ^ 64) < j /\ j < 2 ^ 64)
theorem CMul.ok {i j:Int} (h:CMul i j):IntMulOk i j:=by
  rcases h with ⟨h1,h2⟩ | ⟨h1,h2⟩
  . exact .of_left (intBits_le_64 h1 h2)
  . exact .of_right (intBits_le_64 h1 h2)
theorem Qeq:OpR X (binaryOp .Add) (rI0 fun i j=>.int (i + j)):=Qe5 fun _ _ _ _ _ _ _ q=>add_int q
theorem Qec:OpR X (binaryOp .Sub) (rI0 fun i j=>.int (i - j)):=Qe5 fun _ _ _ _ _ _ _ q=>sub_int q
theorem QdU:OpR X (binaryOp .Mult) (rI CMul fun i j=>.int (i * j)):=opI fun _ _ _ _ _ _ _ hc q=>mul_int q hc.ok
theorem QcE:OpR X (binaryOp .FloorDiv) (rI QfG fun i j=>.int (i / j)):=opI fun i j _ _ _ _ _ hc q=>by
  have h1:(0:Int) < j:=hc.1
  have h2:j < 1073741824:=hc.2
  exact floordiv_int (by omega) (by rw [Int.fdiv_eq_ediv_of_nonneg i (by omega)];exact q) (.inl (PyProof.noPylong_small (by omega)))
theorem Qd8:OpR X (binaryOp .Mod) (rI (fun _ j=>0 < j) fun i j=>.int (i % j)):=opI fun i j _ _ _ _ _ hc q=>by
  have h1:(0:Int) < j:=hc
  exact mod_int' (by omega) (by rw [Int.fmod_eq_emod_of_nonneg i (by omega)];exact q)
theorem Qdn:OpR X (binaryOp .Pow) (rI Qfm fun i j=>.int (i ^ j.toNat)):=opI fun _ _ _ _ _ _ _ hc q=>pow_int_small hc.1 hc.2.1 hc.2.2 q
theorem unI {f:Value -> Sem Value} {g:Int -> Int}
    (rule:∀ (i:Int) (t:Tok) (s:Shared) (Q:Value -> Shared -> Prop) (E:Value -> Shared -> Prop),Q (.int (g i) s.toks) { s with toks:=s.toks + 1 } -> wpAny (model X.prog X.w) X.A (f (.int i t)) Q E s) :
    UnR X f (rU fun i=>.int (g i)):=by
  intro pins s σ H x v Q I rx h
  obtain ⟨i,rfl,q⟩:=h
  obtain ⟨t,rfl⟩:=rx
  exact rule i t s _ _ ⟨.int (g i),H,I.tok _,⟨_,rfl⟩,q⟩
theorem QaA:UnR X (unaryOp .USub) (rU fun i=>.int (-i)):=unI fun _ _ _ _ _ q=>neg_int q
end
section
variable {X:Cx} {a b c:Expr} {ta tb tc:TE} {pos:Pos}
theorem kP {pins:List (Addr × Obj)} {σ:St} {H:Hp} {s:Shared} {Q:VK} {k k':Bool} (I:Inv X pins σ H s) (q:Q (.bl k) H) (e:k = k'):EP X pins σ Q (.bool k') s:=by
  subst e
  exact ⟨.bl k,H,I,rfl,q⟩
theorem Qe3:OpR X (compareOp .Lt) (rI0 fun i j=>.bl (decide (i < j))):=Qch fun _ _ _ _ _ _ _ q=>lt_int q
theorem QeY:OpR X (compareOp .LtE) (rI0 fun i j=>.bl (decide (i <= j))):=Qch fun _ _ _ _ _ _ _ q=>le_int q
theorem Qew:OpR X (compareOp .Gt) (rI0 fun i j=>.bl (decide (j < i))):=Qch fun _ _ _ _ _ _ _ q=>gt_int q
theorem QeF:OpR X (compareOp .GtE) (rI0 fun i j=>.bl (decide (j <= i))):=Qch fun _ _ _ _ _ _ _ q=>ge_int q
theorem Qd9:OpR X (compareOp .Is) (fun x y H Q=>y = .non /\ Q (.bl (decide (x = .non))) H):=by
  intro pins s σ H x y v u Q I rx ry h
  obtain ⟨rfl,q⟩:=h
  cases ry
  refine is_none_gen (kP I q ?_)
  cases x <;> first
    | (cases rx;rfl)
    | (obtain ⟨t,rfl⟩:=rx;rfl)
theorem QcK:OpR X (compareOp .IsNot) (fun x y H Q=>y = .non /\ Q (.bl (!decide (x = .non))) H):=by
  intro pins s σ H x y v u Q I rx ry h
  obtain ⟨rfl,q⟩:=h
  cases ry
  refine isnot_none_gen (kP I q ?_)
  cases x <;> first
    | (cases rx;rfl)
    | (obtain ⟨t,rfl⟩:=rx;rfl)
theorem QW (b:Expr) {op:CmpOp} (h:op ≠ .In:=by decide) (h2:op ≠ .NotIn:=by decide):behindInMarks op b = false:=by
  have e1:(op == CmpOp.In) = false:=by cases op <;> first | rfl | exact absurd rfl h
  have e2:(op == CmpOp.NotIn) = false:=by cases op <;> first | rfl | exact absurd rfl h2
  cases b <;> simp [behindInMarks,e1,e2]
theorem QcQ {op:CmpOp} {r:R2} (ho:OpR X (compareOp op) r) (ha:PE X a ta) (hb:PE X b tb) (hm:behindInMarks op b = false):PE X (.Compare a [op] [b] pos) (tOp r ta tb):=by
  intro pins s σ H Q I h
  exact wpAny_Compare1 (QdY ha hb I h fun v u s2 x y H2 I2 rx ry q=>ho pins s2 σ H2 x y v u Q I2 rx ry q) hm
def Qc7 (t:TE):TT:=fun σ H Q=>t σ H fun x H'=>∃ k,x = .bl k /\ Q k H'
theorem Qb6 {op:CmpOp} {r:R2} (ho:OpR X (compareOp op) r) (ha:PE X a ta) (hb:PE X b tb) (hm:behindInMarks op b = false):PT X (.Compare a [op] [b] pos) (Qc7 (tOp r ta tb)):=by
  intro pins s σ H Q I h
  refine wpAny_isTrue_Compare1 (thn (ha pins s σ H _ I h) fun v s1 ⟨x,H1,I1,r1,q1⟩=>thn (hb pins s1 σ H1 _ I1 q1) fun u s2 ⟨y,H2,I2,r2,q2⟩ =>
    thn (ho pins s2 σ H2 x y v u _ I2 r1 r2 q2) fun c s3 ⟨z,H3,I3,r3,k,e,q3⟩=>?_) hm
  subst e
  cases r3
  exact wpAny_truthy_bool ⟨H3,I3,q3⟩
def kM (r r':R2) (ta tb tc:TE):TE:=fun σ H Q=>ta σ H fun x H1=>tb σ H1 fun y H2=>r x y H2 fun z H3=>∃ k,z = .bl k /\
  (if k = true then tc σ H3 fun w' H4=>r' y w' H4 Q else Q (.bl false) H3)
theorem Qbu {op op':CmpOp} {r r':R2} (ho:OpR X (compareOp op) r) (ho':OpR X (compareOp op') r') (ha:PE X a ta) (hb:PE X b tb) (hc:PE X c tc)
    (hm:lastMarks [op,op'] [b,c] = false:=by with_unfolding_all rfl):PT X (.Compare a [op,op'] [b,c] pos) (Qc7 (kM r r' ta tb tc)):=by
  intro pins s σ H Q I h
  refine isTrue_chain (thn (ha pins s σ H _ I h) fun v s1 ⟨x,H1,I1,r1,q1⟩=>test_link (thn (hb pins s1 σ H1 _ I1 q1) fun u s2 ⟨y,H2,I2,r2,q2⟩ =>
    thn (ho pins s2 σ H2 x y v u _ I2 r1 r2 q2) fun d s3 ⟨z,H3,I3,r3,k,e,q3⟩=>?_)) hm
  subst e
  cases r3
  refine wpAny_truthy_bool ?_
  cases k with
  | false =>
    obtain ⟨k',e',q'⟩:=q3
    cases e'
    exact ite_ff ⟨H3,I3,q'⟩
  | true =>
    refine ite_tt (test_last (thn (hc pins s3 σ H3 _ I3 q3) fun w' s4 ⟨z',H4,I4,r4,q4⟩=>thn (ho' pins s4 σ H4 y z' u w' _ I4 r2 r4 q4) fun d' s5 ⟨z2,H5,I5,r5,k2,e2,q5⟩=>?_))
    subst e2
    cases r5
    exact wpAny_truthy_bool ⟨H5,I5,q5⟩
def QdW (K:PySem.W.Frag) (x:V) (H:Hp) (k:Bool):Prop :=
  match x with
  | .non=>k = false
  | .bl b=>k = b
  | .int i=>k = (i != 0)
  | .str y=>y.length <= sizeLine /\ k = ((y.length:Int) != 0)
  | .byt y=>y.size <= sizeLine /\ k = ((y.size:Int) != 0)
  | .ref p=>(∃ xs,SqL K H p xs /\ k = !xs.isEmpty) ∨ (∃ xs,SqT K H p xs /\ k = !xs.isEmpty) ∨ ∃ kvs,H p = some (.dK kvs) /\ k = !kvs.isEmpty
  | _=>False
theorem GD {κ:Type} {kvs:List (κ × V)} {vs:List (κ × Value)} (r:KV kvs vs):(!vs.isEmpty) = !kvs.isEmpty:=by
  cases r <;> rfl
theorem yU {xs:List V} {its:List Value} (r:Vals xs its):(!its.toArray.isEmpty) = !xs.isEmpty:=by
  cases r <;> simp
theorem yy:(sizeLine:Nat) < 2 ^ 63:=by rw [sizeLine_eq];decide
theorem QdT:QfE X (fun x H Q=>∃ k,QdW X.K x H k /\ Q k H):=by
  intro pins s σ H x v Q I rx h
  obtain ⟨k,e,q⟩:=h
  have hl:=yy
  have hs:sizeLine = 16777216:=sizeLine_eq
  cases x with
  | non =>
    cases rx
    have e':k = false:=e
    subst e'
    exact truthy_none ⟨H,I,q⟩
  | bl b =>
    cases rx
    have e':k = b:=e
    subst e'
    exact wpAny_truthy_bool ⟨H,I,q⟩
  | int i =>
    obtain ⟨t,rfl⟩:=rx
    have e':k = (i != 0):=e
    subst e'
    exact PySem.P.truthy_int ⟨H,I,q⟩
  | str y =>
    obtain ⟨t,rfl⟩:=rx
    obtain ⟨hy,e'⟩:y.length <= sizeLine /\ k = ((y.length:Int) != 0):=e
    subst e'
    exact PySem.P.truthy_str (by omega) ⟨H,I.tok _,q⟩
  | byt y =>
    obtain ⟨t,rfl⟩:=rx
    obtain ⟨hy,e'⟩:y.size <= sizeLine /\ k = ((y.size:Int) != 0):=e
    subst e'
    exact PySem.W.truthy_bytes (by omega) ⟨H,I.tok _,q⟩
  | ref p =>
    cases rx
    have e':(∃ xs,SqL X.K H p xs /\ k = !xs.isEmpty) ∨ (∃ xs,SqT X.K H p xs /\ k = !xs.isEmpty) ∨ ∃ kvs,H p = some (.dK kvs) /\ k = !kvs.isEmpty:=e
    rcases e' with ⟨xs,hx,e'⟩ | ⟨xs,hx,e'⟩ | ⟨kvs,hx,e'⟩
    . subst e'
      obtain ⟨its,r,pl,hz⟩:=I.list hx
      have hlen:=r.length
      exact wpAny_truthy_list pl.isList (by simp only [List.size_toArray];omega) ⟨H,I.tok _,by rw [yU r];exact q⟩
    . subst e'
      obtain ⟨its,r,pl,hz⟩:=I.tuple hx
      have hlen:=r.length
      exact truthy_tuple pl (by simp only [List.size_toArray];omega) ⟨H,I.tok _,by rw [yU r];exact q⟩
    . subst e'
      obtain ⟨hz,hS,vs,r,m⟩:kvs.length <= sizeLine /\ (p == sysModules) = false /\ ∃ vs,KV kvs vs /\ s.heap.DictOf (ZT X.prog X.w) p vs:=I.hok p _ hx
      have hlen:kvs.length = vs.length:=Paired.length r
      exact wpAny_truthy_dict hS m (by omega) ⟨H,I.tok _,by rw [GD r];exact q⟩
  | _=>exact (show False from e).elim
theorem kG (ha:PE X a ta) (he:∀ whole,isTrue a X.env whole = (do let v <- whole;standAt a.pos;holding [v] (truthy v))) :
    PT X a (fun σ H Q=>ta σ H fun x H'=>∃ k,QdW X.K x H' k /\ Q k H'):=by
  intro pins s σ H Q I h
  exact isTrue_plain (thn (ha pins s σ H _ I h) fun v s1 ⟨x,H1,I1,r1,q1⟩=>QdT pins s1 σ H1 x v Q I1 r1 q1) (he _)
theorem Ki {x:V} {us:List Value} (r:Vals [x] us):∃ u,us = [u] /\ RelV x u:=by
  cases r with
  | cons r1 r2=>cases r2;exact ⟨_,rfl,r1⟩
theorem Qdl {x y:V} {us:List Value} (r:Vals [x,y] us):∃ u w',us = [u,w'] /\ RelV x u /\ RelV y w':=by
  cases r with
  | cons r1 r2 =>
    cases r2 with
    | cons r3 r4=>cases r4;exact ⟨_,_,rfl,r1,r3⟩
theorem gx (hc:X.calm = true):CallR X (.builtin "max") (fun xs H Q=>∃ i j,xs = [.int i,.int j] /\ Q (.int (if j > i then j else i)) H):=by
  intro pins s σ H xs us Q I r h
  obtain ⟨i,j,rfl,q⟩:=h
  obtain ⟨u,w',rfl,⟨t,rfl⟩,⟨t',rfl⟩⟩:=Qdl r
  refine max_two_ints (I.ok.hd hc) fun h' tk k=>⟨_,H,I.kept k,?_,q⟩
  by_cases hj:j > i
  . rw [if_pos hj,if_pos hj];exact ⟨_,rfl⟩
  . rw [if_neg hj,if_neg hj];exact ⟨_,rfl⟩
theorem gA (hc:X.calm = true):CallR X (.builtin "min") (fun xs H Q=>∃ i j,xs = [.int i,.int j] /\ Q (.int (if j < i then j else i)) H):=by
  intro pins s σ H xs us Q I r h
  obtain ⟨i,j,rfl,q⟩:=h
  obtain ⟨u,w',rfl,⟨t,rfl⟩,⟨t',rfl⟩⟩:=Qdl r
  refine min_two_ints (I.ok.hd hc) fun h' tk k=>⟨_,H,I.kept k,?_,q⟩
  by_cases hj:j < i
  . rw [if_pos hj,if_pos hj];exact ⟨_,rfl⟩
  . rw [if_neg hj,if_neg hj];exact ⟨_,rfl⟩
end
end L2
namespace L2
open PySem PySem.Spec PyProof.Rows
structure ObjM (h:Heap) (x dx C:Addr) (mA:Str -> Option Value):Prop where
  obj:h.get? x = some (PySem.W.instObj C dx)
  ns:h.Ns1 dx mA
  ne:dx ≠ x
theorem kx {h:Heap} {dx:Addr} {mA:Str -> Option Value} (n:h.Ns1 dx mA):∃ od,h.get? dx = some od /\ ∀ name,PySem.W.lookIn name od = some (mA name):=by
  obtain ⟨o,es,ep,ho,hd,hk,_,hm⟩:=n
  refine ⟨o,ho,fun name=>?_⟩
  have e:=hm name
  unfold nsFind findBy at e
  rw [<- Array.find?_toList] at e
  unfold PySem.W.lookIn
  rw [hd]
  dsimp only
  split
  . rename_i y q
    rw [q] at e
    exact congrArg some e
  . rename_i q
    rw [q] at e
    have a:es.toList.any (·.refKey) = false:=by
      rw [List.any_eq_false]
      intro y hy
      obtain ⟨z,t,hkey⟩:=hk y (Array.mem_toList_iff.mp hy)
      simp [DictEntry.refKey,hkey]
    have a':¬ es.toList.any (·.refKey) = true:=by rw [a];exact Bool.false_ne_true
    rw [if_neg a']
    exact congrArg some e
theorem ObjM.look {h:Heap} {x dx C:Addr} {mA:Str -> Option Value} (I:ObjM h x dx C mA):∃ od,PySem.W.InstAt h x (PySem.W.instObj C dx) C (some od) /\ ∀ name,PySem.W.lookIn name od = some (mA name) :=
  let ⟨od,ho,hl⟩:=kx I.ns
  ⟨od,⟨I.obj,rfl,rfl,ho⟩,hl⟩
section
variable {prog:Program} {w:World} {A:Around} {E:Value -> Shared -> Prop} {s:Shared} {K:PySem.W.Frag} {x dx C f:Addr} {mA:Str -> Option Value} {name:Str} {v:Value}
theorem Qcl {expr:Bool} {Q:Value -> Shared -> Prop} (X:K.In s.heap) (I:ObjM s.heap x dx C mA) (hg:PySem.W.plainGet K C name = true) (hh:PySem.W.hasDictIn K C = true)
    (ha:PySem.W.findIn K (.ref C) name = some none) (hv:mA name = some v) (hv':PySem.W.handedIn v = true) (h:Q v { s with toks:=s.toks + 1 }) :
    wpAny (model prog w) A (getAttr (.ref x) name expr) Q E s:=by
  obtain ⟨od,J,hl⟩:=I.look
  exact PySem.W.get_value X J (PySem.W.plainGet_of hg).1 (PySem.W.findObj_own hh ha rfl (by rw [hl,hv])) hv' h
theorem Qaa {pl:Sem Bool} {Q:Value × List Value -> Shared -> Prop} (X:K.In s.heap) (I:ObjM s.heap x dx C mA) (hg:PySem.W.plainGet K C name = true)
    (hf:PySem.W.findIn K (.ref C) name = some (some (.ref f))) (ht:PySem.W.isFn K (.ref f) = true) (hv:mA name = none) (h:Q (.ref f,[.ref x]) s) :
    wpAny (model prog w) A (getMethod (.ref x) name pl) Q E s:=by
  obtain ⟨od,J,hl⟩:=I.look
  exact PySem.W.method_fn X J (PySem.W.plainGet_of hg).1 (PySem.W.plainGet_of hg).2 hf (beq_iff_eq.mp ht) (by show (PySem.W.lookIn name od).map (·.isSome) = some false;rw [hl,hv];rfl) h
theorem Qb5 {ns:List Str} {Q:Unit -> Shared -> Prop} (X:K.In s.heap) (I:ObjM s.heap x dx C mA)
    (hs:PySem.W.findIn K (.ref C) "__setattr__" = some (some (.builtin "object.__setattr__"))) (hp:PySem.W.plainOver K C = true) (ht:PySem.W.takerIn K C name = some none) (hh:PySem.W.hasDictIn K C = true)
    (hw:PySem.Within mA ns) (hsz:ns.length <= sizeLine)
    (h:∀ h',ObjM h' x dx C (fun y=>if y = name then some v else mA y) -> Heap.SameBut dx s.heap h' -> Q () { s with heap:=h',toks:=s.toks + 2 }) :
    wpAny (model prog w) A (setAttr (.ref x) name v) Q E s:=by
  obtain ⟨od,J,hl⟩:=I.look
  refine PySem.W.set_plain X J hs (PySem.W.osa_open (s:={ s with toks:=s.toks + 1 }) (r:=none) X J hp ht fun b=>?_)
  obtain ⟨cd,hc,hd'⟩:=PySem.W.any_some hh
  have hx:s.heap.get? x = some ⟨.ref C,some dx,.plain,#[]⟩:=I.obj
  refine wpAny_bind (wpAny_pure (wpAny_bind (wpAny_bind (wpAny_loadPart hx (wpAny_bind (PySem.W.Looks.here (s:={ s with toks:=s.toks + 1 }) (PySem.W.looks_clsIn X hc) ?_))))))
  rw [hd']
  refine wpAny_pure (a:=some dx) (wpAny_bind (wpAny_pure (wpAny_bind ?_)))
  refine wpAny_nsSet1 (s:={ s with toks:=s.toks + 1 }) I.ns fun h' hn2 hs2=>?_
  obtain ⟨oD,esD,epD,hoD,hdD,hcD⟩:=hn2.count (PySem.Within.cons name v hw)
  refine wpAny_bind (wpAny_lookBehind hoD (by rw [hdD];exact pastItsLine_dict (Nat.le_trans hcD (by rw [List.length_cons];omega))) ?_)
  exact wpAny_pure (h _ ⟨(hs2.2 _ (Ne.symm I.ne)).trans I.obj,hn2,I.ne⟩ hs2)
theorem Qbl {R:Result -> Shared -> Prop} {vs:List Value} {kw:List (Str × Value)} (X:K.In s.heap) (hm:PySem.W.makesIn K C = true)
    (hi:PySem.W.findIn K (.ref C) "__init__" = some (some (.ref f))) (hf:PySem.W.typeIn K (.ref f) = some (.type "function"))
    (h:codeAny (model prog w) (A.under (.builtin "type.__call__" ⟨.ref C :: vs,kw⟩)) (.call (.ref f) ⟨.ref (s.heap.objs.size + 1) :: vs,kw⟩) (PySem.W.InitBack (s.heap.objs.size + 1) R)
      { s with heap:=(s.heap.push PySem.W.emptyDict).push (PySem.W.instObj C s.heap.objs.size) }) :
    codeAny (model prog w) A (.call (.ref C) ⟨vs,kw⟩) R s:=by
  obtain ⟨hh,g,d,t,os⟩:=s
  exact PySem.W.make_core (PySem.W.makes_of X hm) (PySem.W.looks_findIn X hi) (fun self=>PySem.W.bind_fn X self hf) (.inl rfl) h
end
def Yn (f:Str) (v:V):List (Str × V) -> List (Str × V)
  | []=>[(f,v)]
  | (g,x) :: r=>if g = f then (g,v) :: r else (g,x) :: Yn f v r
theorem xl (f g:Str) (v:V):∀ fs:List (Str × V),(Yn f v fs).lookup g = if g = f then some v else fs.lookup g
  | []=>by
    show List.lookup g [(f,v)] = _
    by_cases h:g = f
    . have hb:(g == f) = true:=beq_iff_eq.mpr h
      simp only [List.lookup,hb,if_pos h]
    . have hb:(g == f) = false:=beq_eq_false_iff_ne.mpr h
      simp only [List.lookup,hb,if_neg h]
  | (k,x) :: r=>by
    have ih:=xl f g v r
    rw [show Yn f v ((k,x) :: r) = (if k = f then (k,v) :: r else (k,x) :: Yn f v r) from rfl]
    by_cases hk:k = f
    . rw [if_pos hk]
      by_cases h:g = k
      . have hb:(g == k) = true:=beq_iff_eq.mpr h
        simp only [List.lookup,hb,if_pos (h.trans hk)]
      . have hb:(g == k) = false:=beq_eq_false_iff_ne.mpr h
        simp only [List.lookup,hb,if_neg (fun e:g = f=>h (e.trans hk.symm))]
    . rw [if_neg hk]
      by_cases h:g = k
      . have hb:(g == k) = true:=beq_iff_eq.mpr h
        simp only [List.lookup,hb,if_neg (fun e:g = f=>hk (h.symm.trans e))]
      . have hb:(g == k) = false:=beq_eq_false_iff_ne.mpr h
        simp only [List.lookup,hb]
        exact ih
theorem jQ (f:Str) (v:V):∀ fs:List (Str × V),f ∈ (Yn f v fs).map (·.1) /\ ∀ g,g ∈ fs.map (·.1) -> g ∈ (Yn f v fs).map (·.1)
  | []=>⟨by simp [Yn],fun g h=>by simp at h⟩
  | (k,x) :: r=>by
    obtain ⟨i1,i2⟩:=jQ f v r
    rw [show Yn f v ((k,x) :: r) = (if k = f then (k,v) :: r else (k,x) :: Yn f v r) from rfl]
    by_cases hk:k = f
    . rw [if_pos hk]
      subst hk
      exact ⟨by simp,fun g h=>by simpa using h⟩
    . rw [if_neg hk]
      refine ⟨?_,fun g h=>?_⟩
      . rw [List.map_cons]
        exact List.mem_cons_of_mem _ i1
      . rw [List.map_cons] at h ⊢
        rcases List.mem_cons.mp h with e | e
        . exact List.mem_cons.mpr (.inl e)
        . exact List.mem_cons_of_mem _ (i2 g e)
theorem j8 (f:Str) (v:V):∀ fs:List (Str × V),(Yn f v fs).length <= fs.length + 1
  | []=>by simp [Yn]
  | (k,x) :: r=>by
    have ih:=j8 f v r
    rw [show Yn f v ((k,x) :: r) = (if k = f then (k,v) :: r else (k,x) :: Yn f v r) from rfl]
    by_cases hk:k = f
    . rw [if_pos hk,List.length_cons,List.length_cons];omega
    . rw [if_neg hk,List.length_cons,List.length_cons];omega
theorem RelO.some_of {v:V} {o:Option Value} (r:RelO (some v) o):∃ u,o = some u /\ RelV v u:=by
  cases o with
  | none=>exact (show False from r).elim
  | some u=>exact ⟨u,rfl,r⟩
theorem RelO.none_of {o:Option Value} (r:RelO none o):o = none:=by
  cases o with
  | none=>rfl
  | some u=>exact (show False from r).elim
theorem kz {v:V} {u:Value} (r:RelV v u):PySem.W.handedIn u = true:=by
  cases v with
  | non=>cases (show u = Value.none from r);rfl
  | bl b=>cases (show u = Value.bool b from r);rfl
  | int i=>obtain ⟨t,e⟩:=(show ∃ t,u = Value.int i t from r);cases e;rfl
  | str x=>obtain ⟨t,e⟩:=(show ∃ t,u = Value.str x t from r);cases e;rfl
  | byt b=>obtain ⟨t,e⟩:=(show ∃ t,u = Value.bytes b t from r);cases e;rfl
  | flt b=>obtain ⟨t,e⟩:=(show ∃ t,u = Value.float b t from r);cases e;rfl
  | ref a=>cases (show u = Value.ref a from r);rfl
  | ty n=>cases (show u = Value.type n from r);rfl
section
variable {P:Program} {w:World} {H H':Hp} {h h':Heap} {a C dx:Addr} {fs fs':List (Str × V)}
theorem UW (hok:HOk P w H h) (e:H a = some (.ins C dx fs)):∃ mA,ObjM h a dx C mA /\ (∀ f,RelO (fs.lookup f) (mA f)) /\ PySem.Within mA (fs.map (·.1)) /\ fs.length <= 1000 /\ H dx = some (.own a):=by
  obtain ⟨d,z,ne,ob,mA,n,r,q⟩:=(show ObjOk P w H h a (.ins C dx fs) from hok a _ e)
  exact ⟨mA,⟨ob,n,ne⟩,r,q,z,d⟩
end
structure Cls (K:PySem.W.Frag) (C:Addr):Prop where
  pg:PySem.W.plainGet K C Str.empty = true
  hd:PySem.W.hasDictIn K C = true
  po:PySem.W.plainOver K C = true
  sa:PySem.W.findIn K (.ref C) "__setattr__" = some (some (.builtin "object.__setattr__"))
theorem Cls.get {K:PySem.W.Frag} {C:Addr} (c:Cls K C) (f:Str):PySem.W.plainGet K C f = true:=c.pg
def NoAttr (K:PySem.W.Frag) (C:Addr) (f:Str):Prop:=PySem.W.findIn K (.ref C) f = some none
theorem NoAttr.taker {K:PySem.W.Frag} {C:Addr} {f:Str} (n:NoAttr K C f):PySem.W.takerIn K C f = some none:=by
  unfold PySem.W.takerIn
  rw [show PySem.W.findIn K (.ref C) f = some none from n]
  rfl
structure jY (K:PySem.W.Frag) (C:Addr) (m:Str) (f:Addr):Prop where
  at_:PySem.W.findIn K (.ref C) m = some (some (.ref f))
  fn:PySem.W.isFn K (.ref f) = true
  kp:PySem.W.keepIn K (.ref f) = true
section
variable {X:Cx} {pins:List (Addr × Obj)} {σ:St} {H:Hp} {s:Shared} {a C dx:Addr} {fs:List (Str × V)} {f:Str} {v:V} {A:Around} {E:Value -> Shared -> Prop}
theorem yd {b:Bool} {Q:Value -> Shared -> Prop} (I:Inv X pins σ H s) (e:H a = some (.ins C dx fs)) (c:Cls X.K C) (n:NoAttr X.K C f) (l:fs.lookup f = some v)
    (h:∀ u s',Inv X pins σ H s' -> RelV v u -> Q u s'):wpAny (model X.prog X.w) A (getAttr (.ref a) f b) Q E s:=by
  obtain ⟨mA,O,r,_,_,_⟩:=UW I.hok e
  obtain ⟨u,hu,ru⟩:=RelO.some_of (v:=v) (o:=mA f) (by rw [<- l];exact r f)
  exact Qcl I.kIn O (c.get f) c.hd n hu (kz ru) (h u _ (I.tok _) ru)
theorem zM {m:Str} {g:Addr} {pl:Sem Bool} {Q:Value × List Value -> Shared -> Prop} (I:Inv X pins σ H s) (e:H a = some (.ins C dx fs)) (c:Cls X.K C) (k:jY X.K C m g) (l:fs.lookup m = none)
    (h:Q (.ref g,[.ref a]) s):wpAny (model X.prog X.w) A (getMethod (.ref a) m pl) Q E s:=by
  obtain ⟨mA,O,r,_,_,_⟩:=UW I.hok e
  have hn:mA m = none:=RelO.none_of (by rw [<- l];exact r m)
  exact Qaa I.kIn O (c.get m) k.at_ k.fn hn h
theorem yF {y:V} {u:Value} {Q:Unit -> Shared -> Prop} (I:Inv X pins σ H s) (e:H a = some (.ins C dx fs)) (c:Cls X.K C) (n:NoAttr X.K C f) (hl:fs.length < 1000) (ry:RelV y u)
    (h:∀ s',Inv X pins σ (upd H a (.ins C dx (Yn f y fs))) s' -> Q () s'):wpAny (model X.prog X.w) A (setAttr (.ref a) f u) Q E s:=by
  obtain ⟨mA,O,r,wi,_,ho⟩:=UW I.hok e
  have hz:(fs.map (·.1)).length <= sizeLine:=by rw [List.length_map,sizeLine_eq];omega
  refine Qb5 I.kIn O c.sa c.po n.taker c.hd wi hz fun h' O' sb=>h _ ?_
  have hd:∃ o,h'.get? dx = some o:=let ⟨o,_,_,e',_⟩:=O'.ns;⟨o,e'⟩
  refine I.write (x:=a) (e:=dx) (by rw [e];exact True.intro) (.inr ho) (fun b q hb z=>(sb.2 b hb).trans z) hd ?_
  refine ⟨by rw [QE O.ne];exact ho,?_,O.ne,O'.obj,_,O'.ns,fun g=>?_,fun g hg=>?_⟩
  . have:=j8 f y fs;omega
  . show RelO ((Yn f y fs).lookup g) (if g = f then some u else mA g)
    rw [xl]
    by_cases q:g = f
    . rw [if_pos q,if_pos q];exact ry
    . rw [if_neg q,if_neg q];exact r g
  . by_cases q:g = f
    . rw [q];exact (jQ f y fs).1
    . refine (jQ f y fs).2 g (wi g fun z=>hg ?_)
      show (if g = f then some u else mA g) = none
      rw [if_neg q];exact z
theorem Inv.made (I:Inv X pins σ H s):Inv X pins σ (upd (upd H s.heap.objs.size (.own (s.heap.objs.size + 1))) (s.heap.objs.size + 1) (.ins C s.heap.objs.size []))
    { s with heap:=(s.heap.push PySem.W.emptyDict).push (PySem.W.instObj C s.heap.objs.size) }:=by
  have e1:(s.heap.push PySem.W.emptyDict).get? s.heap.objs.size = some PySem.W.emptyDict:=Heap.get?_push_size s.heap rfl
  have e2:((s.heap.push PySem.W.emptyDict).push (PySem.W.instObj C s.heap.objs.size)).get? (s.heap.objs.size + 1) = some (PySem.W.instObj C s.heap.objs.size):=by
    have:=Heap.get?_push_size (s.heap.push PySem.W.emptyDict) (o:=PySem.W.instObj C s.heap.objs.size) rfl
    rwa [Heap.size_push] at this
  have e3:(s.heap.push PySem.W.emptyDict).Ns s.heap.objs.size (fun _=>none):=⟨PySem.W.emptyDict,#[],_,e1,rfl,(fun e he=>absurd he (by simp)),fun _=>rfl⟩
  have I1:=I.laid (a:=s.heap.objs.size) (o:=.own (s.heap.objs.size + 1)) (h':=s.heap.push PySem.W.emptyDict) (t':=s.toks) (fun b u q=>Heap.get?_push_of_some _ q) (Nat.le_refl _) ⟨_,e1⟩
  refine I1.laid (a:=s.heap.objs.size + 1) (o:=.ins C s.heap.objs.size []) (t':=s.toks) (fun b u q=>Heap.get?_push_of_some _ q) (Nat.le_of_eq (Heap.size_push _ _)) ?_
  have ne:s.heap.objs.size ≠ s.heap.objs.size + 1:=Nat.ne_of_lt (Nat.lt_succ_self _)
  refine ⟨by rw [QE ne,QR],Nat.zero_le _,ne,e2,fun _=>none,(Heap.Ns1.of_empty e3).at fun o q=>Heap.get?_push_of_some _ q,fun _=>True.intro,fun y hy=>absurd rfl hy⟩
theorem QbZ {prog:Program} {w:World} {env:Env} {e:Expr} {f:Str} {pos:Pos} {s:Shared} {Q:Value -> Shared -> Prop} (hb:attributeBase e f env (eval e env) = eval e env)
    (h:wpAny (model prog w) A (eval e env) (fun o s₁=>wpAny (model prog w) A (getAttr o f true) Q E s₁) E s):wpAny (model prog w) A (eval (.Attribute e f pos) env) Q E s :=
  Attribute_any_ h (by rw [arm_eval_Attribute,hb])
end
def QfA (K:PySem.W.Frag) (ta:TE) (f:Str):TE:=fun σ H Q=>ta σ H fun x H1=>∃ a C dx fs v,x = .ref a /\ H1 a = some (.ins C dx fs) /\ Cls K C /\ NoAttr K C f /\ fs.lookup f = some v /\ Q v H1
def Qfk (K:PySem.W.Frag) (ta tv:TE) (f:Str):TS:=fun D σ H=>tv σ H fun y H1=>ta σ H1 fun x H2=>∃ a C dx fs,x = .ref a /\ H2 a = some (.ins C dx fs) /\ Cls K C /\ NoAttr K C f /\ fs.length < 1000 /\
  D.nx σ (upd H2 a (.ins C dx (Yn f y fs)))
def Qeu (X:Cx) (op:Operator) (rd:V -> V -> Hp -> VK -> Prop):Prop :=
  ∀ (pins:List (Addr × Obj)) (s:Shared) (σ:St) (H:Hp) (x y:V) (u v:Value) (Q:VK),Inv X pins σ H s -> RelV x u -> RelV y v -> rd x y H Q -> wpAny (model X.prog X.w) X.A (inplaceOp op u v) (EP X pins σ Q) X.xe s
def Qcg (K:PySem.W.Frag) (ta tv:TE) (rd:V -> V -> Hp -> VK -> Prop) (f:Str):TS:=fun D σ H=>ta σ H fun x H1=>∃ a C dx fs v,x = .ref a /\ H1 a = some (.ins C dx fs) /\ Cls K C /\ NoAttr K C f /\ fs.lookup f = some v /\
  tv σ H1 fun y H2=>rd v y H2 fun z H3=>∃ dx' fs',H3 a = some (.ins C dx' fs') /\ fs'.length < 1000 /\ D.nx σ (upd H3 a (.ins C dx' (Yn f z fs')))
section
variable {X:Cx} {o e value:Expr} {f:Str} {pos pos' tpos:Pos} {ta tv:TE}
theorem Qdw (he:PE X e ta) (hb:attributeBase e f X.env (eval e X.env) = eval e X.env):PE X (.Attribute e f pos) (QfA X.K ta f):=by
  intro pins s σ H Q I h
  refine QbZ hb (thn (he pins s σ H _ I h) fun u s1 ⟨x,H1,I1,rx,a,C,dx,fs,v,ex,ea,c,n,l,q⟩=>?_)
  subst ex
  obtain rfl:u = Value.ref a:=rx
  exact yd I1 ea c n l fun u' s2 I2 ru=>⟨v,H1,I2,ru,q⟩
theorem Qd1 (ha:PE X o ta) (hv:PE X value tv) (hs:swapsWith value (some (.Attribute o f pos')) pos.line X.env = pure false):PS X (.Assign [.Attribute o f pos'] value pos) (Qfk X.K ta tv f):=by
  intro pins s σ H D I h
  refine plainObj_wpAny_Assign_Attribute (thn (hv pins s σ H _ I h) fun u s1 ⟨y,H1,I1,ry,q⟩=>thn (ha pins s1 σ H1 _ I1 q) fun ov s2 ⟨x,H2,I2,rx,a,C,dx,fs,ex,ea,c,n,l,q2⟩=>?_) hs
  subst ex
  obtain rfl:ov = Value.ref a:=rx
  exact yF I2 ea c n l ry fun s3 I3=>⟨σ,_,I3,q2⟩
theorem gw {op:Operator} {rd:V -> V -> Hp -> VK -> Prop} (ha:PE X o ta) (hv:PE X value tv) (hop:Qeu X op rd):PS X (.AugAssign (.Attribute o f tpos) op value pos) (Qcg X.K ta tv rd f):=by
  intro pins s σ H D I h
  refine wpAny_AugAssign_AttributeAny (thn (ha pins s σ H _ I h) fun ov s1 ⟨x,H1,I1,rx,a,C,dx,fs,v,ex,ea,c,n,l,q⟩=>?_)
  subst ex
  obtain rfl:ov = Value.ref a:=rx
  refine yd I1 ea c n l fun u s2 I2 ru=>thn (hv pins s2 σ H1 _ I2 q) fun w3 s3 ⟨y,H2,I3,ry,q3⟩=>thn (hop pins s3 σ H2 v y u w3 _ I3 ru ry q3) fun w4 s4 ⟨z,H3,I4,rz,dx',fs',ea',l',q4⟩=>?_
  exact yF I4 ea' c n l' rz fun s5 I5=>⟨σ,_,I5,q4⟩
def Qfv:V -> V -> Hp -> VK -> Prop:=fun x y H Q=>∃ i j,x = .int i /\ y = .int j /\ Q (.int (i + j)) H
theorem QdI:Qeu X .Add Qfv:=by
  rintro pins s σ H x y u v Q I rx ry ⟨i,j,rfl,rfl,q⟩
  obtain ⟨t,rfl⟩:=(show ∃ t,u = Value.int i t from rx)
  obtain ⟨t',rfl⟩:=(show ∃ t',v = Value.int j t' from ry)
  exact PyProof.Rows.iadd_int ⟨.int (i + j),H,I.tok _,⟨_,rfl⟩,q⟩
theorem Qdd {pl:Sem Bool} {m:Str} {apos:Pos} {args:List Expr} {pins:List (Addr × Obj)} {s:Shared} {σ:St} {H:Hp} {Q:Value -> Shared -> Prop} {te:TE} (he:PE X e te) (I:Inv X pins σ H s)
    (h:te σ H fun x H1=>∃ a C dx fs g,x = .ref a /\ H1 a = some (.ins C dx fs) /\ Cls X.K C /\ jY X.K C m g /\ fs.lookup m = none /\
      ∀ s1,Inv X pins σ H1 s1 -> wpAny (model X.prog X.w) X.A (callWith pos (.ref g) [.ref a] (backTo pos (starEach args X.env)) (backToKw pos (keywordEach [] X.env))) Q X.xe s1)
    (ht:eval (.Call (.Attribute e m apos) args [] pos) X.env = (do
      let ov <- eval e X.env
      standAt apos.atName
      let (f,first) <- holding [ov] (getMethod ov m pl)
      callWith pos f first (backTo pos (starEach args X.env)) (backToKw pos (keywordEach [] X.env)))) :
    wpAny (model X.prog X.w) X.A (eval (.Call (.Attribute e m apos) args [] pos) X.env) Q X.xe s:=by
  refine PySem.W.methodCall_KW (pl:=pl) (thn (he pins s σ H _ I h) fun u s1 ⟨x,H1,I1,rx,a,C,dx,fs,g,ex,ea,c,k,l,q⟩=>?_) ht
  subst ex
  obtain rfl:u = Value.ref a:=rx
  exact zM I1 ea c k l (q s1 I1)
end
section
variable {X:Cx} {pins:List (Addr × Obj)} {σ:St} {H:Hp} {s:Shared} {A:Around} {E:Value -> Shared -> Prop} {Q:Value -> Shared -> Prop} {c:Value} {b:Bool}
end
end L2
namespace L2
open PySem PySem.Spec PyProof.Rows
structure Room (k:Nat) (A:Around):Prop where
  hd:A.handled = none
  dp:A.depth + 3 * k + 5 < recursionLimit
  un:A.units + 16 * k + 200 < cLine
theorem Room.mono {j k:Nat} {A:Around} (r:Room k A) (h:j <= k):Room j A:=⟨r.hd,by have:=r.dp;omega,by have:=r.un;omega⟩
theorem Room.deeper {k:Nat} {A:Around} (r:Room (k + 1) A) (env:Env):Room k (A.deeper env) :=
  ⟨r.hd,by have:=r.dp;show A.depth + 1 + 3 * k + 5 < _;omega,by have:=r.un;show A.units + 3 + 16 * k + 200 < _;omega⟩
theorem Room.in1 {k:Nat} {A:Around} (r:Room (k + 1) A):Room k A.in1 :=
  ⟨r.hd,by have:=r.dp;show A.depth + 3 * k + 5 < _;omega,by have:=r.un;show A.units + 1 + 16 * k + 200 < _;omega⟩
theorem G3 {A:Around} {C:Addr} {us:List Value} {kw:List (Str × Value)}:(A.under (.builtin "type.__call__" ⟨.ref C :: us,kw⟩)).depth = A.depth + 1:=by
  first | rfl | simp [Around.under,Code.weight,Code.isCreation,Code.isGuard,Code.isCaller,Code.frames,Code.isFrame,guardIds]
theorem GX {A:Around} {C:Addr} {us:List Value} {kw:List (Str × Value)}:(A.under (.builtin "type.__call__" ⟨.ref C :: us,kw⟩)).units = A.units + 1:=by
  first | rfl | simp [Around.under,Code.cUnits,Code.frames,Code.isFrame]
theorem Room.make {k:Nat} {A:Around} (r:Room (k + 1) A) (C:Addr) (us:List Value) (kw:List (Str × Value)):Room k (A.under (.builtin "type.__call__" ⟨.ref C :: us,kw⟩)) :=
  ⟨r.hd,by have:=r.dp;rw [G3];omega,by have:=r.un;rw [GX];omega⟩
theorem Room.depth {k:Nat} {A:Around} (r:Room k A):A.depth < recursionLimit:=by have:=r.dp;omega
theorem Room.units {k:Nat} {A:Around} (r:Room k A):A.units + 64 < cLine:=by have:=r.un;omega
def QeN:TA:=fun _ H Q=>Q [] H
def QeC (ta:TE) (tr:TA):TA:=fun σ H Q=>ta σ H fun x H1=>tr σ H1 fun xs H2=>Q (x :: xs) H2
section
variable {X:Cx} {e:Expr} {es:List Expr} {te:TE} {t:TA} {pos:Pos}
theorem pa_nil:PA X [] QeN:=fun _ _ _ _ H Q I h=>Calls.spliced_nil ⟨[],H,I,.nil,h⟩
theorem zk (ha:PE X e te) (hr:PA X es t) (hs:starEach (e :: es) X.env = (false,eval e X.env) :: starEach es X.env:=by rfl):PA X (e :: es) (QeC te t):=by
  intro pos pins s σ H Q I h
  rw [hs]
  show wpAny _ _ (spliced ((false,eval e X.env) :: backTo pos (starEach es X.env))) _ _ s
  refine Calls.spliced_cons (thn (ha pins s σ H _ I h) fun u s1 ⟨x,H1,I1,r1,q1⟩=>?_)
  exact thn (hr pos pins s1 σ H1 _ I1 q1) fun us s2 ⟨xs,H2,I2,r2,q2⟩=>⟨x :: xs,H2,I2,.cons r1 r2,q2⟩
def QfN (t:TA):TE:=fun σ H Q=>t σ H fun xs H1=>xs.length <= sizeLine /\ ∀ p,H1 p = none -> Q (.ref p) (upd H1 p (.tup xs))
def QfB (t:TA):TE:=fun σ H Q=>t σ H fun xs H1=>xs.length <= sizeLine /\ ∀ p,H1 p = none -> Q (.ref p) (upd H1 p (.lst xs))
theorem Qd7 {x1} (h:PA X es t):PE X (.Tuple es x1 pos) (QfN t):=by
  intro pins s σ H Q I hq
  refine wpAny_Tuple_spliced (thn (h pos pins s σ H _ I hq) fun us s1 ⟨xs,H1,I1,r,z,q⟩=>⟨by rw [<- r.length];exact z,?_⟩)
  have hf:H1 s1.heap.objs.size = none:=I1.hok.fresh (Nat.le_refl _)
  refine ⟨.ref s1.heap.objs.size,upd H1 s1.heap.objs.size (.tup xs),I1.laid (t':=s1.toks) (fun b u e=>Heap.get?_push_of_some _ e) (Nat.le_refl _) ?_,rfl,q _ hf⟩
  exact ⟨z,us,r,⟨_,Heap.get?_push_size _ rfl,rfl,_,rfl⟩⟩
theorem vn (h:PA X es t):PE X (.List es pos) (QfB t):=by
  intro pins s σ H Q I hq
  refine wpAny_List_spliced (thn (h pos pins s σ H _ I hq) fun us s1 ⟨xs,H1,I1,r,z,q⟩=>⟨by rw [<- r.length];exact z,?_⟩)
  have hf:H1 s1.heap.objs.size = none:=I1.hok.fresh (Nat.le_refl _)
  refine ⟨.ref s1.heap.objs.size,upd H1 s1.heap.objs.size (.lst xs),I1.laid (t':=s1.toks) (fun b u e=>Heap.get?_push_of_some _ e) (Nat.le_refl _) ?_,rfl,q _ hf⟩
  exact ⟨z,us,0,r,Heap.get?_push_size _ rfl⟩
end
abbrev Sp:=List V -> Hp -> VK -> XK -> Prop
abbrev CXT:=List Env -> Hp -> Shared -> XK -> Value -> Shared -> Prop
structure Env0 (P:Program) (w:World) (K:PySem.W.Frag) (mg:Str -> Option Value) (base:Heap) (A:Around) (outer:List Env) (s:Shared) (H:Hp):Prop where
  frames:A.frames = some outer
  mod:Mod K mg base
  bs:∀ b o,base.get? b = some o -> s.heap.get? b = some o /\ H b = none
  bsz:base.objs.size <= s.heap.objs.size
  funs:s.heap.FunFrames base outer
  frf:∀ b ∈ frs outer,H b = none
  hok:HOk P w H s.heap
  bare:AllBare s.gens
def CE (outer:List Env) (P:Program) (w:World) (H:Hp) (s:Shared) (Q:VK) (u:Value) (s':Shared):Prop :=
  ∃ v H',s'.os = s.os /\ AllBare s'.gens /\ Un (frs outer) [] H H' s.heap s'.heap /\ HOk P w H' s'.heap /\ RelV v u /\ Q v H'
def CR (CX:CXT) (outer:List Env) (P:Program) (w:World) (H:Hp) (s:Shared) (Q:VK) (E:XK) (r:Result) (s':Shared):Prop :=
  match r with
  | .ok (.ret u)=>CE outer P w H s Q u s'
  | .ok _=>False
  | .error e=>CX outer H s E e s'
structure FnOk (P:Program) (w:World) (K:PySem.W.Frag) (mg:Str -> Option Value) (base:Heap) (CX:CXT) (k:Nat) (f:Addr) (fd:FuncData) (ps:List Str) (sp:Sp):Prop where
  len:∀ vs H Q E,sp vs H Q E -> vs.length = ps.length
  run:∀ (A:Around) (outer:List Env) (s:Shared) (H:Hp) (args:Args) (us:List Value) (vs:List V) (Q:VK) (E:XK),Room k A -> Env0 P w K mg base A outer s H -> BindsTo s fd args (ps.zip us) -> Vals vs us -> sp vs H Q E ->
    codeAny (model P w) A (.call (.ref f) args) (CR CX outer P w H s Q E) s
theorem FnOk.mono {P:Program} {w:World} {K:PySem.W.Frag} {mg:Str -> Option Value} {base:Heap} {CX:CXT} {j k:Nat} {f:Addr} {fd:FuncData} {ps:List Str} {sp:Sp} (F:FnOk P w K mg base CX j f fd ps sp) (h:j <= k) :
    FnOk P w K mg base CX k f fd ps sp:=⟨F.len,fun A outer s H args us vs Q E hr=>F.run A outer s H args us vs Q E (hr.mono h)⟩
theorem FnOk.imp {P:Program} {w:World} {K:PySem.W.Frag} {mg:Str -> Option Value} {base:Heap} {CX:CXT} {k:Nat} {f:Addr} {fd:FuncData} {ps:List Str} {sp sp':Sp} (F:FnOk P w K mg base CX k f fd ps sp)
    (h:∀ vs H Q E,sp' vs H Q E -> sp vs H Q E):FnOk P w K mg base CX k f fd ps sp' :=
  ⟨fun vs H Q E q=>F.len vs H Q E (h _ _ _ _ q),fun A outer s H args us vs Q E hr he hb hv hs=>F.run A outer s H args us vs Q E hr he hb hv (h _ _ _ _ hs)⟩
theorem Env0.make {P:Program} {w:World} {K:PySem.W.Frag} {mg:Str -> Option Value} {base:Heap} {A:Around} {outer:List Env} {s:Shared} {H:Hp} (e:Env0 P w K mg base A outer s H) (C:Addr) (us:List Value) (kw:List (Str × Value)) :
    Env0 P w K mg base (A.under (.builtin "type.__call__" ⟨.ref C :: us,kw⟩)) outer s H:=⟨by first | exact e.frames | (simpa [Around.under,Code.envs,Code.isFrame,pushEnvs] using e.frames),e.mod,e.bs,e.bsz,e.funs,e.frf,e.hok,e.bare⟩
theorem Env0.in1 {P:Program} {w:World} {K:PySem.W.Frag} {mg:Str -> Option Value} {base:Heap} {A:Around} {outer:List Env} {s:Shared} {H:Hp} (e:Env0 P w K mg base A outer s H) :
    Env0 P w K mg base A.in1 outer s H:=⟨e.frames,e.mod,e.bs,e.bsz,e.funs,e.frf,e.hok,e.bare⟩
section
variable {X:Cx} {pins:List (Addr × Obj)} {σ:St} {H:Hp} {s s':Shared}
theorem Inv.env0 (I:Inv X pins σ H s):Env0 X.prog X.w X.K X.mg X.base X.A X.stack s H :=
  ⟨I.ok.frames,I.ok.mod,I.bs,Nat.le_trans I.ok.bsz I.sz,I.stack,I.stkFree,I.hok,I.bare⟩
theorem Inv.after {Q:VK} {u:Value} (I:Inv X pins σ H s) (h:CE X.stack X.prog X.w H s Q u s'):EP X pins σ Q u s':=by
  obtain ⟨v,H',os,bare,un,hok,r,q⟩:=h
  obtain ⟨hh,g,d,t,os'⟩:=s'
  obtain rfl:os' = s.os:=os
  exact ⟨v,H',I.call (h':=hh) (g':=g) (d':=d) (t':=t) (ch:=[]) un hok bare (fun b z=>absurd z (by simp)),r,q⟩
end
def QeA (sp:Sp) (dvs:List V) (E:XK) (t:TA):TE:=fun σ H Q=>t σ H fun vs H1=>sp (vs ++ dvs) H1 Q E
def kK (C:Addr) (m:Str) (sp:Sp) (dvs:List V) (E:XK) (ta:TE) (t:TA):TE:=fun σ H Q=>ta σ H fun x H1=>∃ a dx fs,x = .ref a /\ H1 a = some (.ins C dx fs) /\ fs.lookup m = none /\
  t σ H1 fun vs H2=>sp (x :: (vs ++ dvs)) H2 Q E
def Binds (K:PySem.W.Frag) (fd:FuncData) (ps:List Str) (ds:List Value):Prop :=
  ∀ (s:Shared) (us:List Value),K.In s.heap -> (us ++ ds).length = ps.length -> BindsTo s fd ⟨us,[]⟩ (ps.zip (us ++ ds))
theorem Binds.all {K:PySem.W.Frag} {fd:FuncData} {ps:List Str} (h:∀ us:List Value,us.length = ps.length -> bindArgs fd ⟨us,[]⟩ = pure (ps.zip us)):Binds K fd ps []:=fun s us _ hl=>by
  rw [List.append_nil] at hl ⊢
  exact .of_eq (h us hl)
def Ym (CX:CXT) (X:Cx) (E:XK):Prop:=∀ (pins:List (Addr × Obj)) (σ:St) (H:Hp) (s:Shared) (e:Value) (s':Shared),Inv X pins σ H s -> CX X.stack H s E e s' -> X.xe e s'
section
variable {X:Cx} {CX:CXT} {k:Nat} {f C:Addr} {fd:FuncData} {ps:List Str} {sp:Sp} {dvs:List V} {ds:List Value} {E:XK} {x m:Str} {p pos apos:Pos} {e o:Expr} {es:List Expr} {ta:TE} {t:TA}
theorem vm {pins:List (Addr × Obj)} {σ:St} {H:Hp} {s:Shared} {Q:VK} {us:List Value} {vs:List V} (F:FnOk X.prog X.w X.K X.mg X.base CX k f fd ps sp) (hr:Room k X.A) (hb:Binds X.K fd ps ds) (hd:Vals dvs ds) (hx:Ym CX X E)
    (I:Inv X pins σ H s) (r:Vals vs us) (h:sp (vs ++ dvs) H Q E):wpAny (model X.prog X.w) X.A (call (.ref f) us) (EP X pins σ Q) X.xe s:=by
  have r2:Vals (vs ++ dvs) (us ++ ds):=r.append hd
  have hl:(us ++ ds).length = ps.length:=by rw [<- r2.length];exact F.len _ _ _ _ h
  refine wpAny_call (codeAny_mono (F.run X.A X.stack s H ⟨us,[]⟩ (us ++ ds) (vs ++ dvs) Q E hr I.env0 (hb s us I.kIn hl) r2 h) fun r s' hq=>?_)
  cases r with
  | error e=>exact hx pins σ H s e s' I hq
  | ok fl =>
    cases fl with
    | ret u=>exact I.after hq
    | next=>exact False.elim hq
    | brk=>exact False.elim hq
    | cont=>exact False.elim hq
theorem Qcd (F:FnOk X.prog X.w X.K X.mg X.base CX k f fd ps sp) (hr:Room k X.A) (hg:Gl X x) (hm:X.mg x = some (.ref f)) (hk:PySem.W.keepIn X.K (.ref f) = true) (hb:Binds X.K fd ps ds) (hd:Vals dvs ds) (hx:Ym CX X E)
    (ha:PA X (e :: es) t) (hdb:(x == ("__debug__" : Str)) = false:=by decide) (he:starEach (e :: es) X.env = (false,eval e X.env) :: starEach es X.env:=by rfl) (hpl:(backTo pos (starEach es X.env)).any (·.1) = false:=by rfl) :
    PE X (.Call (.Name x p) (e :: es) [] pos) (QeA sp dvs E t):=by
  intro pins s σ H Q I h
  refine wpAny_Call_Name_kw (UX I hg hm ?_ hdb)
  refine PySem.W.callWith_K (h₀:=X.base) I.ok.mod.kin hk (thn (ha pos pins s σ H _ I h) fun us s1 ⟨vs,H1,I1,r,q⟩=>⟨I1.kIn,?_⟩) he hpl
  exact vm F hr hb hd hx I1 r q
theorem QcU {pl:Sem Bool} (he:PE X o ta) (c:Cls X.K C) (hm:jY X.K C m f) (F:FnOk X.prog X.w X.K X.mg X.base CX k f fd ps sp) (hr:Room k X.A) (hb:Binds X.K fd ps ds) (hd:Vals dvs ds) (hx:Ym CX X E) (ha:PA X (e :: es) t)
    (hst:starEach (e :: es) X.env = (false,eval e X.env) :: starEach es X.env:=by rfl) (hpl:(backTo pos (starEach es X.env)).any (·.1) = false:=by rfl)
    (ht:eval (.Call (.Attribute o m apos) (e :: es) [] pos) X.env = (do
      let ov <- eval o X.env
      standAt apos.atName
      let (f,first) <- holding [ov] (getMethod ov m pl)
      callWith pos f first (backTo pos (starEach (e :: es) X.env)) (backToKw pos (keywordEach [] X.env))):=by rfl) :
    PE X (.Call (.Attribute o m apos) (e :: es) [] pos) (kK C m sp dvs E ta t):=by
  intro pins s σ H Q I h
  refine PySem.W.methodCall_KW (pl:=pl) (thn (he pins s σ H _ I h) fun u s1 ⟨x,H1,I1,rx,a,dx,fs,ex,ea,l,q⟩=>?_) ht
  subst ex
  obtain rfl:u = Value.ref a:=rx
  refine zM I1 ea c hm l ?_
  refine PySem.W.callWith_K (first:=[.ref a]) (h₀:=X.base) I.ok.mod.kin hm.kp (thn (ha pos pins s1 σ H1 _ I1 q) fun us s2 ⟨vs,H2,I2,r,q2⟩=>⟨I2.kIn,?_⟩) hst hpl
  exact vm (us:=.ref a :: us) (vs:=.ref a :: vs) F hr hb hd hx I2 (.cons rfl r) q2
theorem Qa7 {pl:Sem Bool} (he:PE X o ta) (c:Cls X.K C) (hm:jY X.K C m f) (F:FnOk X.prog X.w X.K X.mg X.base CX k f fd ps sp) (hr:Room k X.A) (hb:Binds X.K fd ps ds) (hd:Vals dvs ds) (hx:Ym CX X E)
    (ht:eval (.Call (.Attribute o m apos) [] [] pos) X.env = (do
      let ov <- eval o X.env
      standAt apos.atName
      let (f,first) <- holding [ov] (getMethod ov m pl)
      callWith pos f first (backTo pos (starEach [] X.env)) (backToKw pos (keywordEach [] X.env))):=by rfl) :
    PE X (.Call (.Attribute o m apos) [] [] pos) (kK C m sp dvs E ta QeN):=by
  intro pins s σ H Q I h
  refine PySem.W.methodCall_KW (pl:=pl) (thn (he pins s σ H _ I h) fun u s1 ⟨x,H1,I1,rx,a,dx,fs,ex,ea,l,q⟩=>?_) ht
  subst ex
  obtain rfl:u = Value.ref a:=rx
  refine zM I1 ea c hm l ?_
  exact PySem.W.callWith_K0 (first:=[.ref a]) I1.kIn hm.kp (vm (us:=[.ref a]) (vs:=[.ref a]) F hr hb hd hx I1 (.cons rfl .nil) q)
structure Mk (K:PySem.W.Frag) (C f:Addr):Prop where
  makes:PySem.W.makesIn K C = true
  init:PySem.W.findIn K (.ref C) "__init__" = some (some (.ref f))
  fn:PySem.W.isFn K (.ref f) = true
  kp:PySem.W.keepIn K (.ref C) = true
end
section
variable {X:Cx} {CX:CXT} {k:Nat} {f C:Addr} {fd:FuncData} {ps ks:List Str} {sp:Sp} {E:XK} {x m:Str} {p pos apos kpos:Pos} {e o:Expr} {es:List Expr} {kws:List Keyword} {te ta:TE} {t tk:TA} {nm:Option Str}
variable {g:List Value -> List Value -> List Value} {gV:List V -> List V -> List V}
end
structure QG (N P:List Str) (sc:Scope):Prop where
  kind:sc.kind = .function
  co:sc.isCoroutine = false
  gen:sc.isGenerator = false
  nd:N.Nodup
  pre:N.take P.length = P
  par:∀ x ∈ P,sc.names.lookup x = some .local ∨ sc.names.lookup x = some .cell
  nofree:∀ y ∈ sc.names,y.2 ≠ .free
theorem Vw {kindOf:Str -> Option NameKind} {x:Str}:∀ {binds:List (Str × Value)} {m:Str -> Option Value},(∀ v,(x,v) ∉ binds) -> bindL kindOf binds m x = m x
  | [],_,_=>rfl
  | (n,v) :: r,m,h=>by
    unfold bindL
    rw [Vw fun w hw=>h w (List.mem_cons_of_mem _ hw)]
    split
    . have:x ≠ n:=by rintro rfl;exact h v List.mem_cons_self
      simp [this]
    . rfl
theorem VF {kindOf:Str -> Option NameKind} {x:Str}:∀ {binds:List (Str × Value)} {m:Str -> Option Value},(∀ v,(x,v) ∉ binds) -> bindC kindOf binds m x = m x
  | [],_,_=>rfl
  | (n,v) :: r,m,h=>by
    unfold bindC
    rw [VF fun w hw=>h w (List.mem_cons_of_mem _ hw)]
    split
    . rfl
    . have:x ≠ n:=by rintro rfl;exact h v List.mem_cons_self
      simp [this]
theorem VH {kindOf:Str -> Option NameKind} {x:Str} {v:Value}:∀ {P:List Str} {vs:List Value} {i:Nat} {m:Str -> Option Value},P.Nodup -> P[i]? = some x -> vs[i]? = some v -> kindOf x = some .local ->
    bindL kindOf (P.zip vs) m x = some v
  | [],_,_,_,_,h,_,_=>by simp at h
  | _ :: _,[],_,_,_,_,h,_=>by simp at h
  | p :: P,w :: vs,0,m,nd,h1,h2,hk=>by
    simp at h1 h2;subst h1;subst h2
    show bindL kindOf ((p,w) :: P.zip vs) m p = _
    unfold bindL
    rw [Vw fun v hv=>(List.nodup_cons.mp nd).1 (List.of_mem_zip hv).1,if_pos hk]
    simp
  | p :: P,w :: vs,i + 1,m,nd,h1,h2,hk=>by
    show bindL kindOf ((p,w) :: P.zip vs) m x = _
    unfold bindL
    exact VH (i:=i) (List.nodup_cons.mp nd).2 (by simpa using h1) (by simpa using h2) hk
theorem VR {kindOf:Str -> Option NameKind} {x:Str} {v:Value}:∀ {P:List Str} {vs:List Value} {i:Nat} {m:Str -> Option Value},P.Nodup -> P[i]? = some x -> vs[i]? = some v -> kindOf x ≠ some .local ->
    bindC kindOf (P.zip vs) m x = some v
  | [],_,_,_,_,h,_,_=>by simp at h
  | _ :: _,[],_,_,_,_,h,_=>by simp at h
  | p :: P,w :: vs,0,m,nd,h1,h2,hk=>by
    simp at h1 h2;subst h1;subst h2
    show bindC kindOf ((p,w) :: P.zip vs) m p = _
    unfold bindC
    rw [VF fun v hv=>(List.nodup_cons.mp nd).1 (List.of_mem_zip hv).1,if_neg hk]
    simp
  | p :: P,w :: vs,i + 1,m,nd,h1,h2,hk=>by
    show bindC kindOf ((p,w) :: P.zip vs) m x = _
    unfold bindC
    exact VR (i:=i) (List.nodup_cons.mp nd).2 (by simpa using h1) (by simpa using h2) hk
def start (N:List Str) (vs:List V):St:=vs.map some ++ List.replicate (N.length - vs.length) none
def yP (CX:CXT) (P:Program) (w:World) (K:PySem.W.Frag) (mg:Str -> Option Value) (base:Heap) (N:List Str) (qual:Str) (scope:Scope) (f:Addr) (cd:Value) (A:Around) (outer:List Env) (s:Shared) (H:Hp) (E:XK):Cx where
  prog:=P
  w:=w
  K:=K
  mg:=mg
  base:=base
  A:=A.deeper (envOfC qual scope s.heap.objs.size f cd)
  N:=N
  s₀:=s
  H₀:=H
  env:=envOfC qual scope s.heap.objs.size f cd
  outer:=outer
  stack:=envOfC qual scope s.heap.objs.size f cd :: outer
  ex:=[]
  calm:=true
  fn:=fun _=>true
  pn:=[]
  xe:=fun e s'=>wpAny (model P w) (A.deeper (envOfC qual scope s.heap.objs.size f cd)) (leaving (envOfC qual scope s.heap.objs.size f cd) e) (fun _ s''=>CX outer H s E e s'') (fun e' s''=>CX outer H s E e' s'') s'
theorem Gd {sc:Scope} {n:Nat} {x:Str} (h:sc.names.lookup x = some .cell):∃ c,(cellsFrom n sc.names []).lookup x = some c:=by
  have q:=PySem.W.cellsFrom_some sc.names n [] (.inl h)
  exact Option.isSome_iff_exists.mp q
theorem gY {CX:CXT} {P:Program} {w:World} {K:PySem.W.Frag} {mg:Str -> Option Value} {base:Heap} {N ps:List Str} {qual:Str} {scope:Scope} {f:Addr} {cd:Value} {A:Around} {outer:List Env} {s s1:Shared} {H:Hp} {E:XK} {us:List Value} {vs:List V}
    (S:QG N ps scope) (hd:A.handled = none) (e0:Env0 P w K mg base A outer s H) (hl:vs.length = ps.length) (r:Vals vs us)
    (x:InCallC s s.heap.objs.size (bindL (envOfC qual scope s.heap.objs.size f cd).kindOf (ps.zip us) fun _=>none) (cellsFrom (s.heap.objs.size + 1) scope.names []) (bindC (envOfC qual scope s.heap.objs.size f cd).kindOf (ps.zip us) fun _=>none) s1) :
    Inv (yP CX P w K mg base N qual scope f cd A outer s H E) [] (start N vs) H s1:=by
  have hpl:ps.length <= N.length:=by have:=congrArg List.length S.pre;rw [List.length_take] at this;omega
  obtain ⟨h1,tk,rfl,hk⟩:=x.done
  have noA:∀ b:Addr,b ∉ (yP CX P w K mg base N qual scope f cd A outer s H E).ex:=fun b z=>absurd (show b ∈ ([]:List Addr) from z) (by simp)
  refine ⟨⟨e0.mod,S.kind,rfl,rfl,Nat.le_refl _,fun y z c h1 h2=>?_,fun y hy=>?_,fun y c _ h=>?_,fun _=>hd,Around.frames_deeper e0.frames,.inr ⟨rfl,rfl⟩,fun b z=>absurd z (noA b),e0.bs,e0.bsz,fun b _ _=>noA b,fun b z=>absurd z (noA b),e0.funs,e0.frf⟩,
    rfl,e0.bare,Un.kept hk,⟨_,x.toInCall.ns,fun i y v h1 h2 h3=>?_⟩,fun y c h=>⟨_,x.cell y c h⟩,e0.hok.fresh (Nat.le_refl _),fun y c h=>?_,fun p hp=>absurd (show p ∈ ([]:List (Addr × Obj)) from hp) (by simp),e0.hok.kept hk,?_⟩
  . exact name_of_addr x.apart (PySem.mem_of_lookup h1) (PySem.mem_of_lookup h2)
  . have hy:scope.names.lookup y = some .cell ∨ scope.names.lookup y = some .free:=hy
    rcases hy with hy | hy
    . exact Gd hy
    . exact absurd rfl (S.nofree _ (PySem.mem_of_lookup hy))
  . exact Nat.le_of_lt (x.above y c (PySem.mem_of_lookup h))
  . have hi:i < vs.length:=by
      unfold start at h2
      by_cases hi:i < vs.length
      . exact hi
      . rw [List.getElem?_append_right (by simpa using hi)] at h2
        rw [List.getElem?_replicate] at h2
        split at h2 <;> cases h2
    have ha:vs[i]? = some v:=by
      unfold start at h2
      rw [List.getElem?_append_left (by simpa using hi),List.getElem?_map] at h2
      cases e:vs[i]? with
      | none=>rw [e] at h2;cases h2
      | some a=>rw [e] at h2;cases h2;rfl
    obtain ⟨u,hu,rv⟩:=r.get ha
    have hp:ps[i]? = some y:=by
      rw [<- S.pre,List.getElem?_take_of_lt (by omega)];exact h1
    have ndP:ps.Nodup:=by rw [<- S.pre];exact S.nd.sublist (List.take_sublist _ _)
    refine ⟨u,rv,?_⟩
    rcases S.par y (List.mem_of_getElem? hp) with k | k
    . exact .inl ⟨k,VH ndP hp hu k⟩
    . obtain ⟨c,e⟩:=Gd (n:=s.heap.objs.size + 1) k
      refine .inr ⟨.inl k,c,e,?_⟩
      have q:=x.cell y c e
      rw [VR ndP hp hu (by show scope.names.lookup y ≠ _;rw [k];decide)] at q
      exact q
  . exact e0.hok.fresh (Nat.le_of_lt (x.above y c (PySem.mem_of_lookup h)))
  . unfold start
    show _ = N.length
    rw [List.length_append,List.length_map,List.length_replicate]
    omega
theorem Qfd {CX:CXT} {P:Program} {w:World} {K:PySem.W.Frag} {mg:Str -> Option Value} {base:Heap} {k:Nat} {f:Addr} {name qual:Str} {params:Arguments} {body:List Stmt} {scope:Scope} {dV kV doc pm cdv ct oc:Value} {an od:Option Addr}
    {osl:Array (Option Value)} {N ps:List Str} {sp:Sp} (lk:K.lookup f = some ⟨oc,od,.func (PySem.W.fnOf name qual params body scope dV kV doc pm an cdv ct),osl⟩) (hcd:PySem.W.codeIn K cdv qual = true) (S:QG N ps scope)
    (len:∀ vs H Q E,sp vs H Q E -> vs.length = ps.length)
    (hbody:∀ (A:Around) (outer:List Env) (s:Shared) (H:Hp) (vs:List V) (Q:VK) (E:XK),Room k (A.deeper (envOfC qual scope s.heap.objs.size f cdv)) -> sp vs H Q E ->
      ∃ t,PSs (yP CX P w K mg base N qual scope f cdv A outer s H E) body t /\ t { nx:=fun _ H'=>Q .non H',rt:=Q } (start N vs) H) :
    FnOk P w K mg base CX (k + 1) f (PySem.W.fnOf name qual params body scope dV kV doc pm an cdv ct) ps sp:=by
  refine ⟨len,fun A outer s H args us vs Q E hr e0 hb r hsp=>?_⟩
  have hl:=len _ _ _ _ hsp
  have KX:K.In s.heap:=e0.mod.kin.keeps fun b o e=>(e0.bs b o e).1
  have lim:s.heap.NoLimit:=e0.mod.nolimit.keeps fun b o e=>(e0.bs b o e).1
  have hkind:∀ y ∈ ps.zip us,scope.names.lookup y.1 = some .local ∨ (scope.names.lookup y.1 = some .cell /\ ((cellsFrom (s.heap.objs.size + 1) scope.names []).lookup y.1).isSome = true):=fun ⟨n,v⟩ hy=>by
    rcases S.par n (List.of_mem_zip hy).1 with q | q
    . exact .inl q
    . exact .inr ⟨q,PySem.W.cellsFrom_some _ _ _ (.inl q)⟩
  refine codeAny_call_function hr.depth (KX _ _ lk) rfl S.co S.gen rfl (PySem.W.codeRec_of KX hcd) (hb _ _ _ _ ?_)
  refine wpAny_newFunctionEnv_cells S.kind hkind fun env he s1 x=>?_
  subst he
  refine ⟨lim.keeps x.toInCall.keep,codeAny_func ?_⟩
  obtain ⟨t,ht,hq⟩:=hbody A outer s H vs Q E (hr.deeper _) hsp
  have I:Inv (yP CX P w K mg base N qual scope f cdv A outer s H E) [] (start N vs) H s1:=gY S hr.hd e0 hl r x
  refine wpAny_mono (ht [] s1 (start N vs) H _ I hq) (fun fl s' hs=>?_) fun e s' hs=>hs
  have fin:∀ {σ':St} {H':Hp} {v:V} {u:Value},Inv (yP CX P w K mg base N qual scope f cdv A outer s H E) [] σ' H' s' -> RelV v u -> Q v H' -> CE outer P w H s Q u s' :=
    fun {σ' H' v u} J rv q=>⟨v,H',J.os,J.bare,J.base,J.hok,rv,q⟩
  cases fl with
  | ret u =>
    obtain ⟨v,σ',H',J,rv,q⟩:=hs
    exact fin J rv q
  | next =>
    obtain ⟨σ',H',J,q⟩:=hs
    exact fin (v:=V.non) (u:=Value.none) J rfl q
  | brk =>
    obtain ⟨_,_,_,q⟩:=hs
    exact False.elim q
  | cont =>
    obtain ⟨_,_,_,q⟩:=hs
    exact False.elim q
end L2
namespace L2
open PySem PySem.Spec PyProof.Rows
section
variable {X:Cx} {x:Str} {p pos:Pos} {e:Expr} {es:List Expr} {t:TA} {id T:String} {r:List V -> Hp -> VK -> Prop}
def tCB (r:List V -> Hp -> VK -> Prop) (t:TA):TE:=fun σ H Q=>t σ H fun vs H1=>r vs H1 Q
theorem Qaj (hc:CallR X (.builtin id) r) (hg:Gl X x) (hm:X.mg x = none) (hv:bootBuiltins x = some (.builtin id)) (ha:PA X (e :: es) t) (hn:x ≠ "__name__" := by decide) (hdb:(x == ("__debug__" : Str)) = false:=by decide)
    (he:starEach (e :: es) X.env = (false,eval e X.env) :: starEach es X.env:=by rfl) (hpl:(backTo pos (starEach es X.env)).any (·.1) = false:=by rfl):PE X (.Call (.Name x p) (e :: es) [] pos) (tCB r t):=by
  intro pins s σ H Q I h
  refine wpAny_Call_Name_kw (Xh I hg hm hv ?_ hn hdb)
  exact PyProof.Rows.callWith_builtin1 (thn (ha pos pins s σ H _ I h) fun us s1 ⟨vs,H1,I1,r1,q1⟩=>hc pins s1 σ H1 vs us Q I1 r1 q1) he hpl
theorem kh (hc:CallR X (.type T) r) (hg:Gl X x) (hm:X.mg x = none) (hv:bootBuiltins x = some (.type T)) (ha:PA X (e :: es) t) (hn:x ≠ "__name__" := by decide) (hdb:(x == ("__debug__" : Str)) = false:=by decide)
    (he:starEach (e :: es) X.env = (false,eval e X.env) :: starEach es X.env:=by rfl) (hpl:(backTo pos (starEach es X.env)).any (·.1) = false:=by rfl):PE X (.Call (.Name x p) (e :: es) [] pos) (tCB r t):=by
  intro pins s σ H Q I h
  refine wpAny_Call_Name_kw (Xh I hg hm hv ?_ hn hdb)
  exact PyProof.Rows.callWith_type1 (thn (ha pos pins s σ H _ I h) fun us s1 ⟨vs,H1,I1,r1,q1⟩=>hc pins s1 σ H1 vs us Q I1 r1 q1) he hpl
end
end L2
namespace HT
open PySem PyProof.Rows
section
open PySem.SeqAt
open PySem.AutoSeq1 (wpAny_loadPart')
open PySem.MeetsSeq PySem.MeetsSeq2 PySem.MeetsSeq3
end
section
variable {prog:Program} {w:World} {A:Around} {E:Value -> Shared -> Prop} {s:Shared}
theorem cat_tup {t b:Addr} {vs ws:List Value} {Q:Value -> Shared -> Prop} (ht:IsTup s.heap t vs.toArray) (hb:IsTup s.heap b ws.toArray) (hv:vs ≠ [])
    (h1:ws = [] -> Q (.ref t) s) (h2:ws ≠ [] -> Q (.ref s.heap.objs.size) { s with heap:=s.heap.push { cls:=.type "tuple", data:=.seq (vs ++ ws).toArray } })
    (hsz:vs.length + ws.length <= sizeLine):wpAny (model prog w) A (binaryOp .Add (.ref t) (.ref b)) Q E s:=by
  obtain ⟨⟨cls,dd,data,sl⟩,ho,hc,n,hd⟩:=id ht
  obtain ⟨⟨cls2,dd2,data2,sl2⟩,ho2,hc2,n2,hd2⟩:=id hb
  simp only at hc hd hc2 hd2
  subst hc hd hc2 hd2
  have e:vs.toArray ++ ws.toArray = (vs ++ ws).toArray:=by simp
  by_cases hw:ws = []
  . exact concat_meets ⟨_,ho,rfl⟩ ⟨_,ho2,rfl⟩ noFill_tuple_add seq_tuple_add PySem.F.slot_tuple_add PySem.F.entry_tuple_add (PySem.F.args_tuple_add_2 _ _)
      (tuple_addW1 t b vs.toArray ws.toArray n n2 dd dd2 sl sl2 (by simpa using hv) (by simp [hw])) ⟨ho,ho2,h1 hw⟩
  . refine concat_meets ⟨_,ho,rfl⟩ ⟨_,ho2,rfl⟩ noFill_tuple_add seq_tuple_add PySem.F.slot_tuple_add PySem.F.entry_tuple_add (PySem.F.args_tuple_add_2 _ _)
      (tuple_addW2 t b vs.toArray ws.toArray n n2 dd dd2 sl sl2 (by simpa using hv) (by simpa using hw) (by rw [List.size_toArray,List.size_toArray];exact hsz)) ⟨ho,ho2,?_⟩
    rw [e]
    exact h2 hw
def sIx (n d:Nat):Option Int -> Nat
  | none=>d
  | some v=>if v < 0 then (v + (n:Int)).toNat else min v.toNat n
theorem sIx_nat (n d k:Nat):sIx n d (some (k:Int)) = min k n:=by
  show (if (k:Int) < 0 then ((k:Int) + (n:Int)).toNat else min (k:Int).toNat n) = min k n
  rw [if_neg (by omega),Int.toNat_natCast]
theorem Qdz (n d:Nat) (hd:d <= n) (o:Option Int):sIx n d o <= n:=by
  cases o with
  | none=>exact hd
  | some v =>
    show (if v < 0 then (v + (n:Int)).toNat else min v.toNat n) <= n
    by_cases hv:v < 0
    . rw [if_pos hv];omega
    . rw [if_neg hv];exact Nat.min_le_right _ _
theorem uF (v:Int) (n d:Nat):(if v < 0 then max (v + (n:Int)) 0 else min v (n:Int)) = ((sIx n d (some v):Nat):Int):=by
  show (if v < 0 then max (v + (n:Int)) 0 else min v (n:Int)) = (((if v < 0 then (v + (n:Int)).toNat else min v.toNat n):Nat):Int)
  by_cases hv:v < 0
  . simp only [if_pos hv];omega
  . simp only [if_neg hv];omega
theorem GK (lo hi:Option Int) (n:Nat):Builtin.Slice.sliceAdjust lo hi 1 (n:Int) = (((sIx n 0 lo:Nat):Int),((sIx n n hi:Nat):Int)):=by
  have h1:¬ ((1:Int) < 0):=by omega
  unfold Builtin.Slice.sliceAdjust
  simp only [h1,if_false]
  refine Prod.ext ?_ ?_
  . cases lo with
    | none=>rfl
    | some v=>exact uF v n 0
  . cases hi with
    | none=>rfl
    | some v=>exact uF v n n
theorem Gy (i j:Nat):Builtin.Slice.slicePlaces (i:Int) (j:Int) 1 = j - i:=by
  unfold Builtin.Slice.slicePlaces
  have h1:(1:Int) > 0:=by omega
  simp only [h1,if_true,Int.ediv_one]
  split <;> omega
theorem yn {v:Value} {o:Option Int} {Q:Option Int -> Shared -> Prop} (p:IsPart v o) (h:Q o s):wpAny (model prog w) A (Builtin.Slice.slicePartIndex v) Q E s:=by
  cases p with
  | none=>exact slicePart_none h
  | int i t=>exact slicePart_int h
theorem sliceApplied_gen {sl:Addr} {vl vu:Value} {lo hi:Option Int} {n:Nat} {Q:Int × Int × Nat -> Shared -> Prop} (hs:s.heap.IsSliceOf sl vl vu .none) (pl:IsPart vl lo) (pu:IsPart vu hi)
    (h:Q (((sIx n 0 lo:Nat):Int),1,sIx n n hi - sIx n 0 lo) s):wpAny (model prog w) A (Builtin.Slice.sliceApplied (.ref sl) (pure (n:Int))) Q E s:=by
  obtain ⟨os,hos,hcs,hds⟩:=id hs
  unfold Builtin.Slice.sliceApplied Builtin.Slice.sliceFields
  refine wpAny_bind (wpAny_bind (wpAny_field hos hds (x:=vl) rfl (wpAny_bind (wpAny_field hos hds (x:=vu) rfl (wpAny_bind (wpAny_field hos hds (x:=.none) rfl (wpAny_pure ?_)))))))
  refine wpAny_bind (slicePart_none ?_)
  show wpAny _ _ (if ((1:Int) == 0) = true then _ else _) _ _ s
  rw [if_neg (by decide)]
  refine wpAny_bind (yn pl (wpAny_bind (yn pu (wpAny_bind (wpAny_pure ?_)))))
  show wpAny _ _ (match Builtin.Slice.sliceAdjust lo hi 1 (n:Int) with | (lo,hi)=>pure (lo,(1:Int),Builtin.Slice.slicePlaces lo hi 1)) _ _ s
  rw [GK lo hi n]
  show wpAny _ _ (pure (((sIx n 0 lo:Nat):Int),(1:Int),Builtin.Slice.slicePlaces ((sIx n 0 lo:Nat):Int) ((sIx n n hi:Nat):Int) 1)) _ _ s
  rw [Gy]
  exact wpAny_pure h
theorem QaL (xs:Array Value) (i k:Nat):((List.range k).filterMap fun (m:Nat)=>xs[((i:Int) + (m:Int) * 1).toNat]?).toArray = ((xs.toList.drop i).take k).toArray:=by
  have e:(fun (m:Nat)=>xs[((i:Int) + (m:Int) * 1).toNat]?) = fun m=>xs[i + m]?:=by
    funext m
    have:((i:Int) + (m:Int) * 1).toNat = i + m:=by omega
    rw [this]
  rw [e]
  have:=pick_run xs i k
  rw [List.filterMap_map] at this
  have e2:((fun x=>xs[x]?) ∘ fun x=>i + x) = fun m=>xs[i + m]?:=rfl
  rw [e2] at this
  rw [this]
theorem getItem_tuple_cut {t sl:Addr} {items:Array Value} {vl vu:Value} {lo hi:Option Int} {Q:Value -> Shared -> Prop} (ht:IsTup s.heap t items) (hs:s.heap.IsSliceOf sl vl vu .none) (pl:IsPart vl lo) (pu:IsPart vu hi)
    (hw:¬ (sIx items.size 0 lo = 0 /\ sIx items.size items.size hi = items.size))
    (h:Q (.ref s.heap.objs.size) { s with heap:=s.heap.push { cls:=.type "tuple", data:=.seq ((items.toList.drop (sIx items.size 0 lo)).take (sIx items.size items.size hi - sIx items.size 0 lo)).toArray } })
    (hsz:items.size <= sizeLine):wpAny (model prog w) A (getItem (.ref t) (.ref sl)) Q E s:=by
  have htake:sizeOk (.seq ((items.toList.drop (sIx items.size 0 lo)).take (sIx items.size items.size hi - sIx items.size 0 lo)).toArray):=by
    show ((items.toList.drop (sIx items.size 0 lo)).take (sIx items.size items.size hi - sIx items.size 0 lo)).toArray.size <= sizeLine
    rw [List.size_toArray,List.length_take,List.length_drop,Array.length_toList]
    omega
  have hj:sIx items.size items.size hi <= items.size:=Qdz _ _ (Nat.le_refl _) hi
  obtain ⟨os,hos,hcs,hds⟩:=id hs
  have hTs:s.TypeIs (.ref sl) "slice" := ⟨os,hos,hcs⟩
  unfold getItem
  try with_reducible refine wpAny_holding ?_
  first | refine wpAny_bind (wpAny_pure ?_) | skip
  refine wpAny_bind (wpAny_sequenceKey ht.typeIs (by decide) ?_)
  refine wpAny_bind (wpAny_callSpecial?_slot (name:=Str.ofString "__getitem__") ht.typeIs PyProof.Rows.slot_tuple_getitem
    (wpAny_call_entry PyProof.Rows.slot_tuple_getitem ht.typeIs entry_tuple_getitem ?_ (args_tuple_getitem _ _)))
  show wpAny _ _ (Builtin.Tuple.tupleItemsOf (.ref t) >>= _) _ _ s
  refine wpAny_bind (tupleItemsOf_ ht ?_)
  refine wpAny_bind (wpAny_typeOf hTs ?_)
  rw [if_pos (by decide)]
  refine wpAny_bind (sliceApplied_gen hs pl pu ?_)
  have hno:¬ ((((sIx items.size 0 lo:Nat):Int) == 0 && (1:Int) == 1 && (sIx items.size items.size hi - sIx items.size 0 lo) == items.size) = true):=by
    intro q
    rw [Bool.and_eq_true,Bool.and_eq_true] at q
    have q1:((sIx items.size 0 lo:Nat):Int) = 0:=eq_of_beq q.1.1
    have q2:sIx items.size items.size hi - sIx items.size 0 lo = items.size:=eq_of_beq q.2
    exact hw ⟨by omega,by omega⟩
  show wpAny _ _ (if (((sIx items.size 0 lo:Nat):Int) == 0 && (1:Int) == 1 && (sIx items.size items.size hi - sIx items.size 0 lo) == items.size) = true then _ else _) _ _ s
  rw [if_neg hno,QaL]
  first
    | exact wpAny_bind (m:=Builtin.Tuple.tupleExact _) (wpAny_newObj_type (wpAny_pure ⟨_,rfl,wpAny_pure h⟩) htake)
    | exact wpAny_bind (m:=Builtin.Tuple.tupleExact _) (wpAny_newObj_type (wpAny_bind (wpAny_pure (wpAny_pure ⟨_,rfl,wpAny_pure h⟩))) htake)
    | exact wpAny_bind (wpAny_bind (m:=Builtin.Tuple.tupleExact _) (wpAny_newObj_type (wpAny_pure (wpAny_pure ⟨_,rfl,wpAny_pure h⟩)) htake))
    | exact wpAny_bind (wpAny_bind (m:=Builtin.Tuple.tupleExact _) (wpAny_newObj_type (wpAny_pure ⟨_,rfl,wpAny_pure h⟩) htake))
end
end HT
namespace L2
open PySem PySem.Spec PyProof.Rows
abbrev TO:=St -> Hp -> (Option Int -> Hp -> Prop) -> Prop
def PO (X:Cx) (e:Option Expr) (t:TO):Prop :=
  ∀ (pins : List (Addr × Obj)) (s : Shared) (σ : St) (H : Hp) (Q : Option Int -> Hp -> Prop), Inv X pins σ H s -> t σ H Q ->
    wpAny (model X.prog X.w) X.A (evalPart e X.env) (fun u s'=>∃ o H',Inv X pins σ H' s' /\ IsPart u o /\ Q o H') X.xe s
def Qc0:TO:=fun _ H Q=>Q none H
def QeL (t:TE):TO:=fun σ H Q=>t σ H fun x H1=>∃ i,x = .int i /\ Q (some i) H1
section
variable {X:Cx} {e:Expr} {te:TE} {lo hi:Option Expr} {tl th:TO} {pos p2:Pos}
theorem QbN:PO X none Qc0:=by
  intro pins s σ H Q I h
  rw [evalPart_none]
  exact wpAny_pure ⟨none,H,I,.none,h⟩
theorem Qco (h:PE X e te):PO X (some e) (QeL te):=by
  intro pins s σ H Q I hw
  rw [evalPart_some]
  refine thn (h pins s σ H _ I hw) fun u s1 ⟨x,H1,I1,r1,q1⟩=>?_
  obtain ⟨i,rfl,q⟩:=q1
  obtain ⟨t,rfl⟩:=r1
  exact ⟨some i,H1,I1,.int i t,q⟩
def SlR (X:Cx) (r:V -> Option Int -> Option Int -> Hp -> VK -> Prop):Prop :=
  ∀ (pins : List (Addr × Obj)) (s : Shared) (σ : St) (H : Hp) (x : V) (v vl vu : Value) (lo hi : Option Int) (sl : Addr) (Q : VK), Inv X pins σ H s -> RelV x v -> s.heap.IsSliceOf sl vl vu .none -> IsPart vl lo -> IsPart vu hi -> r x lo hi H Q ->
    ∃ T id,typeLookup (.type T) "__getitem__" = pure (some (.builtin id)) /\ s.TypeIs v T /\ wpAny (model X.prog X.w) X.A (getItem v (.ref sl)) (EP X pins σ Q) X.xe s
def tSl (r:V -> Option Int -> Option Int -> Hp -> VK -> Prop) (te:TE) (tl th:TO):TE:=fun σ H Q=>te σ H fun x H1=>tl σ H1 fun l H2=>th σ H2 fun u H3=>r x l u H3 Q
theorem KF {r:V -> Option Int -> Option Int -> Hp -> VK -> Prop} (hr:SlR X r) (he:PE X e te) (hl:PO X lo tl) (hu:PO X hi th):PE X (.Subscript e (.Slice lo hi none p2) pos) (tSl r te tl th):=by
  intro pins s σ H Q I h
  refine Subscript_ (thn (he pins s σ H _ I h) fun v s1 ⟨x,H1,I1,r1,q1⟩=>?_)
  refine wpAny_Slice (thn (hl pins s1 σ H1 _ I1 q1) fun vl s2 ⟨l,H2,I2,pl,q2⟩=>thn (hu pins s2 σ H2 _ I2 q2) fun vu s3 ⟨u,H3,I3,pu,q3⟩=>?_)
  rw [evalPart_none]
  refine wpAny_pure ?_
  have I4:Inv X pins σ H3 { s3 with heap:=s3.heap.push { cls:=.type "slice", data:=.fields #[vl,vu,.none] } }:=I3.kept (t':=s3.toks) fun b ob q=>Heap.get?_push_of_some _ q
  obtain ⟨T,id,hT,ht,hg⟩:=hr pins { s3 with heap:=s3.heap.push { cls:=.type "slice", data:=.fields #[vl,vu,.none] } } σ H3 x v vl vu l u s3.heap.objs.size Q I4 r1 (Heap.IsSliceOf.new ..) pl pu q3
  show wpAny (model X.prog X.w) X.A (subscriptTail e (.Slice lo hi none p2) v (.ref s3.heap.objs.size)) (EP X pins σ Q) X.xe { s3 with heap:=s3.heap.push { cls:=.type "slice", data:=.fields #[vl,vu,.none] } }
  exact tail_any (ops:=[.ref s3.heap.objs.size,v]) ht hT hg (by with_unfolding_all rfl)
def Gg (xs:List V) (lo hi:Option Int):List V:=(xs.drop (HT.sIx xs.length 0 lo)).take (HT.sIx xs.length xs.length hi - HT.sIx xs.length 0 lo)
theorem xr (xs:List V) (lo hi:Option Int):(Gg xs lo hi).length <= xs.length:=by
  unfold Gg
  rw [List.length_take,List.length_drop]
  omega
def Qfs (K:PySem.W.Frag):V -> Option Int -> Option Int -> Hp -> VK -> Prop:=fun x lo hi H Q=>∃ a xs,x = .ref a /\ SqT K H a xs /\
  ¬ (HT.sIx xs.length 0 lo = 0 /\ HT.sIx xs.length xs.length hi = xs.length) /\ ∀ p,H p = none -> Q (.ref p) (upd H p (.tup (Gg xs lo hi)))
theorem Qdm:SlR X (Qfs X.K):=by
  intro pins s σ H x v vl vu lo hi sl Q I rx hs pl pu h
  obtain ⟨a,xs,rfl,hx,hw,q⟩:=h
  cases rx
  obtain ⟨its,r,ht,hz⟩:=I.tuple hx
  have hlen:its.toArray.size = xs.length:=by rw [List.size_toArray];exact r.length.symm
  refine ⟨"tuple", _,PyProof.Rows.slot_tuple_getitem.lookup,ht.typeIs,?_⟩
  refine HT.getItem_tuple_cut ht hs pl pu (by rw [hlen];exact hw) ?_ (by rw [hlen];exact hz)
  rw [hlen]
  refine ⟨.ref s.heap.objs.size,_,I.laid (t':=s.toks) (o:=.tup (Gg xs lo hi)) (fun b ob q=>Heap.get?_push_of_some _ q) (Nat.le_refl _) ?_,rfl,q _ (I.hok.fresh (Nat.le_refl _))⟩
  exact ⟨Nat.le_trans (xr xs lo hi) hz,_,(r.drop (HT.sIx xs.length 0 lo)).take (HT.sIx xs.length xs.length hi - HT.sIx xs.length 0 lo),IsTup.new _ _⟩
def QeJ (K:PySem.W.Frag):R2:=fun x y H Q=>∃ a b xs ys,x = .ref a /\ y = .ref b /\ SqT K H a xs /\ SqT K H b ys /\ xs ≠ [] /\ xs.length + ys.length <= sizeLine /\
  (ys = [] -> Q (.ref a) H) /\ (ys ≠ [] -> ∀ p,H p = none -> Q (.ref p) (upd H p (.tup (xs ++ ys))))
theorem Vals.nil_iff {xs:List V} {us:List Value} (r:Vals xs us):us = [] ↔ xs = []:=by
  cases r with
  | nil=>simp
  | cons _ _=>simp
theorem QcN:OpR X (binaryOp .Add) (QeJ X.K):=by
  intro pins s σ H x y v u Q I rx ry h
  obtain ⟨a,b,xs,ys,rfl,rfl,ha,hb,hx,hz,q1,q2⟩:=h
  cases rx
  cases ry
  obtain ⟨its,r1,p1,_⟩:=I.tuple ha
  obtain ⟨its2,r2,p2,_⟩:=I.tuple hb
  refine HT.cat_tup p1 p2 (fun z=>hx (r1.nil_iff.mp z)) (fun z=>⟨.ref a,H,I,rfl,q1 (r2.nil_iff.mp z)⟩) (fun z=>?_) (by rw [<- r1.length,<- r2.length];exact hz)
  refine ⟨.ref s.heap.objs.size,_,I.laid (t':=s.toks) (o:=.tup (xs ++ ys)) (fun b ob q=>Heap.get?_push_of_some _ q) (Nat.le_refl _) ?_,rfl,q2 (fun w=>z (r2.nil_iff.mpr w)) _ (I.hok.fresh (Nat.le_refl _))⟩
  exact ⟨by rw [List.length_append];exact hz,_,r1.append r2,IsTup.new _ _⟩
end
end L2
namespace L2
open PySem PySem.Spec PyProof.Rows
def ixN (n:Nat) (i:Int):Option Nat:=if 0 <= i then (if i < n then some i.toNat else none) else if -(n:Int) <= i then some (i + n).toNat else none
def atI {α:Type} (xs:List α) (i:Int):Option α:=(ixN xs.length i).bind fun j=>xs[j]?
theorem uT {n:Nat} {i:Int} {j:Nat} (h:ixN n i = some j):seqIndex? i n = some j /\ j < n /\ -(n:Int) <= i /\ i < n:=by
  unfold ixN at h
  by_cases h0:0 <= i
  . rw [if_pos h0] at h
    by_cases h1:i < n
    . rw [if_pos h1] at h
      have e:i.toNat = j:=Option.some.inj h
      exact ⟨by rw [seqIndex_of h0 h1,e],by omega,by omega,h1⟩
    . rw [if_neg h1] at h;cases h
  . rw [if_neg h0] at h
    by_cases h1:-(n:Int) <= i
    . rw [if_pos h1] at h
      have e:(i + n).toNat = j:=Option.some.inj h
      exact ⟨by rw [seqIndex_neg (by omega) h1,e],by omega,h1,by omega⟩
    . rw [if_neg h1] at h;cases h
theorem uU {α:Type} {xs:List α} {i:Int} {v:α} (h:atI xs i = some v):∃ j,seqIndex? i xs.length = some j /\ xs[j]? = some v /\ j < xs.length /\ -(xs.length:Int) <= i /\ i < xs.length:=by
  unfold atI at h
  cases e:ixN xs.length i with
  | none=>rw [e] at h;cases h
  | some j =>
    rw [e] at h
    obtain ⟨h1,h2,h3,h4⟩:=uT e
    exact ⟨j,h1,h,h2,h3,h4⟩
theorem UP {α:Type} {xs:List α} {j:Nat} {v:α} (h:xs[j]? = some v):atI xs (j:Int) = some v:=by
  have hj:j < xs.length:=(List.getElem?_eq_some_iff.mp h).1
  have e:ixN xs.length (j:Int) = some j:=by
    unfold ixN
    rw [if_pos (by omega),if_pos (by omega)];simp
  unfold atI;rw [e];exact h
def UC (b:Expr):Prop:=∀ o i,subscripted b false o i = operate [o,i] (getItem o i)
def IxR (X:Cx) (r:R2):Prop :=
  ∀ (value slice : Expr) (pins : List (Addr × Obj)) (s : Shared) (σ : St) (H : Hp) (x y : V) (v u : Value) (Q : VK), Inv X pins σ H s -> RelV x v -> RelV y u -> r x y H Q ->
    subscripted slice false v u = operate [v,u] (getItem v u) -> wpAny (model X.prog X.w) X.A (subscriptTail value slice v u) (EP X pins σ Q) X.xe s
def MtR (X:Cx) (id:String) (r:V -> List V -> Hp -> VK -> Prop):Prop :=
  ∀ (pins : List (Addr × Obj)) (s : Shared) (σ : St) (H : Hp) (x : V) (xs : List V) (v : Value) (us : List Value) (Q : VK), Inv X pins σ H s -> RelV x v -> Vals xs us -> r x xs H Q ->
    wpAny (model X.prog X.w) X.A (call (.builtin id) (v :: us)) (EP X pins σ Q) X.xe s
section
variable {X:Cx} {a b:Expr} {ta tb:TE} {pos:Pos}
theorem Qdf {r:R2} (hr:IxR X r) (ha:PE X a ta) (hb:PE X b tb) (hs:UC b):PE X (.Subscript a b pos) (tOp r ta tb):=by
  intro pins s σ H Q I h
  exact Subscript_ (QdY ha hb I h fun v u s2 x y H2 I2 rx ry q=>hr a b pins s2 σ H2 x y v u Q I2 rx ry q (hs _ _))
def QfK (K:PySem.W.Frag):R2:=fun x y H Q=>∃ p xs i v,x = .ref p /\ y = .int i /\ SqL K H p xs /\ atI xs i = some v /\ Q v H
def Qfx (K:PySem.W.Frag):R2:=fun x y H Q=>∃ p xs i v,x = .ref p /\ y = .int i /\ SqT K H p xs /\ atI xs i = some v /\ Q v H
theorem uJ:IxR X (QfK X.K):=by
  intro value slice pins s σ H x y v u Q I rx ry h hs
  obtain ⟨p,xs,i,z,rfl,rfl,hq,he,q⟩:=h
  cases rx
  obtain ⟨t,rfl⟩:=ry
  obtain ⟨its,r,pl,hz⟩:=I.list hq
  obtain ⟨j,h1,h2,h3,h4,h5⟩:=uU he
  obtain ⟨w,ew,rw'⟩:=r.get h2
  have hl:=r.length
  have hn:=yy
  have fin:EP X pins σ Q w s:=⟨z,H,I,rw',q⟩
  by_cases h0:0 <= i
  . have hj:i.toNat = j:=by
      rw [seqIndex_of h0 h5] at h1
      exact Option.some.inj h1
    exact item_listR pl.isList h0 (by omega) (by rw [hj];simpa using ew) fin hs
  . have hj:(i + (its.toArray.size:Int)).toNat = j:=by
      rw [seqIndex_neg (by omega) h4] at h1
      rw [List.size_toArray,<- hl]
      exact Option.some.inj h1
    exact subscriptTail_builtinR (x:=w) pl.isList.typeIs slot_list_getitem.lookup
      (wpAny_getItem_list_neg (Q:=fun r s'=>r = w /\ EP X pins σ Q r s') pl.isList (by omega) (by rw [List.size_toArray] <;> omega) (by omega) (by rw [hj];simpa using ew) ⟨rfl,fin⟩) hs
theorem Qdq:IxR X (Qfx X.K):=by
  intro value slice pins s σ H x y v u Q I rx ry h hs
  obtain ⟨p,xs,i,z,rfl,rfl,hq,he,q⟩:=h
  cases rx
  obtain ⟨t,rfl⟩:=ry
  obtain ⟨its,r,pl,hz⟩:=I.tuple hq
  obtain ⟨j,h1,h2,h3,h4,h5⟩:=uU he
  obtain ⟨w,ew,rw'⟩:=r.get h2
  have hl:=r.length
  have hn:=yy
  have fin:EP X pins σ Q w s:=⟨z,H,I,rw',q⟩
  exact subscriptTail_builtinR (x:=w) pl.typeIs slot_tuple_getitem.lookup
    (getItem_tuple (j:=j) (Q:=fun r s'=>r = w /\ EP X pins σ Q r s') pl (by omega) (by omega) (by rw [List.size_toArray,<- hl];exact h1) (by simpa using ew) ⟨rfl,fin⟩) hs
theorem vz (its:List Value) (n j:Nat) (u:Value):Obj.mapSeq (·.setIfInBounds j u) { cls:=.type "list", data:=.seq its.toArray n } = { cls:=.type "list", data:=.seq (its.set j u).toArray n }:=by
  simp [Obj.mapSeq]
theorem Inv.lst {pins:List (Addr × Obj)} {σ:St} {H:Hp} {s:Shared} {p:Addr} {xs:List V} (I:Inv X pins σ H s) (h:H p = some (.lst xs)) :
    ∃ (its:List Value) (n:Nat),Vals xs its /\ s.heap.get? p = some { cls:=.type "list", data:=.seq its.toArray n } /\ xs.length <= sizeLine:=by
  obtain ⟨z,its,n,r,e⟩:=I.hok p _ h
  exact ⟨its,n,r,e,z⟩
theorem Inv.lstUpd {pins:List (Addr × Obj)} {σ:St} {H:Hp} {s:Shared} {p:Addr} {xs ys:List V} {its its':List Value} {n n':Nat} {f:Obj -> Obj} (I:Inv X pins σ H s) (h:H p = some (.lst xs))
    (ho:s.heap.get? p = some { cls:=.type "list", data:=.seq its.toArray n }) (hf:f { cls:=.type "list", data:=.seq its.toArray n } = { cls:=.type "list", data:=.seq its'.toArray n' }) (r:Vals ys its') (hz:ys.length <= sizeLine) (t:Nat) :
    Inv X pins σ (upd H p (.lst ys)) { s with heap:=s.heap.update p f,toks:=t }:=by
  have e:(s.heap.update p f).get? p = some { cls:=.type "list", data:=.seq its'.toArray n' }:=by
    rw [Heap.get?_update_self f ho (by rw [hf] <;> rfl),hf]
  refine I.write (x:=p) (e:=p) (by rw [h];trivial) (.inl rfl) (fun b u hb q=>(Heap.get?_update_other _ _ (Ne.symm hb)).trans q) ⟨_,e⟩ ?_
  exact ⟨hz,its',n',r,e⟩
def QeB:V -> V -> V -> Hp -> (Hp -> Prop) -> Prop:=fun o i v H Q=>∃ p xs k j,o = .ref p /\ i = .int k /\ H p = some (.lst xs) /\ ixN xs.length k = some j /\ Q (upd H p (.lst (xs.set j v)))
theorem QaR:QcA X QeB:=by
  intro pins s σ H o i v ov iv u Q I ro ri rv h
  obtain ⟨p,xs,k,j,rfl,rfl,hp,hj,q⟩:=h
  cases ro
  obtain ⟨t,rfl⟩:=ri
  obtain ⟨its,n,r,ho,hz⟩:=I.lst hp
  obtain ⟨h1,h2,h3,h4⟩:=uT hj
  have hl:=r.length
  have hn:=yy
  have I':Inv X pins σ (upd H p (.lst (xs.set j v))) { s with heap:=s.heap.update p (Obj.mapSeq (·.setIfInBounds j u)) } :=
    I.lstUpd hp ho (vz its n j u) (r.set rv j) (by rw [List.length_set];exact hz) s.toks
  by_cases h0:0 <= k
  . have hk:k.toNat = j:=by
      rw [seqIndex_of h0 h4] at h1
      exact Option.some.inj h1
    exact PySem.W.ki_setAt ho h0 (by omega) (by rw [List.size_toArray,<- hl];exact h4) (by rw [hk];exact ⟨_,I',q⟩)
  . have hk:(k + (its.toArray.size:Int)).toNat = j:=by
      rw [seqIndex_neg (by omega) h3] at h1
      rw [List.size_toArray,<- hl]
      exact Option.some.inj h1
    exact PySem.W.ki_setBack ho (by omega) (by rw [List.size_toArray,<- hl];exact h3) (by omega) (by rw [hk];exact ⟨_,I',q⟩)
theorem UV (lo hi:Option Int) (n:Nat):(sliceBounds lo hi none n).1 = ((HT.sIx n 0 lo:Nat):Int) /\ (sliceBounds lo hi none n).2.1 = ((HT.sIx n n hi:Nat):Int) /\ (sliceBounds lo hi none n).2.2 = 1:=by
  refine ⟨?_,?_,rfl⟩
  . cases lo with
    | none=>simp [sliceBounds,HT.sIx]
    | some i =>
      simp only [sliceBounds,HT.sIx,Option.getD_none,show (1:Int) > 0 by decide,if_true]
      by_cases h:i < 0
      . simp only [h,if_true] <;> omega
      . simp only [h,if_false] <;> omega
  . cases hi with
    | none=>simp [sliceBounds,HT.sIx]
    | some i =>
      simp only [sliceBounds,HT.sIx,Option.getD_none,show (1:Int) > 0 by decide,if_true]
      by_cases h:i < 0
      . simp only [h,if_true] <;> omega
      . simp only [h,if_false] <;> omega
theorem Vl (its:List Value) (lo hi:Option Int):slicePick its.toArray lo hi none = ((its.drop (HT.sIx its.length 0 lo)).take (HT.sIx its.length its.length hi - HT.sIx its.length 0 lo)).toArray:=by
  obtain ⟨h1,h2,h3⟩:=UV lo hi its.toArray.size
  unfold slicePick
  rw [h1,h2,h3]
  simp only [sliceRange_one,pick_run,List.size_toArray] <;> rfl
def Qfo (K:PySem.W.Frag):V -> Option Int -> Option Int -> Hp -> VK -> Prop:=fun x lo hi H Q=>∃ a xs,x = .ref a /\ SqL K H a xs /\ ∀ p,H p = none -> Q (.ref p) (upd H p (.lst (Gg xs lo hi)))
theorem ux:SlR X (Qfo X.K):=by
  intro pins s σ H x v vl vu lo hi sl Q I rx hs pl pu h
  obtain ⟨a,xs,rfl,hx,q⟩:=h
  cases rx
  obtain ⟨its,r,ht,hz⟩:=I.list hx
  have hlen:=r.length
  refine ⟨"list", _,slot_list_getitem.lookup,ht.isList.typeIs,?_⟩
  refine wpAny_getItem_list_slice ht.isList hs pl pu .none (by simp) ?_ (by rw [List.size_toArray] <;> omega)
  rw [Vl,<- hlen]
  refine ⟨.ref s.heap.objs.size,_,I.laid (t':=s.toks) (o:=.lst (Gg xs lo hi)) (fun b ob q=>Heap.get?_push_of_some _ q) (Nat.le_refl _) ?_,rfl,q _ (I.hok.fresh (Nat.le_refl _))⟩
  exact ⟨Nat.le_trans (xr xs lo hi) hz,_,0,(r.drop (HT.sIx xs.length 0 lo)).take (HT.sIx xs.length xs.length hi - HT.sIx xs.length 0 lo),Heap.get?_push_size _ rfl⟩
def Yc:V -> Bool
  | .non=>true
  | .bl _=>true
  | .int _=>true
  | .str _=>true
  | _=>false
def eqV:V -> V -> Bool
  | .non,.non=>true
  | .bl a,.bl b=>a == b
  | .bl a,.int b=>(if a then 1 else 0) == b
  | .int a,.bl b=>a == (if b then 1 else 0)
  | .int a,.int b=>a == b
  | .str a,.str b=>a == b
  | _,_=>false
theorem Qdy {A:Around} {s:Shared} {y x:V} {u v:Value} (ry:RelV y u) (rx:RelV x v) (fy:Yc y = true) (fx:Yc x = true):SeqAt.EqAt A s u v (eqV y x):=by
  cases y with
  | non =>
    cases ry
    cases x with
    | non=>cases rx;exact SeqAt.EqAt.same _
    | bl b=>cases rx;exact SeqAt.EqAt.none_bool b
    | int b=>obtain ⟨t,rfl⟩:=rx;exact SeqAt.EqAt.none_int b t
    | str b=>obtain ⟨t,rfl⟩:=rx;exact SeqAt.EqAt.none_str b t
    | _=>exact absurd (show false = true from fx) Bool.false_ne_true
  | bl a =>
    cases ry
    cases x with
    | non=>cases rx;exact SeqAt.EqAt.bool_none a
    | bl b=>cases rx;exact SeqAt.EqAt.bool_bool a b
    | int b=>obtain ⟨t,rfl⟩:=rx;exact SeqAt.EqAt.bool_int a b t
    | str b=>obtain ⟨t,rfl⟩:=rx;exact SeqAt.EqAt.bool_str a b t
    | _=>exact absurd (show false = true from fx) Bool.false_ne_true
  | int a =>
    obtain ⟨t',rfl⟩:=ry
    cases x with
    | non=>cases rx;exact SeqAt.EqAt.int_none a t'
    | bl b=>cases rx;exact SeqAt.EqAt.int_bool a t' b
    | int b=>obtain ⟨t,rfl⟩:=rx;exact SeqAt.EqAt.int_int a t' b t
    | str b=>obtain ⟨t,rfl⟩:=rx;exact SeqAt.EqAt.int_str a t' b t
    | _=>exact absurd (show false = true from fx) Bool.false_ne_true
  | str a =>
    obtain ⟨t',rfl⟩:=ry
    cases x with
    | non=>cases rx;exact SeqAt.EqAt.str_none a t'
    | bl b=>cases rx;exact SeqAt.EqAt.str_bool a t' b
    | int b=>obtain ⟨t,rfl⟩:=rx;exact SeqAt.EqAt.str_int a t' b t
    | str b=>obtain ⟨t,rfl⟩:=rx;exact SeqAt.EqAt.str_str a t' b t
    | _=>exact absurd (show false = true from fx) Bool.false_ne_true
  | _=>exact absurd (show false = true from fy) Bool.false_ne_true
def eqU (x:V) (u:Value):Bool:=match u with
  | .none=>eqV .non x
  | .bool b=>eqV (.bl b) x
  | .int i _=>eqV (.int i) x
  | .str z _=>eqV (.str z) x
  | _=>false
theorem QaM {x y:V} {u:Value} (r:RelV y u) (f:Yc y = true):eqU x u = eqV y x:=by
  cases y with
  | non=>cases r;rfl
  | bl b=>cases r;rfl
  | int i=>obtain ⟨t,rfl⟩:=r;rfl
  | str z=>obtain ⟨t,rfl⟩:=r;rfl
  | _=>exact absurd (show false = true from f) Bool.false_ne_true
theorem UK {x:V}:∀ {xs:List V} {us:List Value},Vals xs us -> xs.all Yc = true -> us.any (eqU x) = xs.any fun y=>eqV y x
  | _,_,.nil,_=>rfl
  | y :: xs,u :: us,.cons r t,f=>by
    rw [List.all_cons,Bool.and_eq_true] at f
    rw [List.any_cons,List.any_cons,QaM r f.1,UK t f.2]
theorem yA {A:Around} {s:Shared} {x:V} {v:Value} (rx:RelV x v) (fx:Yc x = true):∀ {xs:List V} {us:List Value},Vals xs us -> xs.all Yc = true -> ∀ u ∈ us,SeqAt.EqAt A s u v (eqU x u)
  | _,_,.nil,_=>fun u hu=>by cases hu
  | y :: xs,u :: us,.cons r t,f=>fun u' hu=>by
    rw [List.all_cons,Bool.and_eq_true] at f
    rcases List.mem_cons.mp hu with rfl | hu
    . rw [QaM r f.1];exact Qdy r rx f.1 fx
    . exact yA rx fx t f.2 u' hu
def inV (x:V) (xs:List V):Bool:=xs.any fun y=>eqV y x
def rIn (K:PySem.W.Frag) (neg:Bool):R2:=fun x y H Q=>∃ p xs,y = .ref p /\ (SqL K H p xs ∨ SqT K H p xs) /\ Yc x = true /\ xs.all Yc = true /\ Q (.bl (if neg then !inV x xs else inV x xs)) H
theorem Uq:OpR X (compareOp .NotIn) (rIn X.K true):=by
  intro pins s σ H x y v u Q I rx ry h
  obtain ⟨p,xs,rfl,hq,fx,fs,q⟩:=h
  cases ry
  rcases hq with hq | hq
  . obtain ⟨its,r,pl,hz⟩:=I.list hq
    refine SeqAt.notIn_listAt (eqU x) pl.isList (fun w hw=>yA rx fx r fs w (by simpa using hw)) ⟨.bl _,H,I,rfl,?_⟩
    rw [show its.toArray.any (eqU x) = its.any (eqU x) by simp,UK r fs]
    exact q
  . obtain ⟨its,r,pl,hz⟩:=I.tuple hq
    refine SeqAt.notIn_tupleAt (eqU x) pl (fun w hw=>yA rx fx r fs w (by simpa using hw)) ⟨.bl _,H,I,rfl,?_⟩
    rw [show its.toArray.any (eqU x) = its.any (eqU x) by simp,UK r fs]
    exact q
theorem Y5:CallR X (.builtin "len") (fun xs H Q=>∃ p ys,xs = [.ref p] /\ (SqL X.K H p ys ∨ SqT X.K H p ys) /\ Q (.int ys.length) H):=by
  intro pins s σ H xs us Q I r h
  obtain ⟨p,ys,rfl,hq,q⟩:=h
  obtain ⟨u,rfl,rx⟩:=Ki r
  cases rx
  have hn:=yy
  rcases hq with hq | hq
  . obtain ⟨its,r',pl,hz⟩:=I.list hq
    have hlen:=r'.length
    exact Calls.call_len_list pl.isList (by simp only [List.size_toArray] <;> omega) ⟨.int ys.length,H,I.tok _,⟨s.toks + 1,by rw [List.size_toArray,hlen]⟩,q⟩
  . obtain ⟨its,r',pl,hz⟩:=I.tuple hq
    have hlen:=r'.length
    exact len_tuple pl (by simp only [List.size_toArray] <;> omega) ⟨.int ys.length,H,I.tok _,⟨s.toks + 1,by rw [List.size_toArray,hlen]⟩,q⟩
theorem V8:CallR X (.type "list") (fun xs H Q=>∃ p ys,xs = [.ref p] /\ (SqL X.K H p ys ∨ SqT X.K H p ys) /\ ∀ l,H l = none -> Q (.ref l) (upd H l (.lst ys))):=by
  intro pins s σ H xs us Q I r h
  obtain ⟨p,ys,rfl,hq,q⟩:=h
  obtain ⟨u,rfl,rx⟩:=Ki r
  cases rx
  have fin:∀ (its:List Value),Vals ys its -> ys.length <= sizeLine -> ∀ (h':Heap) (c':Nat),(∀ b o',s.heap.get? b = some o' -> h'.get? b = some o') ->
      h'.get? s.heap.objs.size = some { cls:=.type "list", dict:=none,data:=.seq its.toArray c',slots:=#[] } -> EP X pins σ Q (.ref s.heap.objs.size) { s with heap:=h' }:=fun its r' hz h' c' kp e =>
    ⟨.ref s.heap.objs.size,_,I.laid (t':=s.toks) kp (Nat.le_refl _) (show ObjOk X.prog X.w _ h' _ (.lst ys) from ⟨hz,its,c',r',e⟩),rfl,q _ (I.hok.fresh (Nat.le_refl _))⟩
  rcases hq with hq | hq
  . obtain ⟨its,r',pl,hz⟩:=I.list hq
    have hlen:=r'.length
    obtain ⟨o,ho,hc,n,hd⟩:=pl.isList
    exact call_list_seq p (.inl rfl) ho hc hd (fun h' c' kp e=>fin its r' hz h' c' kp e) (by simp only [List.size_toArray] <;> omega)
  . obtain ⟨its,r',pl,hz⟩:=I.tuple hq
    have hlen:=r'.length
    obtain ⟨o,ho,hc,n,hd⟩:=pl
    exact call_list_seq p (.inr rfl) ho hc hd (fun h' c' kp e=>fin its r' hz h' c' kp e) (by simp only [List.size_toArray] <;> omega)
theorem Yq:CallR X (.type "tuple") (fun xs H Q=>∃ p ys,xs = [.ref p] /\ ((SqL X.K H p ys /\ ∀ l,H l = none -> Q (.ref l) (upd H l (.tup ys))) ∨ (SqT X.K H p ys /\ Q (.ref p) H))):=by
  intro pins s σ H xs us Q I r h
  obtain ⟨p,ys,rfl,h⟩:=h
  obtain ⟨u,rfl,rx⟩:=Ki r
  cases rx
  rcases h with ⟨hq,q⟩ | ⟨hq,q⟩
  . obtain ⟨its,r',pl,hz⟩:=I.list hq
    have hlen:=r'.length
    refine call_tuple_list pl.isList (fun h' kp=>?_) (by simp only [List.size_toArray] <;> omega)
    have I1:Inv X pins σ H { s with heap:=h' }:=I.kept (t':=s.toks) kp
    have I2:Inv X pins σ (upd H h'.objs.size (.tup ys)) { s with heap:=h'.push { cls:=.type "tuple", data:=.seq its.toArray } } :=
      I1.laid (t':=s.toks) (fun b o e=>Heap.get?_push_of_some _ e) (Nat.le_refl _) (show ObjOk X.prog X.w _ _ _ (.tup ys) from ⟨hz,its,r',IsTup.new _ _⟩)
    exact ⟨.ref h'.objs.size,_,I2,rfl,q _ (I1.hok.fresh (Nat.le_refl _))⟩
  . obtain ⟨its,r',pl,hz⟩:=I.tuple hq
    exact call_tuple_same pl ⟨.ref p,H,I,rfl,q⟩
def tyV (K:PySem.W.Frag) (T:String) (x:V) (H:Hp):Prop:=match x with
  | .str _=>T = "str"
  | .int _=>T = "int"
  | .ref p=>(T = "list" /\ ∃ xs,SqL K H p xs) ∨ (T = "tuple" /\ ∃ o,K.lookup p = some o /\ o.cls = .type "tuple" /\ o.dict = none) ∨
      (T = "dict" /\ ((∃ kvs,H p = some (.dK kvs)) ∨ ∃ kvs,H p = some (.dT kvs))) ∨ (T = "set" /\ ∃ S n,H p = some (.set S n))
  | _=>False
theorem Qee {pins:List (Addr × Obj)} {σ:St} {H:Hp} {s:Shared} {T:String} {x:V} {v:Value} (I:Inv X pins σ H s) (r:RelV x v) (ty:tyV X.K T x H) :
    s.TypeIs v T /\ ∀ a,v = .ref a -> ∃ ob,s.heap.get? a = some ob /\ ob.dict = none:=by
  cases x with
  | str z =>
    obtain ⟨t,rfl⟩:=r
    cases (show T = "str" from ty)
    exact ⟨typeIs_str s z t,fun _ e=>nomatch e⟩
  | int i =>
    obtain ⟨t,rfl⟩:=r
    cases (show T = "int" from ty)
    exact ⟨typeIs_int s i t,fun _ e=>nomatch e⟩
  | ref p =>
    cases r
    rcases ty with ⟨rfl,xs,hq⟩ | ⟨rfl,o,hk,hc,hd⟩ | ⟨rfl,hk⟩ | ⟨rfl,S,n,hk⟩
    . obtain ⟨its,_,pl,_⟩:=I.list hq
      refine ⟨pl.isList.typeIs,fun a e=>?_⟩
      cases e
      obtain ⟨o,n,e,c,hd,_⟩:=pl
      exact ⟨o,e,hd⟩
    . refine ⟨⟨o,I.kIn p o hk,hc⟩,fun a e=>?_⟩
      cases e
      exact ⟨o,I.kIn _ o hk,hd⟩
    . have z:∃ o,s.heap.get? p = some o /\ o.ExactDict:=by
        rcases hk with ⟨kvs,hk⟩ | ⟨kvs,hk⟩
        . obtain ⟨_,_,_,_,o,_,_,e,ex,_⟩:=I.hok p _ hk
          exact ⟨o,e,ex⟩
        . obtain ⟨_,_,_,_,o,_,_,e,ex,_⟩:=I.hok p _ hk
          exact ⟨o,e,ex⟩
      obtain ⟨o,e,ex⟩:=z
      refine ⟨⟨o,e,ex.1⟩,fun a e2=>?_⟩
      cases e2
      exact ⟨o,e,ex.2.1⟩
    . obtain ⟨o,_,_,_,e,ex,_⟩:=I.hok p _ hk
      refine ⟨⟨o,e,ex.1⟩,fun a e2=>?_⟩
      cases e2
      exact ⟨o,e,ex.2.1⟩
  | _=>exact False.elim ty
def tBM (K:PySem.W.Frag) (T:String) (r:V -> List V -> Hp -> VK -> Prop) (to:TE) (t:TA):TE:=fun σ H Q=>to σ H fun x H1=>tyV K T x H1 /\ t σ H1 fun xs H2=>r x xs H2 Q
variable {o e:Expr} {es:List Expr} {to:TE} {t:TA} {name:Str} {apos cpos:Pos} {T id:String} {r:V -> List V -> Hp -> VK -> Prop}
theorem Qc9 (pa:PlainAttrs T) (slot:Slot T name id) (hty:typeOf (.builtin id) = pure (.type "method_descriptor")) (hm:MtR X id r) (ho:PE X o to) (ha:PA X (e :: es) t)
    (hbase:attributeBase o name X.env (eval o X.env) = eval o X.env:=by rfl)
    (hfew:((backTo cpos (starEach (e :: es) X.env)).all (fun x=>!x.1) && (backToKw cpos (keywordEach [] X.env)).all (fun x=>x.1.isSome)
      && decide ((e :: es).length + ([]:List Keyword).length + (if ([]:List Keyword).isEmpty then 0 else 1) < 30)) = true:=by rfl)
    (hline:(apos.endLine == cpos.line) = true:=by rfl) (hs:starEach (e :: es) X.env = (false,eval e X.env) :: starEach es X.env:=by rfl) (hplain:(backTo cpos (starEach es X.env)).any (·.1) = false:=by rfl) :
    PE X (.Call (.Attribute o name apos) (e :: es) [] cpos) (tBM X.K T r to t):=by
  intro pins s σ H Q I h
  refine wpAny_Call_method_late hbase hfew hline rfl (thn (ho pins s σ H _ I h) fun v s1 ⟨x,H1,I1,r1,ty,q1⟩=>?_)
  obtain ⟨h1,h2⟩:=Qee I1 r1 ty
  refine ⟨T,id,pa,slot,hty,h1,h2,?_⟩
  have hA:=ha cpos pins s1 σ H1 _ I1 q1
  rw [hs] at hA ⊢
  refine Calls.callWith_builtin (by show (false || (backTo cpos (starEach es X.env)).any (·.1)) = false;rw [hplain] <;> rfl) (Calls.evalArgs_plain ?_)
  exact thn hA fun us s2 ⟨vs,H2,I2,r2,q2⟩=>hm pins s2 σ H2 x vs v us Q I2 r1 r2 q2
/- xs.append(e),list.index on a module's tuple .. are MtR facts of 06m -/
end
end L2
namespace L2
open PySem PySem.Spec PyProof.Rows
def MtM (X:Cx) (id:String) (r:V -> List V -> Hp -> VK -> Prop):Prop :=
  ∀ (pins : List (Addr × Obj)) (s : Shared) (σ : St) (H : Hp) (x : V) (xs : List V) (v : Value) (us : List Value) (Q : VK), Inv X pins σ H s -> RelV x v -> Vals xs us -> r x xs H Q ->
    wpAny (model X.prog X.w) X.A (call (.builtin id) (v :: us)) (EP X pins σ Q) X.xe s
theorem Vals.one:∀ {x:V} {us:List Value},Vals [x] us -> ∃ u,us = [u] /\ RelV x u
  | _,_,.cons r .nil=>⟨_,rfl,r⟩
theorem Vals.two:∀ {x y:V} {us:List Value},Vals [x,y] us -> ∃ u v,us = [u,v] /\ RelV x u /\ RelV y v
  | _,_,_,.cons r (.cons q .nil)=>⟨_,_,rfl,r,q⟩
theorem Vals.reverse {xs:List V} {us:List Value} (h:Vals xs us):Vals xs.reverse us.reverse:=by
  induction h with
  | nil=>exact .nil
  | cons r t ih=>rw [List.reverse_cons,List.reverse_cons];exact Vals.append ih (.cons r .nil)
theorem Vals.rep {xs:List V} {us:List Value} (h:Vals xs us):∀ k:Nat,Vals (List.replicate k xs).flatten (List.replicate k us).flatten
  | 0=>.nil
  | k + 1=>by
    rw [List.replicate_succ,List.replicate_succ,List.flatten_cons,List.flatten_cons]
    exact Vals.append h (Vals.rep h k)
section
variable {X:Cx} {pins:List (Addr × Obj)} {σ:St} {H:Hp} {s:Shared} {l b:Addr} {xs ys zs:List V}
theorem Inv.lset {its its':List Value} {n:Nat} {f:Array Value -> Array Value} {t':Nat} (I:Inv X pins σ H s) (hH:H l = some (.lst xs))
    (e:s.heap.get? l = some { cls:=.type "list", data:=.seq its.toArray n }) (hf:f its.toArray = its'.toArray) (hv:Vals ys its') (hz:ys.length <= sizeLine) :
    Inv X pins σ (upd H l (.lst ys)) { s with heap:=s.heap.update l (Obj.mapSeq f),toks:=t' }:=by
  have q:=PySem.IsL.update e f
  rw [hf] at q
  refine I.write (x:=l) (e:=l) (by rw [hH];exact trivial) (.inl rfl) (fun b' u hb hu=>(Heap.get?_update_other s.heap (Obj.mapSeq f) (Ne.symm hb)).trans hu) ⟨_,q⟩ ?_
  exact ⟨hz,its',_,hv,q⟩
theorem Inv.lnew {its:List Value} {t':Nat} (I:Inv X pins σ H s) (hv:Vals ys its) (hz:ys.length <= sizeLine) :
    Inv X pins σ (upd H s.heap.objs.size (.lst ys)) { s with heap:=s.heap.push { cls:=.type "list", data:=.seq its.toArray },toks:=t' } :=
  I.laid (fun _ _ q=>Heap.get?_push_of_some _ q) (Nat.le_refl _) ⟨hz,its,0,hv,Heap.get?_push_size _ rfl⟩
theorem Inv.fresh (I:Inv X pins σ H s):H s.heap.objs.size = none:=I.hok.fresh (Nat.le_refl _)
theorem Inv.lstM (I:Inv X pins σ H s) (hH:H l = some (.lst xs)):xs.length <= sizeLine /\ ∃ (its:List Value) (n:Nat),Vals xs its /\ xs.length = its.length /\ s.heap.get? l = some { cls:=.type "list", data:=.seq its.toArray n }:=by
  obtain ⟨z,its,n,r,e⟩:=I.hok l _ hH
  exact ⟨z,its,n,r,r.length,e⟩
theorem QbF {n:Nat} (h:n <= sizeLine):Builtin.List.listTooLong n = false:=by
  unfold Builtin.List.listTooLong
  exact decide_eq_false (by omega)
end
section
variable {X:Cx}
def uh:V -> List V -> Hp -> VK -> Prop:=fun x vs H Q=>∃ l xs y,x = .ref l /\ vs = [y] /\ H l = some (.lst xs) /\ xs.length < sizeLine /\ Q .non (upd H l (.lst (xs ++ [y])))
theorem j6:MtM X "list.append" uh:=by
  intro pins s σ H x vs v us Q I rx rv h
  obtain ⟨l,xs,y,rfl,rfl,hH,hz,q⟩:=h
  cases rx
  obtain ⟨u,rfl,ru⟩:=rv.one
  obtain ⟨z,its,n,r,hl,e⟩:=I.lstM hH
  refine call_meets F.slot_list_append ⟨_,e,rfl⟩ F.entry_list_append (F.args_list_append_2 _ _) (PySem.list_append l its.toArray n u (by rw [List.size_toArray];omega)) ⟨e,?_⟩
  refine ⟨.non,_,I.lset (its':=its ++ [u]) hH e (by simp) (r.append (.cons ru .nil)) ?_,rfl,q⟩
  rw [List.length_append,List.length_singleton]
  omega
def Qcv:V -> List V -> Hp -> VK -> Prop:=fun x vs H Q=>∃ l b xs zs,x = .ref l /\ vs = [.ref b] /\ H l = some (.lst xs) /\ H b = some (.lst zs) /\ xs.length + zs.length <= sizeLine /\ Q .non (upd H l (.lst (xs ++ zs)))
theorem gL:MtM X "list.extend" Qcv:=by
  intro pins s σ H x vs v us Q I rx rv h
  obtain ⟨l,b,xs,zs,rfl,rfl,hH,hB,hz,q⟩:=h
  cases rx
  obtain ⟨u,rfl,ru⟩:=rv.one
  cases ru
  obtain ⟨z,its,n,r,hl,e⟩:=I.lstM hH
  obtain ⟨z2,its2,n2,r2,hl2,e2⟩:=I.lstM hB
  have hsz:its.toArray.size + its2.toArray.size <= sizeLine:=by rw [List.size_toArray,List.size_toArray];omega
  have hlong:¬ (!its.toArray.isEmpty && Builtin.List.listTooLong (its.toArray.size + its2.toArray.size)) = true:=by
    rw [QbF hsz,Bool.and_false]
    exact Bool.false_ne_true
  refine call_meets F.slot_list_extend ⟨_,e,rfl⟩ F.entry_list_extend (F.args_list_extend_2 _ _)
    (AutoSeq1.list_extend_list_list_0 l its.toArray n b its2.toArray n2 hlong (by rw [List.size_toArray];omega) (by omega)) ⟨e,e2,?_⟩
  refine ⟨.non,_,I.lset (its':=its ++ its2) hH e (by simp) (r.append r2) ?_,rfl,q⟩
  rw [List.length_append]
  omega
end
section
variable {prog:Program} {w:World} {A:Around} {E:Value -> Shared -> Prop} {s:Shared}
end
section
variable {X:Cx}
end
end L2
namespace Att
open PySem PySem.W PySem.Calls PyProof.Rows
theorem xH {P:Params} {h:Heap}:∀ (ns:List Int) (vs:List Value),WellAll P h vs (ns.map WData.int) -> IntsAre vs ns:=by
  intro ns
  induction ns with
  | nil =>
    intro vs w
    rw [List.map_nil] at w
    cases w
    exact .nil
  | cons n ns ih =>
    intro vs w
    rw [List.map_cons] at w
    cases w with
    | cons a b =>
      cases a
      exact .cons _ _ (ih _ b)
theorem gM {l:OpenLaw} {n:Nat} (hn:l.most = some n) {P:Params} {h:Heap} {args:List WData} {vals:List Value}
    (hpre:l.row.toRowW.claim.pre args = true) (hwl:WellAll P h vals args) :
    ∃ a vs ns,vals = [Value.ref a] /\ args = [WData.list (ns.map WData.int)] /\ h.get? a = some { cls:=.type "list", data:=.seq vs.toArray } /\ IntsAre vs ns /\ ns.length <= n:=by
  have hsh:WShape.hasAll [] args [.list .int] = true:=(pre_splitW hpre).1
  have hc:l.pre.holds [] { args:=args } = true:=(pre_splitW hpre).2
  obtain ⟨d,r,rfl,h1,h2⟩:=hasAllW_cons hsh
  obtain rfl:=hasAllW_nil h2
  obtain ⟨xs,rfl,h3⟩:=hasW_list h1
  obtain ⟨ns,rfl⟩:=items_int h3
  have hlen:ns.length <= n:=by
    unfold OpenLaw.pre at hc
    have h4:(WTm.not (.lt (.lit (.int (n:Int))) (.len (.arg 0)))).holds [] { args:=[.list (ns.map .int)] } = true:=by
      have h4:=(holds_andW hc).1
      rw [hn] at h4
      exact h4
    have h5:=condW_of h4 (w_not (w_lt w_lit (w_len_list (w_arg rfl))))
    rw [List.length_map] at h5
    refine Nat.le_of_not_lt fun q=>?_
    have q':(n:Int) < ((ns.length:Nat):Int):=by omega
    first
      | (rw [decide_eq_true q'] at h5;exact absurd h5 (by decide))
      | (simp at h5;omega)
  cases hwl with
  | cons w1 w2 =>
    cases w2
    cases w1 with
    | list ho hall=>exact ⟨_,_,ns,rfl,rfl,ho,xH ns _ hall,hlen⟩
theorem gp (l:OpenLaw) (args:List WData):l.row.toRowW.claim.post args (.bool true) args = true :=
  postW_of (r:=l.row.toRowW) (X:=(true == true))
    (show WShape.has [] (.bool true) .bool = true by first | rfl | decide | simp [WShape.has,WShape.arms,WShape.armsAll])
    (show (WTm.eq .res (.lit (.bool true))).value [] { args:=args,res:=some (.bool true),after:=args } = some (.bool (true == true)) from w_eq_bool (w_res rfl) w_lit) rfl
theorem attach_call {l:OpenLaw} {n:Nat} {q:Program} {loose:List Str} {XP:(Str -> Option Value) -> Heap -> Prop} {YP:World -> Heap -> Prop} {d:DefRec}
    (hn:l.most = some n) (hdf:d.params.defaults = [])
    (call:∀ (w:World) (s₀ s₁:Shared) (mg mb:Str -> Option Value) (fa:Addr) (o:Obj) (pm cd doc:Value) (a:Addr) (vs:List Value) (ns:List Int),
      Ground q loose [] XP w s₀ mg mb s₁.heap -> YP w s₁.heap ->
      s₁.heap.get? fa = some o -> o.data = .func (docDef d.name d.params d.body d.scope pm cd doc) -> s₁.heap.CodeRec cd d.name -> mg d.name = some (.ref fa) ->
      s₁.heap.get? a = some { cls:=.type "list", data:=.seq vs.toArray } -> IntsAre vs ns -> ns.length <= n -> s₁.gens = #[] ->
      codeAny (model l.prog w) callerA (.call (.ref fa) ⟨[.ref a],[]⟩) (fun r s'=>r = .ok (.ret (.bool true)) /\ OldK s₁.heap s'.heap /\ s'.os = s₁.os /\ AllBare s'.gens) s₁) :
    WalkO q loose XP YP l.row.toRowW d [] (fun f vs=>PySem.call f vs):=by
  intro w s₀ s₁ mg mb G Y fa o pm cd doc dV kV ho hd hcd hD hmg hg args vals as hpre hlay hrd hwl hlo
  obtain rfl:dV = .none:=Dflts.none hD hdf
  obtain rfl:kV = .none:=Dflts.noKw hD
  obtain ⟨a,vs,ns,rfl,rfl,hobj,hints,hlen⟩:=gM hn hpre hwl
  refine enter_call (codeAny_mono (call w s₀ s₁ mg mb fa o pm cd doc a vs ns G Y ho (fd_plain hd) hcd hmg hobj hints hlen hg) fun r s' hq=>?_)
  obtain ⟨rfl,h2,h3,h4⟩:=hq
  exact ⟨.inl ⟨.bool true,.bool true,[],rfl,fun _=>rfl,.bool true,gp l _,fun _=>⟨List.Pairwise.nil,fun _ hm=>(nomatch hm)⟩⟩,h2,h3,h4⟩
section
variable {prog:Program} {w:World} {A:Around} {E:Value -> Shared -> Prop} {s:Shared} {K:Frag}
def QfC (h:Heap) (L d:Addr):List (Addr × Obj):=(List.range h.objs.size).filterMap fun a=>if a = L ∨ a = d then none else (h.get? a).map fun o=>(a,o)
end
end Att
namespace L2
open PySem PySem.Spec PyProof.Rows
theorem VI:∀ {vs:List Value} {ns:List Int},IntsAre vs ns -> Vals (ns.map V.int) vs
  | _,_,.nil=>.nil
  | _,_,.cons n t h=>.cons ⟨t,rfl⟩ (VI h)
def Qeh (H:Hp):Prop:=∀ b,H b = none ∨ ∃ o xs,H b = some (.frz o (.lst xs))
theorem QaS {P:Program} {w:World} {K:PySem.W.Frag} {mg mb:Str -> Option Value} {CX:CXT} {k:Nat} {fa a:Addr} {fd:FuncData} {x:Str} {sp:Sp} {s₁:Shared} {vs:List Value} {ns:List Int}
    (KX:K.In s₁.heap) (hns:s₁.heap.Ns mainGlobals mg) (hb:s₁.heap.Ns builtinsNs mb) (hbb:∀ x:Str,x ≠ "__name__" -> mb x = bootBuiltins x) (hlim:s₁.heap.NoLimit) (hg:s₁.gens = #[])
    (ha:s₁.heap.get? a = some { cls:=.type "list", data:=.seq vs.toArray }) (hi:IntsAre vs ns) (hl:ns.length <= sizeLine) (hr:Room k callerA)
    (F:∀ base:Heap,K.In base -> base.Ns mainGlobals mg -> FnOk P w K mg base CX k fa fd [x] sp) (hbind:∀ (s:Shared) (u:Value),BindsTo s fd ⟨[u],[]⟩ [(x,u)])
    (hsp:∀ H:Hp,Qeh H -> SqL K H a (ns.map V.int) -> sp [.ref a] H (fun v _=>v = .bl true) fun _ _ _=>False)
    (hCX:∀ H e s',CX [] H s₁ (fun _ _ _=>False) e s' -> False) :
    codeAny (model P w) callerA (.call (.ref fa) ⟨[.ref a],[]⟩) (fun r s'=>r = .ok (.ret (.bool true)) /\ OldK s₁.heap s'.heap /\ s'.os = s₁.os /\ AllBare s'.gens) s₁:=by
  have rv:=VI hi
  have lenV:=hi.length
  have core:∀ H:Hp,Qeh H -> SqL K H a (ns.map V.int) -> HOk P w H s₁.heap -> (∀ b,H b ≠ none -> b = a) -> (H a ≠ none -> K.lookup a = none) ->
      codeAny (model P w) callerA (.call (.ref fa) ⟨[.ref a],[]⟩) (fun r s'=>r = .ok (.ret (.bool true)) /\ OldK s₁.heap s'.heap /\ s'.os = s₁.os /\ AllBare s'.gens) s₁:=by
    intro H hO hS hok hA hK
    have base_of:∀ {b:Addr} {o:Obj},s₁.heap.get? b = some o -> H b = none -> (UI s₁.heap H).get? b = some o:=fun e n=>Qbv e n
    have noA:∀ {b:Addr} {o:Obj} {es:Array DictEntry} {ep:Nat},s₁.heap.get? b = some o -> o.data = .dict es ep -> H b = none:=fun {b o es ep} e d=>by
      cases q:H b with
      | none=>rfl
      | some u =>
        have e':b = a:=hA b (by rw [q];simp)
        subst e'
        rw [ha] at e;cases e
        have d':Data.seq vs.toArray _ = Data.dict es ep:=d
        cases d'
    have nsK:∀ {b:Addr} {m:Str -> Option Value},s₁.heap.Ns b m -> (UI s₁.heap H).Ns b m:=fun {b m} ⟨o,es,ep,e,d,r⟩=>⟨o,es,ep,base_of e (noA e d),d,r⟩
    have hKb:K.In (UI s₁.heap H):=fun b o e=>base_of (KX b o e) (by
      cases q:H b with
      | none=>rfl
      | some u =>
        have e':b = a:=hA b (by rw [q];simp)
        subst e'
        rw [hK (by rw [q];simp)] at e;cases e)
    have hM:Mod K mg (UI s₁.heap H):=⟨hKb,nsK hns,⟨mb,nsK hb,hbb⟩,let ⟨mc,h1,h2⟩:=hlim;⟨mc,nsK h1,h2⟩⟩
    have e0:Env0 P w K mg (UI s₁.heap H) callerA [] s₁ H:=⟨rfl,hM,fun b o e=>QcF e,Nat.le_of_eq (g9 _ _),trivial,fun b hb=>absurd (show b ∈ ([]:List Addr) from hb) (by simp),hok,.of_eq hg⟩
    refine codeAny_mono ((F _ hKb (nsK hns)).run callerA [] s₁ H ⟨[.ref a],[]⟩ [.ref a] [.ref a] _ _ hr e0 (hbind s₁ (.ref a)) (.cons rfl .nil) (hsp H hO hS)) fun r s' h=>?_
    cases r with
    | error e=>exact (hCX H e s' h).elim
    | ok fl =>
      cases fl with
      | next=>exact False.elim h
      | brk=>exact False.elim h
      | cont=>exact False.elim h
      | ret u =>
        obtain ⟨v,H',os,bare,un,hok',r',q⟩:=h
        have q':v = .bl true:=q
        subst q'
        obtain rfl:u = Value.bool true:=r'
        refine ⟨rfl,OldK.of_keep fun b o e=>?_,os,bare⟩
        cases q:H b with
        | none=>exact un.keep b o e q (by intro z;exact absurd (show b ∈ ([]:List Addr) from z) (by simp)) (by simp)
        | some u =>
          rcases hO b with z | ⟨ob,xs,z⟩
          . rw [q] at z;cases z
          . have z2:=un.frzs b ob _ z
            obtain ⟨e1,_⟩:=hok b _ z
            obtain ⟨e2,_⟩:=hok' b _ z2
            rw [e] at e1;cases e1
            exact e2
  cases hk:K.lookup a with
  | some o =>
    have e:=KX a o hk
    rw [ha] at e
    cases e
    refine core (fun _=>none) (fun _=>.inl rfl) (.inr ⟨_,vs.toArray,_,hk,rfl,rfl,rfl,by rw [List.size_toArray,lenV];exact hl,by simpa using rv⟩) (fun b u z=>by have z':(none:Option HO) = some u:=z;cases z') (fun b z=>absurd rfl z) fun z=>absurd rfl z
  | none =>
    refine core (fun b=>if b = a then some (.frz { cls:=.type "list", data:=.seq vs.toArray } (.lst (ns.map V.int))) else none) (fun b=>?_) (.inl (.inr ⟨{ cls:=.type "list", data:=.seq vs.toArray },if_pos rfl⟩)) (fun b u z=>?_) (fun b z=>?_) fun _=>hk
    . by_cases hb:b = a
      . exact .inr ⟨_,_,if_pos hb⟩
      . exact .inl (if_neg hb)
    . by_cases hb:b = a
      . have z':=(if_pos hb).symm.trans z
        cases z'
        subst hb
        exact ⟨ha,by rw [List.length_map];exact hl,vs,_,rv,ha⟩
      . have z':=(if_neg hb).symm.trans z
        cases z'
    . by_cases hb:b = a
      . exact hb
      . exact absurd (if_neg hb) z
end L2
namespace L2
open PySem PySem.Spec PyProof.Rows
theorem u9 {l:PySem.W.OpenLaw} {n k:Nat} {q:Program} {loose:List Str} {XP:(Str -> Option Value) -> Heap -> Prop} {YP:World -> Heap -> Prop} {d:DefRec} {K:Params -> PySem.W.Frag} {CX:World -> CXT} {sp:World -> Sp} {x:Str}
    (hn:l.most = some n) (hn2:n <= sizeLine) (hdf:d.params.defaults = []) (hr:Room k callerA)
    (hY:∀ (w:World) (h:Heap),YP w h -> (K w.params).In h)
    (F:∀ (w:World) (mg:Str -> Option Value) (fa:Addr) (h:Heap),(K w.params).In h -> h.Ns mainGlobals mg -> mg d.name = some (.ref fa) ->
      ∃ fd : FuncData, (∀ (s : Shared) (u : Value), BindsTo s fd ⟨[u], []⟩ [(x, u)]) /\
        ∀ base:Heap,(K w.params).In base -> base.Ns mainGlobals mg -> FnOk l.prog w (K w.params) mg base (CX w) k fa fd [x] (sp w))
    (hsp:∀ (w:World) (H:Hp) (a:Addr) (ns:List Int),ns.length <= n -> Qeh H -> SqL (K w.params) H a (ns.map V.int) -> sp w [.ref a] H (fun v _=>v = .bl true) fun _ _ _=>False)
    (hCX:∀ (w:World) (H:Hp) (s:Shared) (e:Value) (s':Shared),CX w [] H s (fun _ _ _=>False) e s' -> False) :
    PySem.W.WalkO q loose XP YP l.row.toRowW d [] (fun f vs=>PySem.call f vs):=by
  refine Att.attach_call hn hdf fun w s₀ s₁ mg mb fa o pm cd doc a vs ns G Y ho hd hcd hmg hobj hints hlen hg=>?_
  have KX:=hY w _ Y
  obtain ⟨fd,hb,hF⟩:=F w mg fa _ KX G.T.g hmg
  exact QaS KX G.T.g G.T.b G.T.builtins G.T.nolimit hg hobj hints (Nat.le_trans hlen hn2) hr hF hb (fun H hO hS=>hsp w H a ns hlen hO hS) fun H e s'=>hCX w H s₁ e s'
end L2
/- THE LAST THEOREM (shape; LID, My.* are yours):
   My.Adr: a structure of the addresses that your layer names (classes,functions);My.Txt K t: a structure (Prop) of the equations over K;
   My.txt_mk:{K} {implicit addresses ..} (e1:nsIn K mainGlobals "law" = some (some (.ref f))) (e2:K.lookup f = some ⟨oc,od,.func (fnOf "law" "law" params body scope dV kV doc pm an cdv ct),sl⟩) (e3:codeIn K cdv "law" = true) ..:∃ t,My.Txt K t
set_option maxRecDepth 100000 in
set_option maxHeartbeats 0 in
theorem PySem.Challenge.cw_LID_holds : PySem.Challenge.rw_LID.Holds := by
  w_on;o_law;k_head;(case hw=>w_witness2)
  k_fill
  refine L2.u9 (l:=PySem.Challenge.rw_LID) (n:=63) (k:=40) (x := "script") (CX:=fun w=>..) (sp:=fun _=>My.sp_law) rfl (by decide) rfl ⟨rfl,by decide,by decide⟩ (fun w h Y=>PySem.W.kIn_of Y) ?F ?S ?C
  case F =>
    intro w mg fa h KX G hmg
    have T:∃ t,My.Txt (L2.KOf KX) t:=by
      dsimp only [L2.KOf]                          -- K must stand as «<heap const> w.params» for k_is
      refine' My.txt_mk ?e1 ?e2 ?e3 ..
      (case e1=>PySem.W.k_is)                    -- in the order: a name -> its address -> its object -> its parts
      (case e2=>PySem.W.k_is)
      ..
    obtain ⟨t,T⟩:=T
    have e0:=hmg.symm.trans (PySem.W.mg_of KX G T.law)
    cases e0                                       -- fa is the law's own address
    exact ⟨_,fun s u=>.of_eq rfl,fun base kb nb=>My.law_fn T kb nb⟩     -- if «.of_eq rfl» comes too early: refine' ⟨_,?b,fun base kb nb=>My.law_fn T kb nb⟩;exact fun s u=>.of_eq rfl
  case S=>exact fun w H a ns hl hO hS=>..
  case C=>exact ..
(the tactic k_is has no namespace: write k_is) -/
namespace L2
open PySem PySem.Spec PyProof.Rows
def Yi (s:Stmt) (j:Nat):Stmt:=match s with
  | .ClassDef _ _ _ body _ _ _ _ _ _ _=>body.getD j (.Pass ⟨0,0,0,0⟩)
  | _=>.Pass ⟨0,0,0,0⟩
def QF (s:Stmt):Arguments:=match s with
  | .FunctionDef _ a _ _ _ _ _ _ _ _=>a
  | _=>{ posonlyargs:=[],args:=[],vararg:=none,kwonlyargs:=[],kw_defaults:=[],kwarg:=none,defaults:=[] }
def QC (s:Stmt):List Stmt:=match s with
  | .FunctionDef _ _ b _ _ _ _ _ _ _=>b
  | _=>[]
def Qm (s:Stmt):Scope:=match s with
  | .FunctionDef _ _ _ _ _ _ sc _ _ _=>sc
  | _=>{ kind:=.function,names:=[],isGenerator:=false,isCoroutine:=false }
abbrev CX0:CXT:=fun _ _ _ _ _ _=>False
abbrev E0:XK:=fun _ _ _=>False
theorem QH {X:Cx}:Ym CX0 X E0:=fun _ _ _ _ _ _ _ h=>h.elim
structure Fun (K:PySem.W.Frag) (x qual:Str) (st:Stmt) (f:Addr) (fd:FuncData):Prop where
  ex:∃ (oc:Value) (od:Option Addr) (kV doc pm:Value) (an:Option Addr) (cdv ct:Value) (osl:Array (Option Value)),
    fd = PySem.W.fnOf x qual (QF st) (QC st) (Qm st) .none kV doc pm an cdv ct /\ K.lookup f = some ⟨oc,od,.func fd,osl⟩ /\ PySem.W.codeIn K cdv qual = true
  kp:PySem.W.keepIn K (.ref f) = true
section
variable {P:Program} {w:World} {K:PySem.W.Frag} {mg:Str -> Option Value} {base:Heap}
theorem Fun.ok {x qual:Str} {st:Stmt} {f:Addr} {fd:FuncData} {N ps:List Str} {k:Nat} {sp:Sp} (F:Fun K x qual st f fd) (S:QG N ps (Qm st)) (len:∀ vs H Q E,sp vs H Q E -> vs.length = ps.length)
    (hbody:∀ (cdv:Value) (A:Around) (outer:List Env) (s:Shared) (H:Hp) (vs:List V) (Q:VK) (E:XK),Room k (A.deeper (envOfC qual (Qm st) s.heap.objs.size f cdv)) -> sp vs H Q E ->
      ∃ t,PSs (yP CX0 P w K mg base N qual (Qm st) f cdv A outer s H E).nox (QC st) t /\ t { nx:=fun _ H'=>Q .non H',rt:=Q } (start N vs) H):FnOk P w K mg base CX0 (k + 1) f fd ps sp:=by
  obtain ⟨oc,od,kV,doc,pm,an,cdv,ct,osl,rfl,lk,hcd⟩:=F.ex
  refine Qfd lk hcd S len fun A outer s H vs Q E hr hsp=>?_
  obtain ⟨t,h,q⟩:=hbody cdv A outer s H vs Q E hr hsp
  exact ⟨t,h.nox,q⟩
theorem Fun.binds {x qual:Str} {st:Stmt} {f:Addr} {fd:FuncData} {ps:List Str} (F:Fun K x qual st f fd)
    (h:∀ (kV doc pm:Value) (an:Option Addr) (cdv ct:Value) (us:List Value),us.length = ps.length -> bindArgs (PySem.W.fnOf x qual (QF st) (QC st) (Qm st) .none kV doc pm an cdv ct) ⟨us,[]⟩ = pure (ps.zip us)):Binds K fd ps []:=by
  obtain ⟨oc,od,kV,doc,pm,an,cdv,ct,osl,rfl,lk,hcd⟩:=F.ex
  exact .all (h kV doc pm an cdv ct)
theorem QZ {x qual:Str} {st:Stmt} {f:Addr} {oc:Value} {od an:Option Addr} {osl:Array (Option Value)} {kV doc pm cdv ct:Value} (l:K.lookup f = some ⟨oc,od,.func (PySem.W.fnOf x qual (QF st) (QC st) (Qm st) .none kV doc pm an cdv ct),osl⟩)
    (c:PySem.W.codeIn K cdv qual = true) (k:PySem.W.keepIn K (.ref f) = true):Fun K x qual st f (PySem.W.fnOf x qual (QF st) (QC st) (Qm st) .none kV doc pm an cdv ct):=⟨⟨oc,od,kV,doc,pm,an,cdv,ct,osl,rfl,l,c⟩,k⟩
end
theorem QK {A:Around} {k:Nat} (hr:Room k A):A.units + 1 < cLine:=Nat.lt_of_le_of_lt (Nat.add_le_add_left (by decide:1 <= 64) _) hr.units
section
variable {X:Cx}
end
theorem Ud {A B:Prop} (h:B):if false = true then A else B:=by
  rw [if_neg Bool.false_ne_true]
  exact h
theorem UM {A B:Prop} (h:A):if true = true then A else B:=by
  rw [if_pos rfl]
  exact h
def Same (H H':Hp):Prop:=∀ b o,H b = some o -> H' b = some o
theorem Same.refl (H:Hp):Same H H:=fun _ _ h=>h
theorem Same.trans {H H1 H2:Hp} (a:Same H H1) (b:Same H1 H2):Same H H2:=fun c o h=>b c o (a c o h)
theorem Same.free {H H':Hp} (e:Same H H') {l:Addr} (h:H' l = Option.none):H l = Option.none:=by
  cases q:H l with
  | none=>rfl
  | some o =>
    rw [e l o q] at h
    cases h
theorem Same.seq {K:PySem.W.Frag} {H H':Hp} {a:Addr} {xs:List V} (e:Same H H') (h:SqL K H a xs):SqL K H' a xs:=by
  rcases h with (h | ⟨o,h⟩) | h
  . exact .inl (.inl (e _ _ h))
  . exact .inl (.inr ⟨o,e _ _ h⟩)
  . exact .inr h
end L2
set_option maxHeartbeats 4000000
namespace L2
open PySem PySem.Spec PyProof.Rows
section
variable {κ:Type} [DecidableEq κ]
def qu (kvs:List (κ × V)) (k:κ):Option V:=(kvs.find? fun kv=>decide (kv.1 = k)).map (·.2)
def jc (kvs:List (κ × V)) (k:κ) (v:V):List (κ × V) :=
  if (kvs.any fun kv=>decide (kv.1 = k)) = true then kvs.map (fun kv=>if kv.1 = k then (kv.1,v) else kv) else kvs ++ [(k,v)]
def ut (kvs:List (κ × V)) (k:κ):List (κ × V):=kvs.filter fun kv=>decide (kv.1 ≠ k)
theorem Vb {p:κ × V} {r:List (κ × V)} {k:κ} (e:p.1 = k):qu (p :: r) k = some p.2:=by simp [qu,List.find?_cons,e]
theorem yk {p:κ × V} {r:List (κ × V)} {k:κ} (e:¬ p.1 = k):qu (p :: r) k = qu r k:=by simp [qu,List.find?_cons,e]
theorem KC (k:κ):∀ kvs:List (κ × V),(kvs.any fun kv=>decide (kv.1 = k)) = (qu kvs k).isSome
  | []=>rfl
  | p :: r=>by
    rw [List.any_cons]
    by_cases e:p.1 = k
    . simp only [Vb e,decide_eq_true e,Bool.true_or,Option.isSome_some]
    . rw [yk e,decide_eq_false e,Bool.false_or];exact KC k r
theorem xj (kvs:List (κ × V)) (k:κ) (v:V):(jc kvs k v).length <= kvs.length + 1:=by
  unfold jc
  split
  . rw [List.length_map];omega
  . rw [List.length_append,List.length_cons,List.length_nil];omega
theorem RelO.isSome_eq {o:Option V} {u:Option Value} (r:RelO o u):o.isSome = u.isSome:=by
  cases o with
  | none=>cases u with
    | none=>rfl
    | some _=>exact (show False from r).elim
  | some _=>cases u with
    | none=>exact (show False from r).elim
    | some _=>rfl
theorem RelO.getD {o:Option V} {u:Option Value} {d:V} {d':Value} (r:RelO o u) (rd:RelV d d'):RelV (o.getD d) (u.getD d'):=by
  cases o with
  | none=>cases u with
    | none=>exact rd
    | some _=>exact (show False from r).elim
  | some _=>cases u with
    | none=>exact (show False from r).elim
    | some _=>exact r
theorem KV.val {kvs:List (κ × V)} {vs:List (κ × Value)} (r:KV kvs vs) (k:κ):RelO (qu kvs k) (valueAt vs k):=by
  unfold KV at r
  induction r with
  | nil=>exact True.intro
  | @cons p q ps qs h t ih =>
    obtain ⟨h1,h2⟩:=h
    by_cases e:p.1 = k
    . have e':q.1 = k:=h1.symm.trans e
      have b:valueAt (q :: qs) k = some q.2:=by simp [valueAt,List.find?_cons,e']
      rw [Vb e,b];exact h2
    . have e':¬ q.1 = k:=fun z=>e (h1.trans z)
      have b:valueAt (q :: qs) k = valueAt qs k:=by simp [valueAt,List.find?_cons,e']
      rw [yk e,b];exact ih
theorem KV.any {kvs:List (κ × V)} {vs:List (κ × Value)} (r:KV kvs vs) (k:κ):(kvs.any fun kv=>decide (kv.1 = k)) = vs.any fun kv=>decide (kv.1 = k):=by
  unfold KV at r
  induction r with
  | nil=>rfl
  | cons h t ih=>rw [List.any_cons,List.any_cons,ih,h.1]
theorem KV.repl {kvs:List (κ × V)} {vs:List (κ × Value)} (r:KV kvs vs) (k:κ) {y:V} {u:Value} (ry:RelV y u) :
    KV (kvs.map fun kv=>if kv.1 = k then (kv.1,y) else kv) (vs.map fun kv=>if kv.1 = k then (kv.1,u) else kv):=by
  unfold KV at r ⊢
  induction r with
  | nil=>exact .nil
  | @cons p q ps qs h t ih =>
    rw [List.map_cons,List.map_cons]
    refine .cons ?_ ih
    obtain ⟨h1,h2⟩:=h
    by_cases e:p.1 = k
    . rw [if_pos e,if_pos (h1.symm.trans e)];exact ⟨h1,ry⟩
    . rw [if_neg e,if_neg (fun z=>e (h1.trans z))];exact ⟨h1,h2⟩
theorem KV.put {kvs:List (κ × V)} {vs:List (κ × Value)} (r:KV kvs vs) (k:κ) {y:V} {u:Value} (ry:RelV y u):KV (jc kvs k y) (stored vs k u):=by
  unfold jc stored
  rw [r.any k]
  by_cases e:(vs.any fun kv=>decide (kv.1 = k)) = true
  . rw [if_pos e,if_pos e];exact r.repl k ry
  . rw [if_neg e,if_neg e];exact Paired.snoc r ⟨rfl,ry⟩
theorem KV.drop {kvs:List (κ × V)} {vs:List (κ × Value)} (r:KV kvs vs) (k:κ):KV (ut kvs k) (without vs k):=by
  unfold KV at r ⊢
  unfold ut without
  induction r with
  | nil=>exact .nil
  | @cons p q ps qs h t ih =>
    obtain ⟨h1,h2⟩:=h
    rw [List.filter_cons,List.filter_cons]
    by_cases e:p.1 = k
    . have a:¬ decide (p.1 ≠ k) = true:=by simp [e]
      have b:¬ decide (q.1 ≠ k) = true:=by simp [h1.symm.trans e]
      rw [if_neg a,if_neg b];exact ih
    . have e':¬ q.1 = k:=fun z=>e (h1.trans z)
      have a:decide (p.1 ≠ k) = true:=by simp [e]
      have b:decide (q.1 ≠ k) = true:=by simp [e']
      rw [if_pos a,if_pos b];exact .cons ⟨h1,h2⟩ ih
theorem KV.length {kvs:List (κ × V)} {vs:List (κ × Value)} (r:KV kvs vs):kvs.length = vs.length:=Paired.length r
end
theorem uk {P:Program} {w:World} {k:Key} {u:Value} (r:RelV (kV k) u):(ZT P w).is k u = true:=by
  cases k with
  | inl i=>obtain ⟨t,e⟩:=(show ∃ t,u = Value.int i t from r);subst e;exact Kq P w i t
  | inr x=>obtain ⟨t,e⟩:=(show ∃ t,u = Value.str x t from r);subst e;exact Kh P w x t
theorem Vx {P:Program} {w:World}:∀ {ks:List Key} {us:List Value},Vals (ks.map kV) us -> ItemsAre (ZT P w) ks us
  | [],_,r=>by rw [List.map_nil] at r;cases r;exact .nil
  | k :: ks,_,r=>by
    rw [List.map_cons] at r
    cases r with
    | cons h t=>exact .cons (uk h) (Vx t)
abbrev KT (H:Hp):List (List Key × V) -> List (List Key × Addr × Value) -> Prop:=Paired fun p q=>p.1 = q.1 /\ H q.2.1 = some (.tup (p.1.map kV)) /\ RelV p.2 q.2.2
theorem KT.val {H:Hp} {kvs:List (List Key × V)} {xs:List (List Key × Addr × Value)} (r:KT H kvs xs) (k:List Key):RelO (qu kvs k) ((atKey xs k).map (·.2)):=by
  induction r with
  | nil=>exact True.intro
  | @cons p q ps qs h t ih =>
    obtain ⟨h1,_,h2⟩:=h
    by_cases e:p.1 = k
    . have e':q.1 = k:=h1.symm.trans e
      have b:atKey (q :: qs) k = some q.2:=by simp [atKey,List.find?_cons,e']
      rw [Vb e,b];exact h2
    . have e':¬ q.1 = k:=fun z=>e (h1.trans z)
      have b:atKey (q :: qs) k = atKey qs k:=by simp [atKey,List.find?_cons,e']
      rw [yk e,b];exact ih
theorem KT.repl {H:Hp} {kvs:List (List Key × V)} {xs:List (List Key × Addr × Value)} (r:KT H kvs xs) (k:List Key) {y:V} {u:Value} (ry:RelV y u) :
    KT H (kvs.map fun kv=>if kv.1 = k then (kv.1,y) else kv) (xs.map (putAt k u)):=by
  induction r with
  | nil=>exact .nil
  | @cons p q ps qs h t ih =>
    rw [List.map_cons,List.map_cons]
    refine .cons ?_ ih
    obtain ⟨h1,h2,h3⟩:=h
    unfold putAt
    by_cases e:p.1 = k
    . rw [if_pos e,if_pos (h1.symm.trans e)];exact ⟨h1,h2,ry⟩
    . rw [if_neg e,if_neg (fun z=>e (h1.trans z))];exact ⟨h1,h2,h3⟩
theorem KT.put {H:Hp} {kvs:List (List Key × V)} {xs:List (List Key × Addr × Value)} (r:KT H kvs xs) (k:List Key) {b:Addr} {y:V} {u:Value} (hb:H b = some (.tup (k.map kV))) (ry:RelV y u) :
    KT H (jc kvs k y) (storedH xs k b u):=by
  have e:(kvs.any fun kv=>decide (kv.1 = k)) = (atKey xs k).isSome:=by
    rw [KC,(r.val k).isSome_eq,Option.isSome_map]
  unfold jc storedH
  rw [e]
  by_cases q:(atKey xs k).isSome = true
  . rw [if_pos q,if_pos q];exact r.repl k ry
  . rw [if_neg q,if_neg q];exact Paired.snoc r ⟨rfl,hb,ry⟩
theorem KT.keeps {H H':Hp} {kvs:List (List Key × V)} {xs:List (List Key × Addr × Value)} (r:KT H kvs xs) (ht:∀ b ys,H b = some (.tup ys) -> H' b = some (.tup ys)):KT H' kvs xs :=
  Paired.mapP r fun _ _ z=>⟨z.1,ht _ _ z.2.1,z.2.2⟩
section
variable {P:Program} {w:World} {H:Hp} {h:Heap} {a:Addr}
theorem Qc8 {u:HO} (ok:HOk P w H h) (e:Rd H a u):ObjOk P w H h a u:=e.ok ok
theorem Ga {kvs:List (Key × V)} (ok:HOk P w H h) (e:Rd H a (.dK kvs)):kvs.length <= sizeLine /\ (a == sysModules) = false /\ ∃ vs,KV kvs vs /\ h.DictOf (ZT P w) a vs :=
  show ObjOk P w H h a (.dK kvs) from Qc8 ok e
theorem Qex {kvs:List (Key × V)} (ok:HOk P w H h) (e:H a = some (.dK kvs)):kvs.length <= sizeLine /\ (a == sysModules) = false /\ ∃ vs,KV kvs vs /\ h.DictOf (ZT P w) a vs:=Ga ok (.inl e)
theorem Uk {ks:List Key} (ok:HOk P w H h) (e:H a = some (.tup (ks.map kV))):(tupleKind (ZT P w)).is h ks a:=by
  obtain ⟨_,its,r,o,h1,h2,n,h3⟩:=(show ObjOk P w H h a (.tup (ks.map kV)) from ok a _ e)
  exact ⟨o,its.toArray,n,h1,h2,h3,by simpa using Vx r⟩
theorem ul {kvs:List (List Key × V)} (ok:HOk P w H h) (e:Rd H a (.dT kvs)):kvs.length <= sizeLine /\ (a == sysModules) = false /\
    ∃ xs,KT H kvs xs /\ h.DictOfH (tupleKind (ZT P w)) a xs:=by
  obtain ⟨z,y,xs,r,o,es,ep,h1,h2,h3,h4,h5⟩:=(show ObjOk P w H h a (.dT kvs) from Qc8 ok e)
  refine ⟨z,y,xs,r,o,es,ep,h1,h2,h3,h4,fun x hx=>?_,h5⟩
  have all:∀ {l:List (List Key × V)} {m:List (List Key × Addr × Value)},KT H l m -> ∀ x ∈ m,(tupleKind (ZT P w)).is h x.1 x.2.1:=by
    intro l m q
    induction q with
    | nil=>intro x hx;exact nomatch hx
    | @cons p q ps qs hq t ih =>
      intro x hx
      rcases List.mem_cons.mp hx with e | hx
      . subst e
        exact Uk ok (by rw [<- hq.1];exact hq.2.1)
      . exact ih x hx
  exact all r x hx
theorem jd {kvs:List (List Key × V)} (ok:HOk P w H h) (e:H a = some (.dT kvs)):kvs.length <= sizeLine /\ (a == sysModules) = false /\
    ∃ xs,KT H kvs xs /\ h.DictOfH (tupleKind (ZT P w)) a xs:=ul ok (.inl e)
end
def DGet (H:Hp) (a:Addr) (y:V) (r:Option V):Prop :=
  (∃ kvs k,Rd H a (.dK kvs) /\ y = kV k /\ r = qu kvs k) ∨ ∃ kvs k b,Rd H a (.dT kvs) /\ y = .ref b /\ H b = some (.tup (k.map kV)) /\ r = qu kvs k
def DPut (H:Hp) (a:Addr) (y v:V) (H':Hp):Prop :=
  (∃ kvs k,H a = some (.dK kvs) /\ y = kV k /\ kvs.length < sizeLine /\ H' = upd H a (.dK (jc kvs k v))) ∨
  ∃ kvs k b,H a = some (.dT kvs) /\ y = .ref b /\ H b = some (.tup (k.map kV)) /\ kvs.length < sizeLine /\ H' = upd H a (.dT (jc kvs k v))
theorem DGet.k {H:Hp} {a:Addr} {kvs:List (Key × V)} {k:Key} (e:H a = some (.dK kvs)):DGet H a (kV k) (qu kvs k):=.inl ⟨kvs,k,.inl e,rfl,rfl⟩
theorem DPut.k {H:Hp} {a:Addr} {kvs:List (Key × V)} {k:Key} {v:V} (e:H a = some (.dK kvs)) (hl:kvs.length < sizeLine):DPut H a (kV k) v (upd H a (.dK (jc kvs k v))):=.inl ⟨kvs,k,e,rfl,hl,rfl⟩
section
variable {X:Cx} {pins:List (Addr × Obj)} {σ:St} {H:Hp} {s:Shared} {a:Addr} {y v:V} {u r:Value} {o:Option V} {A:Around} {E:Value -> Shared -> Prop}
theorem Inv.big (I:Inv X pins σ H s):sysModules < s.heap.objs.size:=by
  have h:mainGlobals < s.heap.objs.size:=(I.mod.glob.keeps I.bk).lt
  exact Nat.lt_trans (by decide) h
theorem gg {Q:Value -> Shared -> Prop} (hu:A.units + 1 < cLine) (I:Inv X pins σ H s) (g:DGet H a y (some v)) (ry:RelV y u) (h:∀ w' s',Inv X pins σ H s' -> RelV v w' -> Q w' s') :
    wpAny (model X.prog X.w) A (getItem (.ref a) u) Q E s:=by
  rcases g with ⟨kvs,k,e,ey,l⟩ | ⟨kvs,k,b,e,ey,eb,l⟩
  . subst ey
    obtain ⟨z,hd,vs,rel,dd⟩:=Ga I.hok e
    obtain ⟨w',hw,rw'⟩:=RelO.some_of (v:=v) (o:=valueAt vs k) (by rw [l];exact rel.val k)
    exact wpAny_getItem_of (uk ry) dd.mapOf hw (h w' _ (I.tok _) rw')
  . subst ey
    cases (show u = Value.ref b from ry)
    obtain ⟨z,hd,xs,rel,dd⟩:=ul I.hok e
    obtain ⟨w',hw,rw'⟩:=RelO.some_of (v:=v) (o:=(atKey xs k).map (·.2)) (by rw [l];exact rel.val k)
    obtain ⟨p,hp,hp2⟩:=Option.map_eq_some_iff.mp hw
    refine wpAny_getItem_heap (tupleKind_room_in1 hu) (Uk I.hok eb) dd hp ?_
    rw [hp2]
    exact h w' _ (I.tok _) rw'
theorem QcM {Q:Value -> Shared -> Prop} (hu:A.units + 1 < cLine) (I:Inv X pins σ H s) (g:DGet H a y o) (ry:RelV y u) (h:∀ s',Inv X pins σ H s' -> Q (.bool (!o.isSome)) s') :
    wpAny (model X.prog X.w) A (compareOp .NotIn u (.ref a)) Q E s:=by
  rcases g with ⟨kvs,k,e,ey,l⟩ | ⟨kvs,k,b,e,ey,eb,l⟩
  . subst ey
    obtain ⟨z,hd,vs,rel,dd⟩:=Ga I.hok e
    refine wpAny_notIn_of (uk ry) hd dd.mapOf ?_
    rw [<- (rel.val k).isSome_eq,<- l]
    exact h _ (I.tok _)
  . subst ey
    cases (show u = Value.ref b from ry)
    obtain ⟨z,hd,xs,rel,dd⟩:=ul I.hok e
    refine wpAny_notIn_heap (tupleKind_room_in1 hu) (Uk I.hok eb) hd dd ?_
    have q:=(rel.val k).isSome_eq
    rw [Option.isSome_map] at q
    rw [<- q,<- l]
    exact h _ (I.tok _)
theorem vX {h':Heap} {t':Nat} {ob:HO} (I:Inv X pins σ H s) (mu:Mut (H a)) (hs:Heap.SameBut a s.heap h') (he:∃ q,h'.get? a = some q) (new:ObjOk X.prog X.w (upd H a ob) h' a ob) :
    Inv X pins σ (upd H a ob) { s with heap:=h',toks:=t' } :=
  I.write (x:=a) (e:=a) mu (.inl rfl) (fun b q hb z=>(hs.2 b hb).trans z) he new
theorem QdE {P:Program} {w:World} {H':Hp} {h':Heap} {kvs:List (Key × V)} {vs:List (Key × Value)} (z:kvs.length <= sizeLine) (hd:(a == sysModules) = false) (rel:KV kvs vs) (dd:h'.DictOf (ZT P w) a vs) :
    ObjOk P w H' h' a (.dK kvs):=⟨z,hd,vs,rel,dd⟩
theorem gX {H':Hp} {Q:Unit -> Shared -> Prop} (hu:A.units + 1 < cLine) (I:Inv X pins σ H s) (g:DPut H a y v H') (ry:RelV y u) (rv:RelV v r) (h:∀ s',Inv X pins σ H' s' -> Q () s') :
    wpAny (model X.prog X.w) A (setItem (.ref a) u r) Q E s:=by
  rcases g with ⟨kvs,k,e,ey,l,eH⟩ | ⟨kvs,k,b,e,ey,eb,l,eH⟩
  . subst ey eH
    obtain ⟨z,hd,vs,rel,dd⟩:=Qex I.hok e
    have hz:vs.length <= sizeLine:=by rw [<- rel.length];exact z
    have hl:(jc kvs k v).length <= sizeLine:=by have:=xj kvs k v;omega
    refine wpAny_setItem_pairs (hsz:=hz) (uk ry) dd fun h' dd' hs=>h _ ?_
    have he:∃ q,h'.get? a = some q:=let ⟨q,_,_,hq,_⟩:=dd';⟨q,hq⟩
    exact vX I (by rw [e];exact True.intro) hs he (QdE hl hd (rel.put k rv) dd')
  . subst ey eH
    cases (show u = Value.ref b from ry)
    obtain ⟨z,hd,xs,rel,dd⟩:=jd I.hok e
    have hz:xs.length <= sizeLine:=by rw [<- Paired.length rel];exact z
    have hl:(jc kvs k v).length <= sizeLine:=by have:=xj kvs k v;omega
    refine wpAny_setItem_heap (hsz:=hz) (tupleKind_room_in1 hu) (Uk I.hok eb) dd fun h' dd' hs=>h _ ?_
    obtain ⟨q,es,ep,hq,h2,h3,h4,_,h5⟩:=dd'
    refine vX I (by rw [e];exact True.intro) hs ⟨q,hq⟩ ⟨hl,hd,_,(rel.put k eb rv).keeps fun c ys ec=>?_,q,es,ep,hq,h2,h3,h4,h5⟩
    rw [QE (Qe8 ec e (fun z=>nomatch z))]
    exact ec
end
section
variable {X:Cx} {pins:List (Addr × Obj)} {σ:St} {H:Hp} {s:Shared} {a:Addr} {kvs:List (Key × V)} {k:Key} {u:Value} {A:Around} {E:Value -> Shared -> Prop}
theorem Qfa {Q:Value -> Shared -> Prop} (I:Inv X pins σ H s) (e:Rd H a (.dK kvs)) (h:∀ t s',Inv X pins σ H s' -> Q (.int kvs.length t) s'):wpAny (model X.prog X.w) A (call (.builtin "len") [.ref a]) Q E s:=by
  obtain ⟨z,hd,vs,rel,dd⟩:=Ga I.hok e
  refine call_len_dict hd dd (by rw [<- rel.length];rw [sizeLine_eq] at z;omega) ?_
  rw [<- rel.length]
  exact h _ _ (I.tok _)
end
theorem KU {X:Cx} {pins:List (Addr × Obj)} {σ:St} {H:Hp} {s:Shared} {a:Addr} {y:V} {o:Option V} (I:Inv X pins σ H s) (g:DGet H a y o):s.TypeIs (.ref a) "dict" := by
  rcases g with ⟨kvs,k,e,_,_⟩ | ⟨kvs,k,b,e,_,_,_⟩
  . obtain ⟨_,_,vs,_,dd⟩:=Ga I.hok e
    exact dd.typeIs
  . obtain ⟨_,_,xs,_,dd⟩:=ul I.hok e
    exact dd.typeIs
section
variable {X:Cx} {o i e value:Expr} {pos pos' tpos:Pos} {td ty tv:TE}
end
theorem QaT {P:Program} {w:World} {H:Hp} (h:Heap) (hb:sysModules < h.objs.size):ObjOk P w H (h.push { cls:=.type "dict", data:=.dict #[] }) h.objs.size (.dK []) :=
  ⟨Nat.zero_le _,beq_eq_false_iff_ne.mpr (Ne.symm (Nat.ne_of_lt hb)),[],.nil,Heap.DictOf.new h⟩
section
variable {X:Cx} {pos:Pos}
end
section
variable {X:Cx} {pins:List (Addr × Obj)} {σ:St} {H:Hp} {s:Shared} {a:Addr} {y d:V} {u r:Value} {o:Option V} {A:Around} {E:Value -> Shared -> Prop}
end
section
variable {X:Cx} {o e f:Expr} {apos cpos:Pos} {td ty tx:TE}
end
section
variable {X:Cx} {pins:List (Addr × Obj)} {σ:St} {H:Hp} {s:Shared} {a:Addr} {kvs:List (Key × V)} {A:Around} {E:Value -> Shared -> Prop}
end
section
variable {X:Cx} {pins:List (Addr × Obj)} {σ:St} {H:Hp} {s:Shared} {a:Addr} {y:V} {u:Value} {A:Around} {E:Value -> Shared -> Prop}
end
section
variable {X:Cx}
theorem ko:CallR X (.builtin "len") (fun xs H Q=>∃ a kvs,xs = [V.ref a] /\ H a = some (.dK kvs) /\ Q (.int kvs.length) H):=by
  intro pins s σ H xs us Q I r h
  obtain ⟨a,kvs,rfl,ha,q⟩:=h
  obtain ⟨u,rfl,ru⟩:=Ki r
  cases ru
  exact Qfa I (.inl ha) fun t s' I'=>⟨.int kvs.length,H,I',⟨t,rfl⟩,q⟩
end
section
variable {κ:Type} [DecidableEq κ]
end
end L2
namespace D
open PySem PySem.Spec PyProof.Rows L2
abbrev St:=L2.St
inductive DV where
  | non | bl (b:Bool) | int (i:Int) | str (x:Str) | tup (xs:List DV) | lst (xs:List DV) | ref (i:Nat)
inductive OV where
  | lst (xs:List DV)
  | dic (kvs:List (Key × DV))
  | ins (c:Str) (fs:List (Str × DV))
abbrev Hs:=List OV
abbrev M:=StateT Hs Option
mutual
def RepV (K:PySem.W.Frag) (ρ:List Addr) (B:Addr -> Prop) (H:Hp):DV -> V -> Prop
  | .non,v=>v = .non
  | .bl b,v=>v = .bl b
  | .int i,v=>v = .int i
  | .str x,v=>v = .str x
  | .tup ds,v=>∃ a xs,v = .ref a /\ ¬ B a /\ SqT K H a xs /\ RepL K ρ B H ds xs
  | .lst ds,v=>∃ a xs,v = .ref a /\ ¬ B a /\ SqL K H a xs /\ RepL K ρ B H ds xs
  | .ref i,v=>∃ a,v = .ref a /\ ρ[i]? = some a
def RepL (K:PySem.W.Frag) (ρ:List Addr) (B:Addr -> Prop) (H:Hp):List DV -> List V -> Prop
  | [],xs=>xs = []
  | d :: ds,xs=>∃ x r,xs = x :: r /\ RepV K ρ B H d x /\ RepL K ρ B H ds r
end
def ORep (K:PySem.W.Frag) (ρ:List Addr) (B:Addr -> Prop) (H:Hp) (a:Addr):OV -> Prop
  | .lst ds=>∃ xs,H a = some (.lst xs) /\ RepL K ρ B H ds xs
  | .dic kvs=>∃ xs:List (Key × V),H a = some (.dK xs) /\ xs.map (·.1) = kvs.map (·.1) /\ RepL K ρ B H (kvs.map (·.2)) (xs.map (·.2))
  | .ins c fs=>∃ (C dx:Addr) (xs:List (Str × V)),PySem.W.nsIn K mainGlobals c = some (some (.ref C)) /\ H a = some (.ins C dx xs) /\ xs.map (·.1) = fs.map (·.1) /\ RepL K ρ B H (fs.map (·.2)) (xs.map (·.2))
structure Gr (K:PySem.W.Frag) (ρ:List Addr) (B:Addr -> Prop) (H:Hp) (ρ':List Addr) (B':Addr -> Prop) (H':Hp):Prop where
  pre:ρ <+: ρ'
  ban:∀ a,B a -> B' a
  new:∀ a,B' a -> B a ∨ (H a = none /\ K.lookup a = none)
  rnew:∀ a ∈ ρ',a ∈ ρ ∨ H a = none
  keep:∀ a o,a ∉ ρ -> H a = some o -> H' a = some o
  trk:∀ a,H' a = none -> H a = none
structure WOk (K:PySem.W.Frag) (ρ:List Addr) (B:Addr -> Prop) (hp:Hs) (H:Hp):Prop where
  len:ρ.length = hp.length
  nd:ρ.Nodup
  obj:∀ (i:Nat) (a:Addr) (o:OV),ρ[i]? = some a -> hp[i]? = some o -> ORep K ρ B H a o
  rb:∀ a ∈ ρ,B a
  bt:∀ a,B a -> H a ≠ none
  bk:∀ a,B a -> K.lookup a = none
section
variable {K:PySem.W.Frag} {ρ ρ' ρ'':List Addr} {B B' B'':Addr -> Prop} {H H' H'':Hp}
theorem Gr.refl:Gr K ρ B H ρ B H:=⟨List.prefix_rfl,fun _ h=>h,fun _ h=>.inl h,fun _ h=>.inl h,fun _ _ _ h=>h,fun _ h=>h⟩
theorem Gr.trans (a:Gr K ρ B H ρ' B' H') (b:Gr K ρ' B' H' ρ'' B'' H''):Gr K ρ B H ρ'' B'' H'' where
  pre:=a.pre.trans b.pre
  ban:=fun x h=>b.ban x (a.ban x h)
  new:=fun x h=>(b.new x h).elim (a.new x) fun z=>.inr ⟨a.trk x z.1,z.2⟩
  rnew:=fun x h=>(b.rnew x h).elim (a.rnew x) fun z=>.inr (a.trk x z)
  keep:=fun x o hn h=>b.keep x o (fun z=>(a.rnew x z).elim hn (fun z=>by rw [h] at z;cases z)) (a.keep x o hn h)
  trk:=fun x h=>a.trk x (b.trk x h)
structure Gs (K:PySem.W.Frag) (ρ:List Addr) (B:Addr -> Prop) (H:Hp) (ρ':List Addr) (B':Addr -> Prop) (H':Hp):Prop where
  pre:ρ <+: ρ'
  new:∀ a,B' a -> B a ∨ (H a = none /\ K.lookup a = none)
  keep:∀ a o,¬ B a -> H a = some o -> H' a = some o
  trk:∀ a,H' a = none -> H a = none
theorem Gr.gs (rb:∀ a ∈ ρ,B a) (g:Gr K ρ B H ρ' B' H'):Gs K ρ B H ρ' B' H':=⟨g.pre,g.new,fun a o nb h=>g.keep a o (fun z=>nb (rb a z)) h,g.trk⟩
theorem Gs.refl:Gs K ρ B H ρ B H:=⟨List.prefix_rfl,fun _ h=>.inl h,fun _ _ _ h=>h,fun _ h=>h⟩
theorem Gs.trans (a:Gs K ρ B H ρ' B' H') (b:Gs K ρ' B' H' ρ'' B'' H''):Gs K ρ B H ρ'' B'' H'' where
  pre:=a.pre.trans b.pre
  new:=fun x h=>(b.new x h).elim (a.new x) fun z=>.inr ⟨a.trk x z.1,z.2⟩
  keep:=fun x o nb h=>b.keep x o (fun z=>(a.new x z).elim nb fun q=>by rw [h] at q;cases q.1) (a.keep x o nb h)
  trk:=fun x h=>a.trk x (b.trk x h)
theorem SqT.trk {a:Addr} {xs:List V} (h:SqT K H a xs):H a ≠ none ∨ ∃ o,K.lookup a = some o:=by
  rcases h with (h | ⟨o,h⟩) | ⟨o,_,_,h,_⟩
  . exact .inl (by rw [h];simp)
  . exact .inl (by rw [h];simp)
  . exact .inr ⟨o,h⟩
theorem SqL.trk {a:Addr} {xs:List V} (h:SqL K H a xs):H a ≠ none ∨ ∃ o,K.lookup a = some o:=by
  rcases h with (h | ⟨o,h⟩) | ⟨o,_,_,h,_⟩
  . exact .inl (by rw [h];simp)
  . exact .inl (by rw [h];simp)
  . exact .inr ⟨o,h⟩
theorem Gs.ok {a:Addr} (g:Gs K ρ B H ρ' B' H') (hb:¬ B a) (t:H a ≠ none ∨ ∃ o,K.lookup a = some o):¬ B' a:=fun z =>
  (g.new a z).elim hb fun ⟨n,k⟩=>t.elim (fun q=>q n) fun ⟨o,q⟩=>by rw [k] at q;cases q
theorem Gs.sqT {a:Addr} {xs:List V} (g:Gs K ρ B H ρ' B' H') (hr:¬ B a) (h:SqT K H a xs):SqT K H' a xs:=by
  rcases h with (h | ⟨o,h⟩) | h
  . exact .inl (.inl (g.keep _ _ hr h))
  . exact .inl (.inr ⟨o,g.keep _ _ hr h⟩)
  . exact .inr h
theorem Gs.sqL {a:Addr} {xs:List V} (g:Gs K ρ B H ρ' B' H') (hr:¬ B a) (h:SqL K H a xs):SqL K H' a xs:=by
  rcases h with (h | ⟨o,h⟩) | h
  . exact .inl (.inl (g.keep _ _ hr h))
  . exact .inl (.inr ⟨o,g.keep _ _ hr h⟩)
  . exact .inr h
theorem uH {i:Nat} {a:Addr} (p:ρ <+: ρ') (h:ρ[i]? = some a):ρ'[i]? = some a:=by
  obtain ⟨t,rfl⟩:=p
  rw [List.getElem?_append_left (List.getElem?_eq_some_iff.mp h).1];exact h
mutual
theorem RepV.gs (g:Gs K ρ B H ρ' B' H'):∀ (d:DV) (v:V),RepV K ρ B H d v -> RepV K ρ' B' H' d v
  | .non,_,h=>by unfold RepV at h ⊢;exact h
  | .bl _,_,h=>by unfold RepV at h ⊢;exact h
  | .int _,_,h=>by unfold RepV at h ⊢;exact h
  | .str _,_,h=>by unfold RepV at h ⊢;exact h
  | .ref _,_,h=>by
    unfold RepV at h ⊢
    obtain ⟨a,e,h⟩:=h
    exact ⟨a,e,uH g.pre h⟩
  | .tup ds,_,h=>by
    unfold RepV at h ⊢
    obtain ⟨a,xs,e,nb,sq,rl⟩:=h
    exact ⟨a,xs,e,g.ok nb (SqT.trk sq),g.sqT nb sq,RepL.gs g ds xs rl⟩
  | .lst ds,_,h=>by
    unfold RepV at h ⊢
    obtain ⟨a,xs,e,nb,sq,rl⟩:=h
    exact ⟨a,xs,e,g.ok nb (SqL.trk sq),g.sqL nb sq,RepL.gs g ds xs rl⟩
theorem RepL.gs (g:Gs K ρ B H ρ' B' H'):∀ (ds:List DV) (xs:List V),RepL K ρ B H ds xs -> RepL K ρ' B' H' ds xs
  | [],_,h=>by unfold RepL at h ⊢;exact h
  | d :: ds,_,h=>by
    unfold RepL at h ⊢
    obtain ⟨x,r,e,h1,h2⟩:=h
    exact ⟨x,r,e,RepV.gs g d x h1,RepL.gs g ds r h2⟩
end
theorem RepV.grow (rb:∀ a ∈ ρ,B a) (g:Gr K ρ B H ρ' B' H') (d:DV) (v:V) (h:RepV K ρ B H d v):RepV K ρ' B' H' d v:=RepV.gs (g.gs rb) d v h
theorem RepL.grow (rb:∀ a ∈ ρ,B a) (g:Gr K ρ B H ρ' B' H') (ds:List DV) (xs:List V) (h:RepL K ρ B H ds xs):RepL K ρ' B' H' ds xs:=RepL.gs (g.gs rb) ds xs h
theorem RepL.length:∀ {ds:List DV} {xs:List V},RepL K ρ B H ds xs -> ds.length = xs.length
  | [],_,h=>by unfold RepL at h;subst h;rfl
  | d :: ds,_,h=>by
    unfold RepL at h
    obtain ⟨x,r,rfl,_,h2⟩:=h
    simp [RepL.length h2]
theorem RepL.get:∀ {ds:List DV} {xs:List V} {i:Nat} {d:DV},RepL K ρ B H ds xs -> ds[i]? = some d -> ∃ x,xs[i]? = some x /\ RepV K ρ B H d x
  | [],_,_,_,_,e=>by simp at e
  | d :: ds,_,0,_,h,e=>by
    unfold RepL at h
    obtain ⟨x,r,rfl,h1,_⟩:=h
    simp at e;subst e
    exact ⟨x,rfl,h1⟩
  | d :: ds,_,i + 1,_,h,e=>by
    unfold RepL at h
    obtain ⟨x,r,rfl,_,h2⟩:=h
    obtain ⟨y,h3,h4⟩:=RepL.get h2 (by simpa using e)
    exact ⟨y,by simpa using h3,h4⟩
theorem RepL.nil:RepL K ρ B H [] []:=by unfold RepL;rfl
theorem RepL.cons {d:DV} {x:V} {ds:List DV} {xs:List V} (h:RepV K ρ B H d x) (t:RepL K ρ B H ds xs):RepL K ρ B H (d :: ds) (x :: xs):=by
  unfold RepL;exact ⟨x,xs,rfl,h,t⟩
theorem RepL.append:∀ {ds es:List DV} {xs ys:List V},RepL K ρ B H ds xs -> RepL K ρ B H es ys -> RepL K ρ B H (ds ++ es) (xs ++ ys)
  | [],_,_,_,h,t=>by unfold RepL at h;subst h;exact t
  | d :: ds,_,_,_,h,t=>by
    unfold RepL at h
    obtain ⟨x,r,rfl,h1,h2⟩:=h
    exact RepL.cons h1 (RepL.append h2 t)
theorem RepL.one {d:DV} {x:V} (h:RepV K ρ B H d x):RepL K ρ B H [d] [x]:=RepL.cons h RepL.nil
theorem RepL.take:∀ (n:Nat) {ds:List DV} {xs:List V},RepL K ρ B H ds xs -> RepL K ρ B H (ds.take n) (xs.take n)
  | 0,_,_,_=>by simp;exact RepL.nil
  | _ + 1,[],_,h=>by unfold RepL at h;subst h;simp;exact RepL.nil
  | n + 1,d :: ds,_,h=>by
    unfold RepL at h
    obtain ⟨x,r,rfl,h1,h2⟩:=h
    exact RepL.cons h1 (RepL.take n h2)
theorem RepL.drop:∀ (n:Nat) {ds:List DV} {xs:List V},RepL K ρ B H ds xs -> RepL K ρ B H (ds.drop n) (xs.drop n)
  | 0,_,_,h=>h
  | _ + 1,[],_,h=>by unfold RepL at h;subst h;simp;exact RepL.nil
  | n + 1,d :: ds,_,h=>by
    unfold RepL at h
    obtain ⟨x,r,rfl,h1,h2⟩:=h
    exact RepL.drop n h2
theorem RepL.reverse:∀ {ds:List DV} {xs:List V},RepL K ρ B H ds xs -> RepL K ρ B H ds.reverse xs.reverse
  | [],_,h=>by unfold RepL at h;subst h;exact RepL.nil
  | d :: ds,_,h=>by
    unfold RepL at h
    obtain ⟨x,r,rfl,h1,h2⟩:=h
    rw [List.reverse_cons,List.reverse_cons]
    exact RepL.append (RepL.reverse h2) (RepL.one h1)
theorem Gr.laid {p:Addr} {o:HO} (h:H p = none):Gr K ρ B H ρ B (upd H p o) where
  pre:=List.prefix_rfl
  ban:=fun _ h=>h
  new:=fun _ h=>.inl h
  rnew:=fun _ h=>.inl h
  keep:=fun a u _ q=>by rw [QE (Zc q h)];exact q
  trk:=fun a q=>by
    by_cases e:a = p
    . subst e;rw [QR] at q;cases q
    . rw [QE e] at q;exact q
theorem ORep.gs {a:Addr} {o:OV} (g:Gs K ρ B H ρ' B' H') (hk:H' a = H a) (h:ORep K ρ B H a o):ORep K ρ' B' H' a o:=by
  cases o with
  | lst ds =>
    obtain ⟨xs,e,rl⟩:=h
    exact ⟨xs,hk.trans e,RepL.gs g _ _ rl⟩
  | dic kvs =>
    obtain ⟨xs,e,ek,rl⟩:=h
    exact ⟨xs,hk.trans e,ek,RepL.gs g _ _ rl⟩
  | ins c fs =>
    obtain ⟨C,dx,xs,nc,e,ek,rl⟩:=h
    exact ⟨C,dx,xs,nc,hk.trans e,ek,RepL.gs g _ _ rl⟩
theorem WOk.laid {hp:Hs} {p:Addr} {o:HO} (W:WOk K ρ B hp H) (h:H p = none):WOk K ρ B hp (upd H p o) where
  len:=W.len
  nd:=W.nd
  obj:=fun i a u e q=>ORep.gs ((Gr.laid h).gs W.rb) (by
    have hb:=W.bt a (W.rb a (List.mem_of_getElem? e))
    exact QE (fun z=>hb (z ▸ h))) (W.obj i a u e q)
  rb:=W.rb
  bt:=fun a z q=>W.bt a z ((Gr.laid (K:=K) (ρ:=ρ) (B:=B) h).trk a q)
  bk:=W.bk
end
inductive Sl where
  | un | val (d:DV) | acc (ds:List DV)
abbrev En:=List Sl
structure Ent where
  ρ:List Addr
  B:Addr -> Prop
  H:Hp
structure SOk (K:PySem.W.Frag) (Z:Ent) (env:En) (σ:St) (ρ:List Addr) (B:Addr -> Prop) (hp:Hs) (H:Hp):Prop where
  gr:Gr K Z.ρ Z.B Z.H ρ B H
  zb:∀ a,Z.B a -> Z.H a ≠ none
  wo:WOk K ρ B hp H
  slot:∀ (i:Nat) (d:DV),env[i]? = some (.val d) -> ∃ v,σ[i]? = some (some v) /\ RepV K ρ B H d v
  accs:∀ (i:Nat) (ds:List DV),env[i]? = some (.acc ds) -> ∃ a xs,σ[i]? = some (some (.ref a)) /\ H a = some (.lst xs) /\ Z.H a = none /\ B a /\ a ∉ ρ /\ RepL K ρ B H ds xs
  adis:∀ (i j:Nat) (ds es:List DV) (a:Addr),env[i]? = some (.acc ds) -> env[j]? = some (.acc es) -> σ[i]? = some (some (.ref a)) -> σ[j]? = some (some (.ref a)) -> i = j
  len:σ.length = env.length
theorem SOk.grow {K:PySem.W.Frag} {Z:Ent} {env:En} {σ:St} {ρ ρ':List Addr} {B B':Addr -> Prop} {hp hp':Hs} {H H':Hp} (S:SOk K Z env σ ρ B hp H) (g:Gr K ρ B H ρ' B' H') (W:WOk K ρ' B' hp' H'):SOk K Z env σ ρ' B' hp' H' where
  gr:=S.gr.trans g
  zb:=S.zb
  wo:=W
  slot:=fun i d e=>let ⟨v,h1,h2⟩:=S.slot i d e;⟨v,h1,RepV.grow S.wo.rb g d v h2⟩
  accs:=fun i ds e=>by
    obtain ⟨a,xs,h1,h2,h3,h4,h5,h6⟩:=S.accs i ds e
    refine ⟨a,xs,h1,g.keep a _ h5 h2,h3,g.ban a h4,fun z=>?_,RepL.grow S.wo.rb g ds xs h6⟩
    rcases g.rnew a z with q | q
    . exact h5 q
    . rw [h2] at q;cases q
  adis:=S.adis
  len:=S.len
abbrev DEx:=En -> M DV
abbrev DTx:=En -> M Bool
abbrev DAx:=En -> M (List DV)
inductive Fl where
  | nx | rt (d:DV) | bk | ct
abbrev DSx:=En -> M (Fl × En)
def Fol (K:PySem.W.Frag) (ρ:List Addr) (B:Addr -> Prop) (H:Hp) (d:DV) (hp':Hs) (Q:VK):Prop :=
  ∀ v ρ' B' H',Gr K ρ B H ρ' B' H' -> WOk K ρ' B' hp' H' -> RepV K ρ' B' H' d v -> Q v H'
def Qe0 (K:PySem.W.Frag) (ρ:List Addr) (B:Addr -> Prop) (H:Hp) (hp':Hs) (Q:Hp -> Prop):Prop :=
  ∀ ρ' B' H',Gr K ρ B H ρ' B' H' -> WOk K ρ' B' hp' H' -> Q H'
def QfH (K:PySem.W.Frag) (ρ:List Addr) (B:Addr -> Prop) (H:Hp) (ds:List DV) (hp':Hs) (Q:List V -> Hp -> Prop):Prop :=
  ∀ vs ρ' B' H',Gr K ρ B H ρ' B' H' -> WOk K ρ' B' hp' H' -> RepL K ρ' B' H' ds vs -> Q vs H'
def tD (K:PySem.W.Frag) (f:DEx):TE:=fun σ H Q=>∃ Z env ρ B hp d hp',SOk K Z env σ ρ B hp H /\ f env hp = some (d,hp') /\ Fol K ρ B H d hp' Q
def tDT (K:PySem.W.Frag) (f:DTx):TT:=fun σ H Q=>∃ Z env ρ B hp d hp',SOk K Z env σ ρ B hp H /\ f env hp = some (d,hp') /\ Qe0 K ρ B H hp' (Q d)
def tDA (K:PySem.W.Frag) (f:DAx):TA:=fun σ H Q=>∃ Z env ρ B hp ds hp',SOk K Z env σ ρ B hp H /\ f env hp = some (ds,hp') /\ QfH K ρ B H ds hp' Q
def DE (X:Cx) (e:Expr) (f:DEx):Prop:=PE X e (tD X.K f)
def DT (X:Cx) (e:Expr) (f:DTx):Prop:=PT X e (tDT X.K f)
def DW (X:Cx) (e:Expr) (f:DTx):Prop:=PW X e (tDT X.K f)
def DA (X:Cx) (es:List Expr) (f:DAx):Prop:=PA X es (tDA X.K f)
def FolS (K:PySem.W.Frag) (Z:Ent) (ρ:List Addr) (B:Addr -> Prop) (H:Hp) (fl:Fl) (env':En) (hp':Hs) (D:yZ):Prop :=
  ∀ σ' ρ' B' H', Gs K ρ B H ρ' B' H' -> SOk K Z env' σ' ρ' B' hp' H' -> match fl with
    | .nx=>D.nx σ' H'
    | .bk=>D.bk σ' H'
    | .ct=>D.ct σ' H'
    | .rt d=>∀ v,RepV K ρ' B' H' d v -> D.rt v H'
def tDS (K:PySem.W.Frag) (f:DSx):TS:=fun D σ H=>∃ Z env ρ B hp fl env' hp',SOk K Z env σ ρ B hp H /\ f env hp = some ((fl,env'),hp') /\ FolS K Z ρ B H fl env' hp' D
def DS (X:Cx) (st:Stmt) (f:DSx):Prop:=PS X st (tDS X.K f)
def DSs (X:Cx) (st:List Stmt) (f:DSx):Prop:=PSs X st (tDS X.K f)
section
variable {X:Cx}
theorem _root_.L2.PE.imp {e:Expr} {t t':TE} (h:PE X e t) (i:∀ σ H Q,t' σ H Q -> t σ H Q):PE X e t':=fun pins s σ H Q I q=>h pins s σ H Q I (i σ H Q q)
theorem _root_.L2.PT.imp {e:Expr} {t t':TT} (h:PT X e t) (i:∀ σ H Q,t' σ H Q -> t σ H Q):PT X e t':=fun pins s σ H Q I q=>h pins s σ H Q I (i σ H Q q)
theorem _root_.L2.PW.imp {e:Expr} {t t':TT} (h:PW X e t) (i:∀ σ H Q,t' σ H Q -> t σ H Q):PW X e t':=fun wh pins s σ H Q I q=>h wh pins s σ H Q I (i σ H Q q)
theorem _root_.L2.PA.imp {es:List Expr} {t t':TA} (h:PA X es t) (i:∀ σ H Q,t' σ H Q -> t σ H Q):PA X es t':=fun pos pins s σ H Q I q=>h pos pins s σ H Q I (i σ H Q q)
theorem _root_.L2.PS.imp {st:Stmt} {t t':TS} (h:PS X st t) (i:∀ Dn σ H,t' Dn σ H -> t Dn σ H):PS X st t':=fun pins s σ H Dn I q=>h pins s σ H Dn I (i Dn σ H q)
theorem _root_.L2.PSs.imp {st:List Stmt} {t t':TS} (h:PSs X st t) (i:∀ Dn σ H,t' Dn σ H -> t Dn σ H):PSs X st t':=fun pins s σ H Dn I q=>h pins s σ H Dn I (i Dn σ H q)
def KN (K:PySem.W.Frag) (H:Hp):Prop:=∀ a o,H a = some o -> K.lookup a = none
theorem Inv.kfree {pins:List (Addr × Obj)} {σ:St} {H:Hp} {s:Shared} (I:Inv X pins σ H s):KN X.K H:=fun a o e=>by
  cases q:X.K.lookup a with
  | none=>rfl
  | some ob =>
    have:=(I.bs a ob (I.ok.mod.kin a ob q)).2
    rw [e] at this;cases this
theorem _root_.L2.PE.kf {e:Expr} {t:TE} (h:PE X e t):PE X e (fun σ H Q=>t σ H fun v H'=>KN X.K H' -> Q v H'):=fun pins s σ H Q I q =>
  thn (h pins s σ H _ I q) fun u s' ⟨v,H',I',r,z⟩=>⟨v,H',I',r,z (Inv.kfree I')⟩
theorem Qe {α β:Type} {f:M α} {g:α -> M β} {hp hp':Hs} {y:β} (h:(f >>= g) hp = some (y,hp')):∃ x hp1,f hp = some (x,hp1) /\ g x hp1 = some (y,hp'):=by
  change (f hp).bind (fun p=>g p.1 p.2) = some (y,hp') at h
  cases q:f hp with
  | none=>rw [q] at h;cases h
  | some p=>rw [q] at h;exact ⟨p.1,p.2,rfl,h⟩
theorem Qg {α:Type} {x y:α} {hp hp':Hs} (h:(pure x:M α) hp = some (y,hp')):x = y /\ hp = hp':=by
  change some (x,hp) = some (y,hp') at h
  cases h;exact ⟨rfl,rfl⟩
theorem tD.run {K:PySem.W.Frag} {f:DEx} {Z:Ent} {env:En} {σ:St} {ρ:List Addr} {B:Addr -> Prop} {hp hp1:Hs} {H:Hp} {d:DV} {Q:VK} (S:SOk K Z env σ ρ B hp H) (e:f env hp = some (d,hp1))
    (k:∀ v ρ' B' H',Gr K ρ B H ρ' B' H' -> SOk K Z env σ ρ' B' hp1 H' -> RepV K ρ' B' H' d v -> Q v H'):tD K f σ H Q :=
  ⟨Z,env,ρ,B,hp,d,hp1,S,e,fun v ρ' B' H' g W r=>k v ρ' B' H' g (S.grow g W) r⟩
def Qc (i:Nat):DEx:=fun env=>match env[i]? with
  | some (.val d)=>pure d
  | _=>failure
def eC (d:DV):DEx:=fun _=>pure d
theorem gi {i:Nat} {env:En} {hp hp':Hs} {d:DV} (h:Qc i env hp = some (d,hp')):env[i]? = some (.val d) /\ hp = hp':=by
  unfold Qc at h
  cases q:env[i]? with
  | none=>rw [q] at h;cases h
  | some z =>
    rw [q] at h
    cases z with
    | val x=>obtain ⟨rfl,rfl⟩:=Qg h;exact ⟨rfl,rfl⟩
    | un=>cases h
    | acc _=>cases h
theorem Qa (i:Nat) {x:Str} {pos:Pos} (hN:X.N[i]? = some x:=by rfl) (hv:Vis X.env.scope x:=by first | exact Or.inl rfl | exact Or.inr (Or.inl rfl) | exact Or.inr (Or.inr rfl)) (hd:(x == ("__debug__" : Str)) = false:=by decide)
    (hcd:(x == ("__classdict__" : Str)) = false:=by decide):DE X (.Name x pos) (Qc i) :=
  (Qba hN hv hd hcd).imp fun σ H Q ⟨Z,env,ρ,B,hp,d,hp',S,e,k⟩=>by
    obtain ⟨e1,rfl⟩:=gi e
    obtain ⟨v,h1,h2⟩:=S.slot i d e1
    exact ⟨v,h1,k v ρ B H Gr.refl S.wo h2⟩
theorem qW {e:Expr} {d:DV} {v:V} (h:PE X e (tC v)) (r:∀ K ρ B H,RepV K ρ B H d v):DE X e (eC d) :=
  h.imp fun σ H Q ⟨Z,env,ρ,B,hp,d',hp',S,e,k⟩=>by
    obtain ⟨rfl,rfl⟩:=Qg e
    exact k v ρ B H Gr.refl S.wo (r _ _ _ _)
theorem Qn {i:Int} {j pos}:DE X (.Constant (.int i) j pos) (eC (.int i)):=qW Qak fun _ _ _ _=>by unfold RepV;rfl
theorem xt {b:Bool} {j pos}:DE X (.Constant (.bool b) j pos) (eC (.bl b)):=qW QeM fun _ _ _ _=>by unfold RepV;rfl
theorem JZ {j pos}:DE X (.Constant .none j pos) (eC .non):=qW QdV fun _ _ _ _=>by unfold RepV;rfl
theorem Vc {x:Str} {j pos}:DE X (.Constant (.str x) j pos) (eC (.str x)):=qW QdZ fun _ _ _ _=>by unfold RepV;rfl
theorem Zp {x:Str} {i:Int} {t:Tok} {pos:Pos} (hg:Gl X x) (hm:X.mg x = some (.int i t)) (hd:(x == ("__debug__" : Str)) = false:=by decide):DE X (.Name x pos) (eC (.int i)) :=
  qW (gb (v:=.int i) hg hm ⟨t,rfl⟩ hd) fun _ _ _ _=>by unfold RepV;rfl
def tP2 (K:PySem.W.Frag) (g:DV -> DV -> M DV):R2:=fun x y H Q=>∃ ρ B hp dx dy d hp',WOk K ρ B hp H /\ RepV K ρ B H dx x /\ RepV K ρ B H dy y /\ g dx dy hp = some (d,hp') /\ Fol K ρ B H d hp' Q
def P2 (X:Cx) (f:Value -> Value -> Sem Value) (g:DV -> DV -> M DV):Prop:=OpR X f (tP2 X.K g)
def Qh (g:DV -> DV -> M DV) (a b:DEx):DEx:=fun env=>do let x <- a env;let y <- b env;g x y
variable {a b c:Expr} {fa fb fc:DEx} {pos:Pos}
theorem qA {K:PySem.W.Frag} {g:DV -> DV -> M DV} {σ:St} {H:Hp} {Q:VK} (h:tD K (Qh g fa fb) σ H Q):tOp (tP2 K g) (tD K fa) (tD K fb) σ H Q:=by
  obtain ⟨Z,env,ρ,B,hp,d,hp',S,e,k⟩:=h
  obtain ⟨x,hp1,e1,e2⟩:=Qe e
  obtain ⟨y,hp2,e3,e4⟩:=Qe e2
  refine tD.run S e1 fun v ρ1 B1 H1 g1 S1 r1=>tD.run S1 e3 fun u ρ2 B2 H2 g2 S2 r2=>?_
  exact ⟨ρ2,B2,hp2,x,y,d,hp',S2.wo,RepV.grow S1.wo.rb g2 _ _ r1,r2,e4,fun w ρ' B' H' g W r=>k w ρ' B' H' (g1.trans (g2.trans g)) W r⟩
theorem Qq {op:Operator} {g:DV -> DV -> M DV} (ho:P2 X (binaryOp op) g) (ha:DE X a fa) (hb:DE X b fb):DE X (.BinOp a op b pos) (Qh g fa fb) :=
  (QeW ho ha hb).imp fun _ _ _ h=>qA h
theorem Xm {op:CmpOp} {g:DV -> DV -> M DV} (ho:P2 X (compareOp op) g) (ha:DE X a fa) (hb:DE X b fb) (hm:behindInMarks op b = false):DE X (.Compare a [op] [b] pos) (Qh g fa fb) :=
  (QcQ ho ha hb hm).imp fun _ _ _ h=>qA h
def asB:DV -> M Bool
  | .bl b=>pure b
  | _=>failure
def eB (f:DEx):DTx:=fun env=>do asB (<- f env)
theorem YD {d:DV} {c:Bool} {hp hp':Hs} (h:asB d hp = some (c,hp')):d = .bl c /\ hp = hp':=by
  cases d with
  | bl b=>obtain ⟨rfl,rfl⟩:=Qg h;exact ⟨rfl,rfl⟩
  | _=>cases h
theorem RepV.blI {K:PySem.W.Frag} {ρ:List Addr} {B:Addr -> Prop} {H:Hp} {b:Bool} {v:V} (h:RepV K ρ B H (.bl b) v):v = .bl b:=by unfold RepV at h;exact h
theorem RepV.intI {K:PySem.W.Frag} {ρ:List Addr} {B:Addr -> Prop} {H:Hp} {b:Int} {v:V} (h:RepV K ρ B H (.int b) v):v = .int b:=by unfold RepV at h;exact h
theorem RepV.strI {K:PySem.W.Frag} {ρ:List Addr} {B:Addr -> Prop} {H:Hp} {b:Str} {v:V} (h:RepV K ρ B H (.str b) v):v = .str b:=by unfold RepV at h;exact h
theorem RepV.nonI {K:PySem.W.Frag} {ρ:List Addr} {B:Addr -> Prop} {H:Hp} {v:V} (h:RepV K ρ B H .non v):v = .non:=by unfold RepV at h;exact h
theorem RepV.tupI {K:PySem.W.Frag} {ρ:List Addr} {B:Addr -> Prop} {H:Hp} {ds:List DV} {v:V} (h:RepV K ρ B H (.tup ds) v):∃ a xs,v = .ref a /\ ¬ B a /\ SqT K H a xs /\ RepL K ρ B H ds xs:=by unfold RepV at h;exact h
theorem RepV.lstI {K:PySem.W.Frag} {ρ:List Addr} {B:Addr -> Prop} {H:Hp} {ds:List DV} {v:V} (h:RepV K ρ B H (.lst ds) v):∃ a xs,v = .ref a /\ ¬ B a /\ SqL K H a xs /\ RepL K ρ B H ds xs:=by unfold RepV at h;exact h
theorem RepV.refI {K:PySem.W.Frag} {ρ:List Addr} {B:Addr -> Prop} {H:Hp} {i:Nat} {v:V} (h:RepV K ρ B H (.ref i) v):∃ a,v = .ref a /\ ρ[i]? = some a:=by unfold RepV at h;exact h
section
variable {K:PySem.W.Frag} {ρ:List Addr} {B:Addr -> Prop} {H:Hp}
theorem Xi {b:Bool}:RepV K ρ B H (.bl b) (.bl b):=by unfold RepV;rfl
theorem ZG {b:Int}:RepV K ρ B H (.int b) (.int b):=by unfold RepV;rfl
theorem jF:RepV K ρ B H .non .non:=by unfold RepV;rfl
theorem Y3 {a:Addr} {ds:List DV} {xs:List V} (h1:¬ B a) (h2:SqT K H a xs) (h3:RepL K ρ B H ds xs):RepV K ρ B H (.tup ds) (.ref a):=by unfold RepV;exact ⟨a,xs,rfl,h1,h2,h3⟩
theorem xQ {a:Addr} {ds:List DV} {xs:List V} (h1:¬ B a) (h2:SqL K H a xs) (h3:RepL K ρ B H ds xs):RepV K ρ B H (.lst ds) (.ref a):=by unfold RepV;exact ⟨a,xs,rfl,h1,h2,h3⟩
end
theorem jd {e:Expr} {f:DEx} (h:DE X e f) (he:∀ whole,isTrue e X.env whole = (do let v <- whole;standAt e.pos;holding [v] (truthy v)):=by intro _;rfl):DT X e (eB f) :=
  (Qeg h he).imp fun σ H Q ⟨Z,env,ρ,B,hp,d,hp',S,e,k⟩=>by
    obtain ⟨x,hp1,e1,e2⟩:=Qe e
    obtain ⟨rfl,rfl⟩:=YD e2
    exact tD.run S e1 fun v ρ1 B1 H1 g1 S1 r1=>⟨d,r1.blI,k ρ1 B1 H1 g1 S1.wo⟩
theorem Q8 {op:CmpOp} {g:DV -> DV -> M DV} (ho:P2 X (compareOp op) g) (ha:DE X a fa) (hb:DE X b fb) (hm:behindInMarks op b = false):DT X (.Compare a [op] [b] pos) (eB (Qh g fa fb)) :=
  (Qb6 ho ha hb hm).imp fun σ H Q ⟨Z,env,ρ,B,hp,d,hp',S,e,k⟩=>by
    obtain ⟨x,hp1,e1,e2⟩:=Qe e
    obtain ⟨rfl,rfl⟩:=YD e2
    exact qA (tD.run S e1 fun v ρ1 B1 H1 g1 S1 r1=>⟨d,r1.blI,k ρ1 B1 H1 g1 S1.wo⟩)
def Xw (f g:DTx):DTx:=fun env=>do if <- f env then g env else pure false
def eOr (f g:DTx):DTx:=fun env=>do if <- f env then pure true else g env
def XD (f:DTx):DTx:=fun env=>do let b <- f env;pure (!b)
def Yf (f g:DEx):DEx:=fun env=>do if <- asB (<- f env) then g env else pure (.bl false)
def jm (f g:DEx):DEx:=fun env=>do if <- asB (<- f env) then pure (.bl true) else g env
def jy (f:DEx):DEx:=fun env=>do let b <- asB (<- f env);pure (.bl (!b))
def eIf (c:DTx) (f g:DEx):DEx:=fun env=>do if <- c env then f env else g env
theorem tDT.run {K:PySem.W.Frag} {f:DTx} {Z:Ent} {env:En} {σ:St} {ρ:List Addr} {B:Addr -> Prop} {hp hp1:Hs} {H:Hp} {d:Bool} {Q:Bool -> Hp -> Prop} (S:SOk K Z env σ ρ B hp H) (e:f env hp = some (d,hp1))
    (k:∀ ρ' B' H',Gr K ρ B H ρ' B' H' -> SOk K Z env σ ρ' B' hp1 H' -> Q d H'):tDT K f σ H Q :=
  ⟨Z,env,ρ,B,hp,d,hp1,S,e,fun ρ' B' H' g W=>k ρ' B' H' g (S.grow g W)⟩
variable {ca cb:DTx} {rest:List Expr}
theorem UR (h:DT X a ca):DW X (.BoolOp .And [a] pos) ca:=Qcj h
theorem yh (h:DT X a ca):DW X (.BoolOp .Or [a] pos) ca:=Qeo h
theorem UU (ha:DT X a ca) (hb:DW X (.BoolOp .And (b :: rest) pos) cb):DW X (.BoolOp .And (a :: b :: rest) pos) (Xw ca cb) :=
  (Qeb ha hb).imp fun σ H Q ⟨Z,env,ρ,B,hp,d,hp',S,e,k⟩=>by
    obtain ⟨x,hp1,e1,e2⟩:=Qe e
    refine tDT.run S e1 fun ρ1 B1 H1 g1 S1=>?_
    cases x with
    | true=>exact UM (tDT.run S1 e2 fun ρ2 B2 H2 g2 S2=>k ρ2 B2 H2 (g1.trans g2) S2.wo)
    | false =>
      obtain ⟨rfl,rfl⟩:=Qg e2
      exact Ud (k ρ1 B1 H1 g1 S1.wo)
theorem xg (ha:DT X a ca) (hb:DW X (.BoolOp .Or (b :: rest) pos) cb):DW X (.BoolOp .Or (a :: b :: rest) pos) (eOr ca cb) :=
  (Qfg ha hb).imp fun σ H Q ⟨Z,env,ρ,B,hp,d,hp',S,e,k⟩=>by
    obtain ⟨x,hp1,e1,e2⟩:=Qe e
    refine tDT.run S e1 fun ρ1 B1 H1 g1 S1=>?_
    cases x with
    | false=>exact Ud (tDT.run S1 e2 fun ρ2 B2 H2 g2 S2=>k ρ2 B2 H2 (g1.trans g2) S2.wo)
    | true =>
      obtain ⟨rfl,rfl⟩:=Qg e2
      exact UM (k ρ1 B1 H1 g1 S1.wo)
theorem DW.pt {e:Expr} {f:DTx} (h:DW X e f):DT X e f:=h _
theorem YQ (h:DT X a ca):DT X (.UnaryOp .Not a pos) (XD ca) :=
  (QdG h).imp fun σ H Q ⟨Z,env,ρ,B,hp,d,hp',S,e,k⟩=>by
    obtain ⟨x,hp1,e1,e2⟩:=Qe e
    obtain ⟨rfl,rfl⟩:=Qg e2
    exact tDT.run S e1 fun ρ1 B1 H1 g1 S1=>k ρ1 B1 H1 g1 S1.wo
theorem GI {op:BoolOp} (h:DE X a fa):DE X (.BoolOp op [a] pos) fa:=Qdu h
theorem Qan (ha:DE X a fa) (hb:DE X (.BoolOp .And (b :: rest) pos) fb):DE X (.BoolOp .And (a :: b :: rest) pos) (Yf fa fb) :=
  (Qdx ha hb).imp fun σ H Q ⟨Z,env,ρ,B,hp,d,hp',S,e,k⟩=>by
    obtain ⟨x,hp1,e1,e2⟩:=Qe e
    obtain ⟨c,hp2,e3,e4⟩:=Qe e2
    obtain ⟨rfl,rfl⟩:=YD e3
    refine tD.run S e1 fun v ρ1 B1 H1 g1 S1 r1=>⟨c,r1.blI,?_⟩
    cases c with
    | true=>exact UM (tD.run S1 e4 fun v ρ2 B2 H2 g2 S2 r2=>k v ρ2 B2 H2 (g1.trans g2) S2.wo r2)
    | false =>
      obtain ⟨rfl,rfl⟩:=Qg e4
      exact Ud (k _ ρ1 B1 H1 g1 S1.wo Xi)
theorem Qdb (ha:DE X a fa) (hb:DE X (.BoolOp .Or (b :: rest) pos) fb):DE X (.BoolOp .Or (a :: b :: rest) pos) (jm fa fb) :=
  (Qe1 ha hb).imp fun σ H Q ⟨Z,env,ρ,B,hp,d,hp',S,e,k⟩=>by
    obtain ⟨x,hp1,e1,e2⟩:=Qe e
    obtain ⟨c,hp2,e3,e4⟩:=Qe e2
    obtain ⟨rfl,rfl⟩:=YD e3
    refine tD.run S e1 fun v ρ1 B1 H1 g1 S1 r1=>⟨c,r1.blI,?_⟩
    cases c with
    | false=>exact Ud (tD.run S1 e4 fun v ρ2 B2 H2 g2 S2 r2=>k v ρ2 B2 H2 (g1.trans g2) S2.wo r2)
    | true =>
      obtain ⟨rfl,rfl⟩:=Qg e4
      exact UM (k _ ρ1 B1 H1 g1 S1.wo Xi)
theorem VV (hc:DT X c ca) (ha:DE X a fa) (hb:DE X b fb):DE X (.IfExp c a b pos) (eIf ca fa fb) :=
  (Qbg hc ha hb).imp fun σ H Q ⟨Z,env,ρ,B,hp,d,hp',S,e,k⟩=>by
    obtain ⟨x,hp1,e1,e2⟩:=Qe e
    refine tDT.run S e1 fun ρ1 B1 H1 g1 S1=>?_
    cases x with
    | true=>exact UM (tD.run S1 e2 fun v ρ2 B2 H2 g2 S2 r2=>k v ρ2 B2 H2 (g1.trans g2) S2.wo r2)
    | false=>exact Ud (tD.run S1 e2 fun v ρ2 B2 H2 g2 S2 r2=>k v ρ2 B2 H2 (g1.trans g2) S2.wo r2)
def Qk:DAx:=fun _=>pure []
def Qb (f:DEx) (g:DAx):DAx:=fun env=>do let x <- f env;let xs <- g env;pure (x :: xs)
theorem tDA.run {K:PySem.W.Frag} {f:DAx} {Z:Ent} {env:En} {σ:St} {ρ:List Addr} {B:Addr -> Prop} {hp hp1:Hs} {H:Hp} {ds:List DV} {Q:List V -> Hp -> Prop} (S:SOk K Z env σ ρ B hp H) (e:f env hp = some (ds,hp1))
    (k:∀ vs ρ' B' H',Gr K ρ B H ρ' B' H' -> SOk K Z env σ ρ' B' hp1 H' -> RepL K ρ' B' H' ds vs -> Q vs H'):tDA K f σ H Q :=
  ⟨Z,env,ρ,B,hp,ds,hp1,S,e,fun vs ρ' B' H' g W r=>k vs ρ' B' H' g (S.grow g W) r⟩
theorem Qj:DA X [] Qk:=pa_nil.imp fun σ H Q ⟨Z,env,ρ,B,hp,ds,hp',S,e,k⟩=>by
  obtain ⟨rfl,rfl⟩:=Qg e
  exact k [] ρ B H Gr.refl S.wo RepL.nil
theorem Qd {e:Expr} {es:List Expr} {f:DEx} {g:DAx} (ha:DE X e f) (hr:DA X es g) (hs:starEach (e :: es) X.env = (false,eval e X.env) :: starEach es X.env:=by rfl):DA X (e :: es) (Qb f g) :=
  (zk ha hr hs).imp fun σ H Q ⟨Z,env,ρ,B,hp,ds,hp',S,e,k⟩=>by
    obtain ⟨x,hp1,e1,e2⟩:=Qe e
    obtain ⟨xs,hp2,e3,e4⟩:=Qe e2
    obtain ⟨rfl,rfl⟩:=Qg e4
    exact tD.run S e1 fun v ρ1 B1 H1 g1 S1 r1=>tDA.run S1 e3 fun vs ρ2 B2 H2 g2 S2 r2=>k _ ρ2 B2 H2 (g1.trans g2) S2.wo (RepL.cons (RepV.grow S1.wo.rb g2 _ _ r1) r2)
def lim:Nat:=100000
theorem yr:lim <= sizeLine:=by decide
def QA (c:Bool):M Unit:=if c then pure () else failure
theorem QB {c:Bool} {hp hp':Hs} {u:Unit} (h:QA c hp = some (u,hp')):c = true /\ hp = hp':=by
  cases c with
  | true=>obtain ⟨_,rfl⟩:=Qg (show (pure ():M Unit) hp = some (u,hp') from h);exact ⟨rfl,rfl⟩
  | false=>cases h
def Xs (ds:List DV):Bool:=decide (ds.length <= lim)
theorem qN {ds:List DV} (h:Xs ds = true):ds.length <= sizeLine:=Nat.le_trans (of_decide_eq_true h) yr
def JD (f:DAx):DEx:=fun env=>do let xs <- f env;QA (Xs xs);pure (.tup xs)
def ZX (f:DAx):DEx:=fun env=>do let xs <- f env;QA (Xs xs);pure (.lst xs)
theorem zc {K:PySem.W.Frag} {ρ:List Addr} {B:Addr -> Prop} {H:Hp} {hp:Hs} {ds:List DV} {xs:List V} {Q:VK} (W:WOk K ρ B hp H) (r:RepL K ρ B H ds xs) (k:Fol K ρ B H (.tup ds) hp Q):∀ p,H p = none -> Q (.ref p) (upd H p (.tup xs)):=fun p hp' =>
  k _ ρ B _ (Gr.laid hp') (W.laid hp') (Y3 (fun z=>W.bt p z hp') (SqT.of QR) (RepL.grow W.rb (Gr.laid hp') _ _ r))
theorem Xx {K:PySem.W.Frag} {ρ:List Addr} {B:Addr -> Prop} {H:Hp} {hp:Hs} {ds:List DV} {xs:List V} {Q:VK} (W:WOk K ρ B hp H) (r:RepL K ρ B H ds xs) (k:Fol K ρ B H (.lst ds) hp Q):∀ p,H p = none -> Q (.ref p) (upd H p (.lst xs)):=fun p hp' =>
  k _ ρ B _ (Gr.laid hp') (W.laid hp') (xQ (fun z=>W.bt p z hp') (SqL.of QR) (RepL.grow W.rb (Gr.laid hp') _ _ r))
theorem Fol.after {K:PySem.W.Frag} {ρ ρ1:List Addr} {B B1:Addr -> Prop} {H H1:Hp} {hp':Hs} {d:DV} {Q:VK} (g:Gr K ρ B H ρ1 B1 H1) (k:Fol K ρ B H d hp' Q):Fol K ρ1 B1 H1 d hp' Q:=fun v ρ' B' H' g' W r=>k v ρ' B' H' (g.trans g') W r
theorem J3 {es:List Expr} {f:DAx} {x1} (h:DA X es f):DE X (.Tuple es x1 pos) (JD f) :=
  (Qd7 h).imp fun σ H Q ⟨Z,env,ρ,B,hp,d,hp',S,e,k⟩=>by
    obtain ⟨xs,hp1,e1,e2⟩:=Qe e
    obtain ⟨_,hp2,e3,e4⟩:=Qe e2
    obtain ⟨hs,rfl⟩:=QB e3
    obtain ⟨rfl,rfl⟩:=Qg e4
    exact tDA.run S e1 fun vs ρ1 B1 H1 g1 S1 r1=>⟨by rw [<- r1.length];exact qN hs,zc S1.wo r1 (k.after g1)⟩
theorem XT {es:List Expr} {f:DAx} (h:DA X es f):DE X (.List es pos) (ZX f) :=
  (vn h).imp fun σ H Q ⟨Z,env,ρ,B,hp,d,hp',S,e,k⟩=>by
    obtain ⟨xs,hp1,e1,e2⟩:=Qe e
    obtain ⟨_,hp2,e3,e4⟩:=Qe e2
    obtain ⟨hs,rfl⟩:=QB e3
    obtain ⟨rfl,rfl⟩:=Qg e4
    exact tDA.run S e1 fun vs ρ1 B1 H1 g1 S1 r1=>⟨by rw [<- r1.length];exact qN hs,Xx S1.wo r1 (k.after g1)⟩
end
end D
namespace L2
open PySem PySem.Spec PyProof.Rows
def Xn (X:Cx) (scope:Scope) (cl:List (Str × Addr)) (C:Addr) (N:List Str) (s₀:Shared) (H₀:Hp) (ex:List Addr):Cx where
  prog:=X.prog
  w:=X.w
  K:=X.K
  mg:=X.mg
  base:=X.base
  A:=X.A
  N:=N
  s₀:=s₀
  H₀:=H₀
  env:=compEnvC scope cl C X.env
  outer:=X.stack
  stack:=X.stack
  ex:=ex
  fn:=fun _=>false
  calm:=X.calm
  pn:=[]
  xe:=fun _ _=>False
def AllP {α:Type} (P:α -> Prop):List α -> Prop
  | []=>True
  | x :: r=>P x /\ AllP P r
theorem AllP.mem {α:Type} {P:α -> Prop}:∀ {l:List α} {x:α},AllP P l -> x ∈ l -> P x
  | [],_,_,h=>nomatch h
  | y :: r,x,⟨h1,h2⟩,h=>(List.mem_cons.mp h).elim (fun e=>e ▸ h1) fun e=>AllP.mem h2 e
def Caps (X:Cx) (scope:Scope) (cl:List (Str × Addr)):List Str -> List Nat -> Prop
  | [],[]=>True
  | y :: ys, i :: is => X.N[i]? = some y /\ (X.env.kindOf y = some .cell ∨ X.env.kindOf y = some .free) /\ (∃ c, cl.lookup y = some c) /\
      (relabel scope X.env).names.lookup y ≠ some .local /\ Caps X scope cl ys is
  | _,_=>False
theorem Caps.get {X:Cx} {scope:Scope} {cl:List (Str × Addr)}:∀ {ys:List Str} {is:List Nat} {j:Nat} {y:Str},Caps X scope cl ys is -> ys[j]? = some y ->
    ∃ i,is[j]? = some i /\ X.N[i]? = some y /\ (X.env.kindOf y = some .cell ∨ X.env.kindOf y = some .free) /\ (∃ c,cl.lookup y = some c) /\ (relabel scope X.env).names.lookup y ≠ some .local
  | [],_,_,_,_,h=>by simp at h
  | y :: ys,[],_,_,h,_=>by simp [Caps] at h
  | y :: ys,i :: is,0,z,⟨h1,h2,h3,h4,_⟩,h=>by simp at h;subst h;exact ⟨i,rfl,h1,h2,h3,h4⟩
  | y :: ys,i :: is,j + 1,z,⟨_,_,_,_,h5⟩,h=>by
    obtain ⟨k,a,b⟩:=Caps.get h5 (by simpa using h)
    exact ⟨k,by simpa using a,b⟩
theorem Caps.length {X:Cx} {scope:Scope} {cl:List (Str × Addr)}:∀ {ys:List Str} {is:List Nat},Caps X scope cl ys is -> ys.length = is.length
  | [],[],_=>rfl
  | [],_ :: _,h=>by simp [Caps] at h
  | _ :: _,[],h=>by simp [Caps] at h
  | _ :: ys,_ :: is,⟨_,_,_,_,h⟩=>by simp [Caps.length h]
structure Gv (X:Cx) (x:Str) (scope:Scope) (cl:List (Str × Addr)) (caps:List Str) (idx:List Nat):Prop where
  clos:closureFor scope X.env = pure cl
  cell:∀ y ∈ scope.names,y.2 ≠ .cell
  kind:scope.kind = .function
  names:∀ y ∈ scope.names,y.2 = .local -> scope.names.lookup y.1 = some .local
  hx:scope.names.lookup x = some .local
  cls:AllP (fun p:Str × Addr=>X.env.cells.lookup p.1 = some p.2) cl
  has:((relabel scope X.env).names.all fun p=>!(p.2 == .cell || p.2 == .free) || (cl.lookup p.1).isSome) = true
  cps:Caps X scope cl caps idx
  nd:(x :: caps).Nodup
def cσ (idx:List Nat) (σ:St) (o:Option V):St:=o :: idx.map fun i=>(σ[i]?).join
def PTs (X:Cx) (ifs:List Expr) (t:TT):Prop :=
  ∀ (pins : List (Addr × Obj)) (s : Shared) (σ : St) (H : Hp) (Q : Bool -> Hp -> Prop), Inv X pins σ H s -> t σ H Q ->
    wpAny (model X.prog X.w) X.A (forIn ifs true fun c r=>if r = true then do let ok <- isTrue c X.env (eval c X.env);pure (ForInStep.yield ok) else pure (ForInStep.yield r)) (TP X pins σ Q) X.xe s
theorem QbI {X:Cx}:PTs X [] (fun _ H Q=>Q true H):=fun pins s σ H Q I h=>wpAny_tests_nil ⟨H,I,h⟩
theorem Qct {X:Cx} {c:Expr} {t:TT} (h:PT X c t):PTs X [c] t:=fun pins s σ H Q I q=>wpAny_tests_one (h pins s σ H Q I q)
section
variable {prog:Program} {w:World} {A:Around} {R:Result -> Shared -> Prop} {s:Shared}
theorem Ua {elt target iter:Expr} {ifs:List Expr} {scope:Scope} {pos:Pos} {it acc:Value} {env:Env} (I:Nat -> Shared -> Prop)
    (turn:∀ n s,I n s -> wpAny (model prog w) A (pyNext it) (fun r s₁=>match r with
      | none=>R (.ok .next) s₁
      | some v=>wpAny (model prog w) A (letOwnedTupleGo target it v) (fun _ s₁'=>wpAny (model prog w) A (assign target env v) (fun _ s₂ =>
          wpAny (model prog w) A (forIn ifs true fun c r=>if r = true then do let ok <- isTrue c env (eval c env);pure (ForInStep.yield ok) else pure (ForInStep.yield r)) (fun ok s₃ =>
            if ok = true then wpAny (model prog w) A (eval elt env) (fun x s₄ =>
              wpAny (model prog w) A (call (.builtin "list.append") [acc,x]) (fun _ s₅=>∃ m,m < n /\ I m s₅) (fun _ _=>False) s₄) (fun _ _=>False) s₃
            else ∃ m,m < n /\ I m s₃) (fun _ _=>False) s₂) (fun _ _=>False) s₁') (fun _ _=>False) s₁) (fun _ _=>False) s)
    (n:Nat) (h:I n s) :
    codeAny (model prog w) A (.compLoop (.ListComp elt [⟨target,iter,ifs,0⟩] scope pos) 0 it acc env) R s:=by
  refine codeAny_loop rfl I (fun n s hI=>?_) n h
  show wpAny _ A ((compTurn (.ListComp elt [⟨target,iter,ifs,0⟩] scope pos) 0 it acc env).onRaise (fun x=>do noteFrame x env;theTreesLotGoes x)) _ _ s
  refine wpAny_noted ?_
  rw [compTurn_list]
  refine wpAny_bind (wpAny_standAt (wpAny_bind (wpAny_mono (turn n s hI) (fun r s₁ h₁=>?_) fun _ _ h'=>h'.elim)))
  cases r with
  | none=>exact wpAny_pure h₁
  | some v =>
    refine wpAny_bind (wpAny_mono h₁ (fun _ s₁' h₁'=>?_) fun _ _ h'=>h'.elim)
    refine wpAny_bind (wpAny_mono h₁' (fun _ s₂ h₂=>wpAny_bind (wpAny_mono h₂ (fun ok s₃ h₃=>?_) fun _ _ h'=>h'.elim)) fun _ _ h'=>h'.elim)
    cases ok with
    | false=>exact wpAny_pure ⟨rfl,h₃⟩
    | true =>
      exact wpAny_bind (wpAny_bind (wpAny_mono h₃ (fun x s₄ h₄=>wpAny_bind (wpAny_mono h₄ (fun _ s₅ h₅=>wpAny_pure (wpAny_pure ⟨rfl,h₅⟩)) fun _ _ h'=>h'.elim)) fun _ _ h'=>h'.elim))
end
def u3 (K:PySem.W.Frag) (wi:TI) (tt:TT) (te:TE) (idx:List Nat):TE:=fun σ H Q=>wi σ H fun J H1=>∀ D,H1 D = none -> K.lookup D = none -> ∃ W:Nat -> Nat -> List V -> Hp -> Prop,(∃ m,W 0 m [] (upd H1 D (.lst []))) /\
  ∀ i m ys H, W i m ys H -> H D = some (.lst ys) /\ ((J.stop i H /\ Q (.ref D) H) ∨ (J.go i H /\ ∀ x H', J.yld i H x H' -> tt (cσ idx σ (some x)) H' fun b H2 =>
    if b = true then te (cσ idx σ (some x)) H2 fun y H3=>H3 D = some (.lst ys) /\ ys.length < sizeLine /\ ∃ m',m' < m /\ W (i + 1) m' (ys ++ [y]) (upd H3 D (.lst (ys ++ [y])))
    else ∃ m',m' < m /\ W (i + 1) m' ys H2))
section
variable {X:Cx} {elt iter:Expr} {x:Str} {px:Pos} {ifs:List Expr} {scope:Scope} {cl:List (Str × Addr)} {pos:Pos} {caps:List Str} {idx:List Nat} {wi:TI} {tt:TT} {te:TE}
theorem KY {E:Value -> Shared -> Prop} {use:Option (Value -> Sem Unit)} {QQ:Value -> Shared -> Prop} {newpos:Pos} (S:Gv X x scope cl caps idx) (hc:X.calm = true) (hi:PI X (.Name x px) iter wi)
    (ht:∀ C s₀ H₀ ex,PTs (Xn X scope cl C (x :: caps) s₀ H₀ ex) ifs tt) (he:∀ C s₀ H₀ ex,PE (Xn X scope cl C (x :: caps) s₀ H₀ ex) elt te)
    {pins:List (Addr × Obj)} {s:Shared} {σ:St} {H:Hp} {Q:VK} (I:Inv X pins σ H s) (h:u3 X.K wi tt te idx σ H Q)
    (hE:X.xe = E)
    (hend:∀ (D C:Addr) (H':Hp) (s':Shared) (m:Str -> Option Value),Inv X pins σ H' s' -> Q (.ref D) H' -> s'.heap.Ns C m -> H' C = none -> C ≠ X.env.locals -> X.s₀.heap.objs.size <= C -> (∀ x c,X.env.cells.lookup x = some c -> c ≠ C) -> (∀ p ∈ X.pn ++ pins,p.1 ≠ C) ->
      compPost (model X.prog X.w) X.A E use QQ (.ref D) C (.ok .next) s')
    (hs:∀ x,foldedSetIterable iter X.env x = pure x:=by intro _;rfl) :
    wpAny (model X.prog X.w) X.A (comprehension (.ListComp elt [⟨.Name x px,iter,ifs,0⟩] scope pos) scope X.env newpos (newList []) false (eval iter X.env) use) QQ E s:=by
  subst hE
  refine wpAny_comprehension_free (use:=use) rfl hs S.clos S.kind S.names (thn (hi pins s σ H _ I h) fun xv s1 h1=>thn h1 fun itv s2 h2=>?_)
  obtain ⟨it,fp,tn,J,H2,rfl,I2,T,st2,f2,hQ⟩:=h2
  refine wpAny_newObj_type (wpAny_newFunctionEnv S.cell (by intro y hy;simp at hy) (fun h₁ hns₁ hsb₁=>?_) S.kind)
  dsimp only at hns₁ hsb₁ ⊢
  generalize hH2:s2.heap.push { cls:=.type "list", dict:=none,data:=.seq ([]:List Value).toArray } = hp3 at hns₁ hsb₁ ⊢
  have hC:hp3.objs.size = s2.heap.objs.size + 1:=by rw [<- hH2,Heap.size_push]
  have keep3:∀ b o,s2.heap.get? b = some o -> hp3.get? b = some o:=fun b o e=>hH2 ▸ Heap.get?_push_of_some _ e
  have hDf:H2 s2.heap.objs.size = none:=I2.hok.fresh (Nat.le_refl _)
  have I3:Inv X pins σ (upd H2 s2.heap.objs.size (.lst [])) { s2 with heap:=hp3 } :=
    I2.laid (t':=s2.toks) keep3 (Nat.le_refl _) ⟨Nat.zero_le _,[],_,.nil,hH2 ▸ Heap.get?_push_size _ rfl⟩
  have hDk:X.K.lookup s2.heap.objs.size = none:=by
    cases q:X.K.lookup s2.heap.objs.size with
    | none=>rfl
    | some o=>exact absurd (Heap.lt_size (I2.kIn _ o q)) (Nat.lt_irrefl _)
  obtain ⟨W,⟨m0,w0⟩,turn⟩:=hQ _ hDf hDk
  generalize hDd:s2.heap.objs.size = D at *
  generalize hCc:hp3.objs.size = C at *
  have ltC:∀ b o,hp3.get? b = some o -> b ≠ C:=fun b o e=>by rw [<- hCc];exact Nat.ne_of_lt (Heap.lt_size e)
  have keep4:∀ b o,hp3.get? b = some o -> h₁.get? b = some o:=fun b o e=>hsb₁.extBut b o (ltC b o e) (Heap.get?_push_of_some _ e)
  have s3sz:({ s2 with heap:=hp3 }:Shared).heap.objs.size = C:=hCc
  have clE:∀ y c,cl.lookup y = some c -> X.env.cells.lookup y = some c:=fun y c e=>S.cls.mem (PySem.mem_of_lookup e)
  have fpLt:∀ b ∈ fp,∃ o,s2.heap.get? b = some o:=fun b hb=>let ⟨o,e,_⟩:=T.obj _ _ st2 b hb;⟨o,e⟩
  have fpC:∀ b ∈ fp,b ≠ C:=fun b hb=>let ⟨o,e⟩:=fpLt b hb;ltC b o (keep3 b o e)
  have fpD:∀ b ∈ fp,b ≠ D:=fun b hb=>let ⟨o,e⟩:=fpLt b hb;by rw [<- hDd];exact Nat.ne_of_lt (Heap.lt_size e)
  have fr3:∀ b ∈ fp,(upd H2 D (.lst [])) b = none:=fun b hb=>by rw [QE (fpD b hb)];exact (f2 b hb).1
  have cellLt:∀ y c,X.env.cells.lookup y = some c -> c ≠ C:=fun y c e=>let ⟨v,o,ho,_⟩:=I3.cell y c e;ltC c o ho
  have fpStk:∀ b ∈ fp,b ∉ frs X.stack:=fun b hb z=>(List.mem_cons.mp (I2.stkSub b z)).elim (f2 b hb).2.1 (f2 b hb).2.2.1
  let X':=Xn X scope cl C (x :: caps) { s2 with heap:=hp3 } (upd H2 D (.lst [])) fp
  have ok':X'.Ok:=by
    refine ⟨I3.ok.mod,by show (relabel scope X.env).kind = _;exact S.kind,I3.ok.glob,I3.ok.blt,by show hp3.objs.size <= C;rw [hCc];exact Nat.le_refl _,fun y z c h1 h2=>I3.ok.inj y z c (clE y c h1) (clE z c h2),fun y hy=>?_,
      fun y c z=>(by cases z),I3.ok.hd,I3.ok.frames,.inl rfl,fun b hb=>⟨fpC b hb,fun y c e=>(f2 b hb).2.2.2.2.1 y c (clE y c e)⟩,I3.bs,Nat.le_trans I3.ok.bsz I3.sz,
      fun b o e hb=>?_,fun b hb=>fpStk b hb,I3.stack,I3.stkFree⟩
    . have hy':(relabel scope X.env).names.lookup y = some .cell ∨ (relabel scope X.env).names.lookup y = some .free:=hy
      have q:=S.has
      rw [List.all_eq_true] at q
      have:(cl.lookup y).isSome = true:=by
        rcases hy' with z | z
        . have q:=q _ (PySem.mem_of_lookup z);simpa using q
        . have q:=q _ (PySem.mem_of_lookup z);simpa using q
      exact Option.isSome_iff_exists.mp this
    . have:=(f2 b hb).2.2.2.1
      have e3:=(I2.ok.bs b o e).1
      rcases this with z | z
      . exact I2.ok.noex b o e z
      . exact absurd (Nat.lt_of_lt_of_le (Heap.lt_size e3) z) (Nat.lt_irrefl _)
  have capsLen:=S.cps.length
  have I4:Inv X' [] (cσ idx σ none) (upd H2 D (.lst [])) { s2 with heap:=h₁,toks:=s2.toks + ([]:List (Str × Value)).length }:=by
    refine ⟨ok',rfl,I3.bare,Un.kept keep4,⟨_,hns₁,fun i y v e1 e2 e3=>?_⟩,fun y c e=>?_,?_,fun y c e=>I3.freeC y c (clE y c e),fun p hp=>absurd (show p ∈ ([]:List (Addr × Obj)) from hp) (by simp),I3.hok.kept keep4,?_⟩
    . cases i with
      | zero=>exact absurd e2 (by simp [cσ])
      | succ j =>
        obtain ⟨k,h1,h2,h3,⟨c,h4⟩,h5⟩:=S.cps.get (show caps[j]? = some y by have e1':(x :: caps)[j + 1]? = some y:=e1;simpa using e1')
        have e2':(σ[k]?).join = some v:=by simpa [cσ,h1] using e2
        have e2'':σ[k]? = some (some v):=by
          cases q:σ[k]? with
          | none=>rw [q] at e2';cases e2'
          | some z=>rw [q] at e2';exact congrArg some e2'
        obtain ⟨mL,hnL,hl⟩:=I3.loc
        have vis:Vis X.env.scope y:=by rcases h3 with z | z;exact .inr (.inl z);exact .inr (.inr z)
        obtain ⟨u,r,l⟩:=hl k y v h2 e2'' vis
        refine ⟨u,r,.inr ⟨?_,c,h4,?_⟩⟩
        . have e3':(relabel scope X.env).names.lookup y = some .local ∨ (relabel scope X.env).names.lookup y = some .cell ∨ (relabel scope X.env).names.lookup y = some .free:=e3
          rcases e3' with z | z | z
          . exact absurd z h5
          . exact .inl z
          . exact .inr z
        . rcases l with ⟨z,_⟩ | ⟨_,c',e,z⟩
          . rcases h3 with q | q <;> · rw [q] at z;cases z
          . rw [clE y c h4] at e;cases e
            obtain ⟨o,ho,hd⟩:=z
            exact ⟨o,keep4 _ _ ho,hd⟩
    . obtain ⟨v,o,ho,hd⟩:=I3.cell y c (clE y c e)
      exact ⟨v,o,keep4 _ _ ho,hd⟩
    . exact I3.hok.fresh (by show hp3.objs.size <= C;rw [hCc];exact Nat.le_refl _)
    . simp [cσ,X',Xn,capsLen]
  have st4:tn 0 h₁:=T.keep _ _ _ st2 fun b _ o e=>keep4 b o (keep3 b o e)
  have fpX:∀ {H':Hp} {pins':List (Addr × Obj)},(∀ b ∈ fp,H' b = none) -> (pins' = []) -> ∀ b ∈ fp,xB X' pins' H' b:=fun hn e b hb=>by
    subst e
    exact ⟨hn b hb,fpC b hb,fpStk b hb,.inl hb,fun y c e=>(f2 b hb).2.2.2.2.1 y c (clE y c e),fun p hp=>absurd (show p ∈ ([]:List (Addr × Obj)) from hp) (by simp)⟩
  have loop:∀ s₃:Shared,s₃ = { s2 with heap:=h₁,toks:=s2.toks + ([]:List (Str × Value)).length } ->
      codeAny (model X.prog X.w) X.A (.compLoop (.ListComp elt [⟨.Name x px,iter,ifs,0⟩] scope pos) 0 (.ref it) (.ref D) (compEnvC scope cl C X.env)) (compPost (model X.prog X.w) X.A X.xe use QQ (.ref D) C) s₃:=by
    rintro s₃ rfl
    refine Ua (fun n s'=>∃ i o H' ys,Inv X' [] (cσ idx σ o) H' s' /\ tn i s'.heap /\ (∀ b ∈ fp,H' b = none) /\ W i n ys H') ?_ m0 ⟨0,none,_,[],I4,st4,fr3,w0⟩
    rintro n s5 ⟨i,o,H5,ys,I5,st5,fr5,w5⟩
    obtain ⟨hD,tw⟩:=turn i n ys H5 w5
    rcases tw with ⟨stop,q⟩ | ⟨go,step⟩
    . refine thn (T.done X' rfl rfl rfl hc i [] s5 _ H5 _ I5 (fpX fr5 rfl) st5 stop) fun r s6 ⟨hr,I6⟩=>?_
      subst hr
      obtain ⟨m6,hn6,_⟩:=I6.loc
      have I7:Inv X pins σ H5 s6:=I3.call' (s':=s6) (ch:=fp) I6.os I6.base I6.hok I6.bare fun b hb=>⟨(f2 b hb).2.2.2.1,(f2 b hb).2.1,(f2 b hb).2.2.2.2.1,(f2 b hb).2.2.2.2.2⟩
      refine hend D C H5 s6 m6 I7 q hn6 I6.free ?_ ?_ cellLt fun p hp=>?_
      . rw [<- hCc];exact Nat.ne_of_gt I3.lt
      . rw [<- hCc];exact I3.sz
      . exact ltC p.1 p.2 (I3.pin p hp).1
    . refine thn (T.item X' rfl rfl rfl hc i [] s5 _ H5 _ I5 (fpX fr5 rfl) st5 go) fun r s6 ⟨u,hr,h6⟩=>?_
      subst hr
      refine thn h6 fun _ s7 ⟨y,H7,I7,r7,y7,st7,fr7⟩=>?_
      have I7':=I7.pinned (fpX fr7 rfl) (T.obj _ _ st7)
      refine thn (uG (X:=X') (i:=0) S.nd rfl (.inl (lookup_relabel_local S.hx)) (.inr (lookup_relabel_local S.hx)) _ s7 _ H7 y u (fun σ' H'=>σ' = cσ idx σ (some y) /\ H' = H7) I7' r7 ⟨rfl,rfl⟩) fun _ s8 ⟨σ8,H8,I8,e8,e8'⟩=>?_
      subst e8
      subst e8'
      have again:∀ {H9:Hp} {s9:Shared} {ys':List V},Inv X' ([] ++ yL fp s7.heap) (cσ idx σ (some y)) H9 s9 -> (∃ m',m' < n /\ W (i + 1) m' ys' H9) ->
          ∃ m,m < n /\ ∃ i o H' ys,Inv X' [] (cσ idx σ o) H' s9 /\ tn i s9.heap /\ (∀ b ∈ fp,H' b = none) /\ W i m ys H':=fun {H9 s9 ys'} I9 ⟨m',hm,w9⟩=>by
        refine ⟨m',hm,i + 1,some y,H9,ys',I9.unpinned,T.keep _ _ _ st7 fun b hb o e=>(I9.pin (b,o) (List.mem_append_right _ (List.mem_append_right _ (qd hb e)))).1,fun b hb=>?_,w9⟩
        obtain ⟨o,e,d⟩:=T.obj _ _ st7 b hb
        exact (I9.pin (b,o) (List.mem_append_right _ (List.mem_append_right _ (qd hb e)))).2.1
      refine thn (ht _ _ _ _ _ s8 _ H8 _ I8 (step y H8 y7)) fun ok s9 ⟨H9,I9,q9⟩=>?_
      cases ok with
      | false=>exact again I9 (by rw [if_neg Bool.false_ne_true] at q9;exact q9)
      | true =>
        rw [if_pos rfl] at q9 ⊢
        refine thn (he _ _ _ _ _ s9 _ H9 _ I9 q9) fun v s10 ⟨z,H10,I10,r10,hD10,hlen,m',hm,w10⟩=>?_
        refine thn (j6 (X:=X') _ s10 _ H10 (.ref D) [z] (.ref D) [v] (fun _ H'=>H' = upd H10 D (.lst (ys ++ [z]))) I10 rfl (.cons r10 .nil) ⟨D,ys,z,rfl,rfl,hD10,hlen,rfl⟩) fun _ s11 ⟨_,H11,I11,_,e11⟩=>?_
        subst e11
        exact again I11 ⟨m',hm,w10⟩
  exact codeAny_compStart_list (loop _ rfl) (T.self X.A 0 _ _ _ st4 (loop _ rfl))
end
end L2
namespace L2
open PySem PySem.Spec PyProof.Rows
section
variable {X:Cx} {elt iter:Expr} {x:Str} {px:Pos} {ifs:List Expr} {scope:Scope} {cl:List (Str × Addr)} {pos:Pos} {caps:List Str} {idx:List Nat} {wi:TI} {tt:TT} {te:TE}
theorem QcO (S:Gv X x scope cl caps idx) (hc:X.calm = true) (hi:PI X (.Name x px) iter wi)
    (ht:∀ C s₀ H₀ ex,PTs (Xn X scope cl C (x :: caps) s₀ H₀ ex) ifs tt) (he:∀ C s₀ H₀ ex,PE (Xn X scope cl C (x :: caps) s₀ H₀ ex) elt te)
    (hs:∀ x,foldedSetIterable iter X.env x = pure x:=by intro _;rfl):PE X (.ListComp elt [⟨.Name x px,iter,ifs,0⟩] scope pos) (u3 X.K wi tt te idx):=by
  intro pins s σ H Q I h
  rw [eval_ListComp]
  refine KY (use:=none) S hc hi ht he I h rfl (fun D C H' s' m I' q hn hC h1 h2 h3 h4=>?_) hs
  show ∃ m,s'.heap.Ns C m /\ ∀ h',Heap.SameBut C s'.heap h' -> EP X pins σ Q (.ref D) { s' with heap:=h' }
  exact ⟨m,hn,fun h' hs=>⟨.ref D,H',I'.turned (t':=s'.toks) (fun b o hb e=>hs.extBut b o hb e) hC (Ne.symm (Ne.symm h1)) (.inr h2) h3 h4,rfl,q⟩⟩
theorem QcR {i:Nat} {y:Str} {py spos:Pos} (S:Gv X x scope cl caps idx) (hc:X.calm = true) (hi:PI X (.Name x px) iter wi)
    (ht:∀ C s₀ H₀ ex,PTs (Xn X scope cl C (x :: caps) s₀ H₀ ex) ifs tt) (he:∀ C s₀ H₀ ex,PE (Xn X scope cl C (x :: caps) s₀ H₀ ex) elt te)
    (hN:X.N.Nodup) (hy:X.N[i]? = some y) (hx:Loc X.env.scope y) (hsw:swapsWith (.ListComp elt [⟨.Name x px,iter,ifs,0⟩] scope pos) (some (.Name y py)) spos.line X.env = pure true)
    (hf:X.fn y = true ∨ X.env.scope.names.lookup y = some .local:=by first | exact .inl rfl | exact .inr rfl | assumption)
    (hs:∀ x,foldedSetIterable iter X.env x = pure x:=by intro _;rfl):PS X (.Assign [.Name y py] (.ListComp elt [⟨.Name x px,iter,ifs,0⟩] scope pos) spos) (QbY (u3 X.K wi tt te idx) (vR i)):=by
  intro pins s σ H D I h
  rw [exec_Assign_Name_used _ _ _ _ hsw]
  refine wpAny_bind (wpAny_standAt (wpAny_bind ?_))
  show wpAny _ X.A (do let _ <- comprehension (.ListComp elt [⟨.Name x px,iter,ifs,0⟩] scope pos) scope X.env _ (newList []) false (eval iter X.env) (some (assign (.Name y py) X.env))) _ _ s
  refine wpAny_bind (wpAny_mono (KY (use:=some (assign (.Name y py) X.env)) (QQ:=fun _ s'=>SP X pins D .next s') S hc hi ht he I h rfl (fun Da C H' s' m I' q hn hC h1 h2 h3 h4=>?_) hs) (fun _ s' hq=>wpAny_pure (wpAny_pure hq)) fun _ _ e=>e)
  show wpAny _ X.A (assign (.Name y py) X.env (.ref Da)) (fun _ s''=>∃ m,s''.heap.Ns C m /\ ∀ h',Heap.SameBut C s''.heap h' -> SP X pins D .next { s'' with heap:=h' }) _ s'
  refine wpAny_assign_Name (VC I' hN hy hx (v:=.ref Da) rfl (fun s'' I'' ⟨a,hs,ha⟩=>?_) hf)
  refine ⟨m,hn.sameBut hs ?_,fun h' hs'=>⟨_,H',I''.turned (t':=s''.toks) (fun b o hb e=>hs'.extBut b o hb e) hC h1 (.inr h2) h3 h4,q⟩⟩
  rcases ha with rfl | ha
  . exact h1
  . exact Ne.symm (h3 _ _ ha)
end
end L2
namespace D
open PySem PySem.Spec PyProof.Rows L2
section
variable {K:PySem.W.Frag} {Z:Ent} {env:En} {σ:St} {ρ ρ':List Addr} {B B':Addr -> Prop} {hp hp':Hs} {H H':Hp}
theorem SOk.set {i:Nat} {d:DV} {v:V} (S:SOk K Z env σ ρ B hp H) (r:RepV K ρ B H d v):SOk K Z (env.set i (.val d)) (σ.set i (some v)) ρ B hp H where
  gr:=S.gr
  zb:=S.zb
  wo:=S.wo
  slot:=fun j e h=>by
    by_cases hj:j = i
    . subst hj
      have hl:j < env.length:=by have:=(List.getElem?_eq_some_iff.mp h).1;simpa using this
      rw [List.getElem?_set_self hl] at h;cases h
      exact ⟨v,List.getElem?_set_self (by rw [S.len];exact hl),r⟩
    . rw [List.getElem?_set_ne (Ne.symm hj)] at h ⊢
      exact S.slot j e h
  accs:=fun j ds h=>by
    by_cases hj:j = i
    . subst hj
      have hl:j < env.length:=by have:=(List.getElem?_eq_some_iff.mp h).1;simpa using this
      rw [List.getElem?_set_self hl] at h;cases h
    . rw [List.getElem?_set_ne (Ne.symm hj)] at h ⊢
      exact S.accs j ds h
  adis:=fun j k ds es a h1 h2 h3 h4=>by
    have nj:∀ {j:Nat} {ds:List DV},(env.set i (.val d))[j]? = some (.acc ds) -> j ≠ i:=fun {j ds} h e=>by
      subst e
      have hl:j < env.length:=by have:=(List.getElem?_eq_some_iff.mp h).1;simpa using this
      rw [List.getElem?_set_self hl] at h;cases h
    have hj:=nj h1
    have hk:=nj h2
    rw [List.getElem?_set_ne (Ne.symm hj)] at h1 h3
    rw [List.getElem?_set_ne (Ne.symm hk)] at h2 h4
    exact S.adis j k ds es a h1 h2 h3 h4
  len:=by simp [S.len]
end
section
variable {X:Cx} {e a b c:Expr} {f fa fb:DEx} {ca cb:DTx} {pos:Pos} {st:Stmt} {sts rest:List Stmt} {s s':DSx}
theorem FolS.after {K:PySem.W.Frag} {Z:Ent} {ρ ρ1:List Addr} {B B1:Addr -> Prop} {H H1:Hp} {fl:Fl} {env':En} {hp':Hs} {D:yZ} (g:Gs K ρ B H ρ1 B1 H1) (k:FolS K Z ρ B H fl env' hp' D):FolS K Z ρ1 B1 H1 fl env' hp' D :=
  fun σ' ρ' B' H' g' S=>k σ' ρ' B' H' (g.trans g') S
def ZJ:DSx:=fun env=>pure (.nx,env)
def Qy (f g:DSx):DSx:=fun env=>do
  let r <- f env
  match r.1 with
  | .nx=>g r.2
  | _=>pure r
def sIf (c:DTx) (f g:DSx):DSx:=fun env=>do if <- c env then f env else g env
def Q9 (f:DEx):DSx:=fun env=>do let d <- f env;pure (.rt d,env)
def jh:DSx:=fun env=>pure (.rt .non,env)
def Zu (f:DEx):DSx:=fun env=>do let _ <- f env;pure (.nx,env)
def QP (i:Nat) (f:DEx):DSx:=fun env=>do let d <- f env;pure (.nx,env.set i (.val d))
theorem Zj:DSs X [] ZJ:=pss_nil.imp fun D σ H ⟨Z,env,ρ,B,hp,fl,env',hp',S,e,k⟩=>by
  obtain ⟨e1,rfl⟩:=Qg e
  cases e1
  exact k σ ρ B H Gs.refl S
theorem Qbe {K:PySem.W.Frag} {D:yZ} {σ:St} {H:Hp} (h:tDS K (Qy s s') D σ H):Qfh (tDS K s) (tDS K s') D σ H:=by
  obtain ⟨Z,env,ρ,B,hp,fl,env',hp',S,e,k⟩:=h
  obtain ⟨⟨f1,env1⟩,hp1,e1,e2⟩:=Qe e
  refine ⟨Z,env,ρ,B,hp,f1,env1,hp1,S,e1,fun σ' ρ' B' H' g S'=>?_⟩
  cases f1 with
  | nx=>exact ⟨Z,env1,ρ',B',hp1,fl,env',hp',S',e2,k.after g⟩
  | rt d=>obtain ⟨z,rfl⟩:=Qg e2;cases z;exact k σ' ρ' B' H' g S'
  | bk=>obtain ⟨z,rfl⟩:=Qg e2;cases z;exact k σ' ρ' B' H' g S'
  | ct=>obtain ⟨z,rfl⟩:=Qg e2;cases z;exact k σ' ρ' B' H' g S'
theorem Qi (h1:DS X st s) (h2:DSs X rest s'):DSs X (st :: rest) (Qy s s'):=(Qbb h1 h2).imp fun _ _ _ h=>Qbe h
theorem Qp (h1:DS X st s):DSs X [st] s:=QcD h1
theorem Jk {x y:List Stmt} (hc:DT X c ca) (h1:DSs X x s) (h2:DSs X y s'):DS X (.If c x y pos) (sIf ca s s') :=
  (Qe6 hc h1 h2).imp fun D σ H ⟨Z,env,ρ,B,hp,fl,env',hp',S,e,k⟩=>by
    obtain ⟨x,hp1,e1,e2⟩:=Qe e
    refine tDT.run S e1 fun ρ1 B1 H1 g1 S1=>?_
    cases x with
    | true=>exact UM ⟨Z,env,ρ1,B1,hp1,fl,env',hp',S1,e2,k.after (g1.gs S.wo.rb)⟩
    | false=>exact Ud ⟨Z,env,ρ1,B1,hp1,fl,env',hp',S1,e2,k.after (g1.gs S.wo.rb)⟩
theorem QS (h:DE X e f):DS X (.Return (some e) pos) (Q9 f) :=
  (QdQ h).imp fun D σ H ⟨Z,env,ρ,B,hp,fl,env',hp',S,e,k⟩=>by
    obtain ⟨d,hp1,e1,e2⟩:=Qe e
    obtain ⟨z,rfl⟩:=Qg e2;cases z
    exact tD.run S e1 fun v ρ1 B1 H1 g1 S1 r1=>k σ ρ1 B1 H1 (g1.gs S.wo.rb) S1 v r1
theorem Zm (h:DE X e f) (hs:swapsWith e none pos.line X.env = pure false:=by rfl):DS X (.Expr e pos) (Zu f) :=
  (uf h hs).imp fun D σ H ⟨Z,env,ρ,B,hp,fl,env',hp',S,e,k⟩=>by
    obtain ⟨d,hp1,e1,e2⟩:=Qe e
    obtain ⟨z,rfl⟩:=Qg e2;cases z
    exact tD.run S e1 fun v ρ1 B1 H1 g1 S1 r1=>k σ ρ1 B1 H1 (g1.gs S.wo.rb) S1
theorem Gk {K:PySem.W.Frag} {D:yZ} {σ:St} {H:Hp} {i:Nat} {t:TE} (ht:∀ σ H Q,tD K f σ H Q -> t σ H Q) (h:tDS K (QP i f) D σ H):QbY t (vR i) D σ H:=by
  obtain ⟨Z,env,ρ,B,hp,fl,env',hp',S,e,k⟩:=h
  obtain ⟨d,hp1,e1,e2⟩:=Qe e
  obtain ⟨z,rfl⟩:=Qg e2;cases z
  exact ht _ _ _ (tD.run S e1 fun v ρ1 B1 H1 g1 S1 r1=>k _ ρ1 B1 H1 (g1.gs S.wo.rb) (S1.set r1))
theorem Qx (i:Nat) {x:Str} {pos':Pos} (hN:X.N.Nodup) (he:DE X e f) (hi:X.N[i]? = some x:=by rfl) (hx:Loc X.env.scope x:=by first | exact Or.inl rfl | exact Or.inr rfl) (hs:swapsWith e (some (.Name x pos')) pos.line X.env = pure false:=by rfl)
    (hf:X.fn x = true ∨ X.env.scope.names.lookup x = some .local:=by first | exact .inl rfl | exact .inr rfl | assumption):DS X (.Assign [.Name x pos'] e pos) (QP i f) :=
  (QbC hN hi hx he hs hf).imp fun _ _ _ h=>Gk (fun _ _ _ q=>q) h
abbrev DGx:=DV -> En -> M En
def tDG (K:PySem.W.Frag) (g:DGx):TG:=fun v σ H Q=>∃ Z env ρ B hp d env' hp',SOk K Z env σ ρ B hp H /\ RepV K ρ B H d v /\ g d env hp = some (env',hp') /\ ∀ σ' ρ' B' H',Gs K ρ B H ρ' B' H' -> SOk K Z env' σ' ρ' B' hp' H' -> Q σ' H'
def gN (i:Nat):DGx:=fun d env=>pure (env.set i (.val d))
theorem ZR (i:Nat) {x:Str} (hN:X.N.Nodup) (hi:X.N[i]? = some x:=by rfl) (hx:Loc X.env.scope x:=by first | exact Or.inl rfl | exact Or.inr rfl) (hf:X.fn x = true ∨ X.env.scope.names.lookup x = some .local:=by first | exact .inl rfl | exact .inr rfl | assumption):PG X (.Name x pos) (tDG X.K (gN i)):=by
  intro pins s σ H v u Q I r h
  refine uG hN hi hx hf pins s σ H v u Q I r ?_
  obtain ⟨Z,env,ρ,B,hp,d,env',hp',S,rd,e,k⟩:=h
  obtain ⟨rfl,rfl⟩:=Qg e
  exact k _ ρ B H Gs.refl (S.set rd)
def vK (K:PySem.W.Frag) (ρ:List Addr) (B:Addr -> Prop) (H:Hp) (ds:List DV) (J:It):Prop :=
  ∀ ρ1 B1 H1,Gs K ρ B H ρ1 B1 H1 -> (∀ b ∈ ρ1,B1 b) -> (∀ a,B1 a -> H1 a ≠ none) -> (∀ (i:Nat) (d:DV),ds[i]? = some d -> J.go i H1 /\ ∀ x H',J.yld i H1 x H' -> RepV K ρ1 B1 H' d x /\ (H' = H1 ∨ ∃ p o,H1 p = none /\ H' = upd H1 p o)) /\ J.stop ds.length H1
abbrev DIx:=En -> M (List DV)
def tDI (K:PySem.W.Frag) (f:DIx):TI:=fun σ H R=>∃ Z env ρ B hp ds hp',SOk K Z env σ ρ B hp H /\ f env hp = some (ds,hp') /\ ∀ J ρ' B' H',Gr K ρ B H ρ' B' H' -> WOk K ρ' B' hp' H' -> vK K ρ' B' H' ds J -> R J H'
def DI (X:Cx) (tg iter:Expr) (f:DIx):Prop:=PI X tg iter (tDI X.K f)
def kI:DV -> M (List DV)
  | .tup ds=>pure ds
  | _=>failure
def iTp (f:DEx):DIx:=fun env=>do kI (<- f env)
theorem YA {d:DV} {ds:List DV} {hp hp':Hs} (h:kI d hp = some (ds,hp')):d = .tup ds /\ hp = hp':=by
  cases d with
  | tup xs=>obtain ⟨rfl,rfl⟩:=Qg h;exact ⟨rfl,rfl⟩
  | _=>cases h
theorem SqL.uniq {K:PySem.W.Frag} {H:Hp} {a:Addr} {xs ys:List V} (kf:KN K H) (h:SqL K H a xs) (h':SqL K H a ys):xs = ys:=by
  rcases h with (h | ⟨o,h⟩) | ⟨o,its,n,h,_,_,hd,_,hv⟩
  . rcases h' with (h' | ⟨o',h'⟩) | ⟨o',_,_,h',_⟩
    . rw [h] at h';cases h';rfl
    . rw [h] at h';cases h'
    . rw [kf _ _ h] at h';cases h'
  . rcases h' with (h' | ⟨o',h'⟩) | ⟨o',_,_,h',_⟩
    . rw [h] at h';cases h'
    . rw [h] at h';cases h';rfl
    . rw [kf _ _ h] at h';cases h'
  . rcases h' with (h' | ⟨o',h'⟩) | ⟨o',its',n',h',_,_,hd',_,hv'⟩
    . rw [kf _ _ h'] at h;cases h
    . rw [kf _ _ h'] at h;cases h
    . rw [h] at h';cases h'
      rw [hd] at hd';injection hd' with e1 _
      subst e1
      exact hv.inj hv'
theorem Qb3 {K:PySem.W.Frag} {ρ:List Addr} {B:Addr -> Prop} {H:Hp} {ds:List DV} {a:Addr} {xs:List V} (nb:¬ B a) (sq:SqL K H a xs) (rl:RepL K ρ B H ds xs):vK K ρ B H ds (Itl K a):=fun ρ1 B1 H1 g _ _=>by
  have sq1:=g.sqL nb sq
  have rl1:=RepL.gs g _ _ rl
  refine ⟨fun i d e=>?_,xs,sq1,by rw [rl1.length];exact Nat.le_refl _⟩
  obtain ⟨x,hx,r⟩:=rl1.get e
  refine ⟨⟨xs,x,sq1,hx⟩,fun y H' ⟨e',q⟩=>?_⟩
  subst e'
  have:=q xs sq1
  rw [hx] at this;cases this
  exact ⟨r,.inl rfl⟩
theorem Qd6 {K:PySem.W.Frag} {ρ:List Addr} {B:Addr -> Prop} {H:Hp} {ds:List DV} {a:Addr} {xs:List V} (nb:¬ B a) (sq:SqT K H a xs) (rl:RepL K ρ B H ds xs):vK K ρ B H ds (Itt K a):=fun ρ1 B1 H1 g _ _=>by
  have sq1:=g.sqT nb sq
  have rl1:=RepL.gs g _ _ rl
  refine ⟨fun i d e=>?_,xs,sq1,by rw [rl1.length];exact Nat.le_refl _⟩
  obtain ⟨x,hx,r⟩:=rl1.get e
  refine ⟨⟨xs,x,sq1,hx⟩,fun y H' ⟨e',q⟩=>?_⟩
  subst e'
  have:=q xs sq1
  rw [hx] at this;cases this
  exact ⟨r,.inl rfl⟩
def QN (lo:Int) (n:Nat):List DV:=(List.range n).map fun (i:Nat)=>.int (lo + (i:Int))
theorem KE {K:PySem.W.Frag} {ρ:List Addr} {B:Addr -> Prop} {H:Hp} {lo:Int} {n:Nat}:vK K ρ B H (QN lo n) (Itr lo n):=fun ρ1 B1 H1 g _ _=>by
  refine ⟨fun i d e=>?_,by show n <= _;simp [QN]⟩
  have hi:i < n:=by have:=(List.getElem?_eq_some_iff.mp e).1;simpa [QN] using this
  refine ⟨hi,fun y H' ⟨e',q⟩=>?_⟩
  subst e' q
  have:d = .int (lo + i):=by simp [QN,hi] at e;exact e.symm
  subst this
  exact ⟨ZG,.inl rfl⟩
variable {tg iter:Expr}
theorem _root_.L2.PI.imp {wi wi':TI} (h:PI X tg iter wi) (i:∀ σ H R,wi' σ H R -> wi σ H R):PI X tg iter wi':=fun pins s σ H R I q=>h pins s σ H R I (i σ H R q)
theorem vd (h:DE X iter f):DI X tg iter (iTp f):=(QdB h).imp fun σ H R ⟨Z,env,ρ,B,hp,ds,hp',S,e,k⟩=>by
  obtain ⟨d,hp1,e1,e2⟩:=Qe e
  obtain ⟨rfl,rfl⟩:=YA e2
  refine tD.run S e1 fun v ρ1 B1 H1 g1 S1 r1=>?_
  obtain ⟨a,xs,rfl,nb,sq,rl⟩:=r1.tupI
  exact ⟨a,rfl,⟨xs,sq⟩,k _ ρ1 B1 H1 g1 S1.wo (Qd6 nb sq rl)⟩
def X7 (j:Int):Bool:=decide (-(2 ^ 62) <= j /\ j < 2 ^ 62)
def GR:List DV -> M (List DV)
  | [.int j]=>do QA (X7 j);pure (QN 0 j.toNat)
  | _=>failure
def vk:List DV -> M (List DV)
  | [.int i,.int j]=>do QA (X7 i && X7 j);pure (QN i (j - i).toNat)
  | _=>failure
def Vn (f:DAx):DIx:=fun env=>do GR (<- f env)
def QcJ (f:DAx):DIx:=fun env=>do vk (<- f env)
theorem gq {ds out:List DV} {hp hp':Hs} (h:GR ds hp = some (out,hp')):∃ j:Int,ds = [.int j] /\ X7 j = true /\ out = QN 0 j.toNat /\ hp = hp':=by
  unfold GR at h
  split at h
  . obtain ⟨u,hp1,e1,e2⟩:=Qe h
    obtain ⟨h1,rfl⟩:=QB e1
    obtain ⟨rfl,rfl⟩:=Qg e2
    exact ⟨_,rfl,h1,rfl,rfl⟩
  . cases h
theorem VQ {ds out:List DV} {hp hp':Hs} (h:vk ds hp = some (out,hp')):∃ i j:Int,ds = [.int i,.int j] /\ X7 i = true /\ X7 j = true /\ out = QN i (j - i).toNat /\ hp = hp':=by
  unfold vk at h
  split at h
  . obtain ⟨u,hp1,e1,e2⟩:=Qe h
    obtain ⟨h1,rfl⟩:=QB e1
    obtain ⟨rfl,rfl⟩:=Qg e2
    rw [Bool.and_eq_true] at h1
    exact ⟨_,_,rfl,h1.1,h1.2,rfl,rfl⟩
  . cases h
theorem RepL.ints1 {K:PySem.W.Frag} {ρ:List Addr} {B:Addr -> Prop} {H:Hp} {j:Int} {vs:List V} (h:RepL K ρ B H [.int j] vs):vs = [.int j]:=by
  unfold RepL at h
  obtain ⟨x,r,rfl,h1,h2⟩:=h
  unfold RepL at h2
  rw [h1.intI,h2]
theorem RepL.ints2 {K:PySem.W.Frag} {ρ:List Addr} {B:Addr -> Prop} {H:Hp} {i j:Int} {vs:List V} (h:RepL K ρ B H [.int i,.int j] vs):vs = [.int i,.int j]:=by
  unfold RepL at h
  obtain ⟨x,r,rfl,h1,h2⟩:=h
  rw [h1.intI,h2.ints1]
theorem YF {x:Expr} {p:Pos} {f:DAx} (hg:Gl X "range") (hm:X.mg "range" = none) (ha:DA X [x] f) (hs:starEach [x] X.env = [(false,eval x X.env)]:=by rfl):DI X tg (.Call (.Name "range" p) [x] [] pos) (Vn f) :=
  (gz hg hm ha hs).imp fun σ H R ⟨Z,env,ρ,B,hp,ds,hp',S,e,k⟩=>by
    obtain ⟨d,hp1,e1,e2⟩:=Qe e
    obtain ⟨j,rfl,h1,rfl,rfl⟩:=gq e2
    refine tDA.run S e1 fun vs ρ1 B1 H1 g1 S1 r1=>?_
    have h1':=of_decide_eq_true h1
    exact ⟨j,r1.ints1,h1'.1,h1'.2,k _ ρ1 B1 H1 g1 S1.wo KE⟩
theorem gZ {x y:Expr} {p:Pos} {f:DAx} (hg:Gl X "range") (hm:X.mg "range" = none) (ha:DA X [x,y] f) (hs:starEach [x,y] X.env = [(false,eval x X.env),(false,eval y X.env)]:=by rfl) (hs2:starEach [y] X.env = [(false,eval y X.env)]:=by rfl) :
    DI X tg (.Call (.Name "range" p) [x,y] [] pos) (QcJ f) :=
  (gR hg hm ha hs hs2).imp fun σ H R ⟨Z,env,ρ,B,hp,ds,hp',S,e,k⟩=>by
    obtain ⟨d,hp1,e1,e2⟩:=Qe e
    obtain ⟨i,j,rfl,h1,h2,rfl,rfl⟩:=VQ e2
    refine tDA.run S e1 fun vs ρ1 B1 H1 g1 S1 r1=>?_
    have h1':=of_decide_eq_true h1
    have h2':=of_decide_eq_true h2
    exact ⟨i,j,r1.ints2,⟨h1'.1,h1'.2,h2'.1,h2'.2⟩,k _ ρ1 B1 H1 g1 S1.wo KE⟩
def XG (b:DV -> DSx):List DV -> DSx
  | [],env=>pure (.nx,env)
  | d :: ds,env=>do
    let r <- b d env
    match r.1 with
    | .nx=>XG b ds r.2
    | .ct=>XG b ds r.2
    | .bk=>pure (.nx,r.2)
    | .rt x=>pure (.rt x,r.2)
def jP (f:DIx) (g:DGx) (body:DSx):DSx:=fun env=>do let ds <- f env;XG (fun d env=>do let env' <- g d env;body env') ds env
theorem vq {K:PySem.W.Frag} {ρ:List Addr} {B:Addr -> Prop} {H:Hp} {p:Addr} {o:HO} (rb:∀ a ∈ ρ,B a) (h:H p = none):Gs K ρ B H ρ B (upd H p o):=(Gr.laid h).gs rb
theorem qJ {body:List Stmt} {fi:DIx} {g:DGx} {sb:DSx} (hp:PassesOwn (model X.prog X.w) X.A X.env X.xe) (hc:X.calm = true) (hi:DI X tg iter fi) (hg:PG X tg (tDG X.K g)) (hb:DSs X body sb)
    (hs:∀ x,foldedSetIterable iter X.env x = pure x:=by intro _;rfl):DS X (.For tg iter body [] pos) (jP fi g sb) :=
  (QaF hp hc hi hg hb hs).imp fun D σ H ⟨Z,env,ρ,B,hp,fl,env',hp',S,e,k⟩=>by
    obtain ⟨ds,hp1,e1,e2⟩:=Qe e
    refine ⟨Z,env,ρ,B,hp,ds,hp1,S,e1,fun J ρ1 B1 H1 g1 W1 it=>?_⟩
    have k1:=k.after (g1.gs S.wo.rb)
    refine ⟨fun i m σ H=>m = ds.length - i /\ i <= ds.length /\ ∃ env ρ B hp,SOk X.K Z env σ ρ B hp H /\ Gs X.K ρ1 B1 H1 ρ B H /\ XG (fun d env=>do let env' <- g d env;sb env') (ds.drop i) env hp = some ((fl,env'),hp'),
      ⟨ds.length,rfl,Nat.zero_le _,env,ρ1,B1,hp1,S.grow g1 W1,Gs.refl,by simpa using e2⟩,?_⟩
    rintro i m σ H ⟨rfl,hi,env2,ρ2,B2,hp2,S2,g2,e3⟩
    obtain ⟨itg,its⟩:=it ρ2 B2 H g2 S2.wo.rb S2.wo.bt
    by_cases hlt:i < ds.length
    . have hd:ds[i]? = some ds[i]:=List.getElem?_eq_getElem hlt
      obtain ⟨go,yl⟩:=itg i _ hd
      rw [List.drop_eq_getElem_cons hlt] at e3
      obtain ⟨⟨f1,env4⟩,hp4,e4,e5⟩:=Qe e3
      obtain ⟨env3,hp3,e6,e7⟩:=Qe e4
      refine .inr ⟨go,fun σ' H'=>∃ env ρ B hp,SOk X.K Z env σ' ρ B hp H' /\ Gs X.K ρ1 B1 H1 ρ B H' /\ XG (fun d env=>do let env' <- g d env;sb env') (ds.drop (i + 1)) env hp = some ((fl,env'),hp'),
        fun σ' H' q=>⟨ds.length - (i + 1),by omega,rfl,hlt,q⟩,fun x H' y=>?_⟩
      obtain ⟨rx,hx⟩:=yl x H' y
      have S3:SOk X.K Z env2 σ ρ2 B2 hp2 H' /\ Gs X.K ρ2 B2 H ρ2 B2 H':=by
        rcases hx with rfl | ⟨p,o,hn,rfl⟩
        . exact ⟨S2,Gs.refl⟩
        . exact ⟨S2.grow (Gr.laid hn) (S2.wo.laid hn),vq S2.wo.rb hn⟩
      refine ⟨Z,env2,ρ2,B2,hp2,ds[i],env3,hp3,S3.1,rx,e6,fun σ5 ρ5 B5 H5 g5 S5=>⟨Z,env3,ρ5,B5,hp3,f1,env4,hp4,S5,e7,fun σ6 ρ6 B6 H6 g6 S6=>?_⟩⟩
      have G6:=g2.trans (S3.2.trans (g5.trans g6))
      cases f1 with
      | nx=>exact ⟨env4,ρ6,B6,hp4,S6,G6,e5⟩
      | ct=>exact ⟨env4,ρ6,B6,hp4,S6,G6,e5⟩
      | bk=>obtain ⟨z,rfl⟩:=Qg e5;cases z;exact k1 σ6 ρ6 B6 H6 G6 S6
      | rt d=>obtain ⟨z,rfl⟩:=Qg e5;cases z;exact k1 σ6 ρ6 B6 H6 G6 S6
    . have e:i = ds.length:=by omega
      subst e
      rw [List.drop_length] at e3
      obtain ⟨z,rfl⟩:=Qg e3;cases z
      exact .inl ⟨its,k1 σ ρ2 B2 H g2 S2⟩
def ZZ (c:DTx) (b:DSx):Nat -> DSx
  | 0,_=>failure
  | n + 1,env=>do
    if <- c env then
      let r <- b env
      match r.1 with
      | .nx=>ZZ c b n r.2
      | .ct=>ZZ c b n r.2
      | .bk=>pure (.nx,r.2)
      | .rt x=>pure (.rt x,r.2)
    else pure (.nx,env)
theorem yH (n:Nat) {body:List Stmt} {sb:DSx} (hp:PassesOwn (model X.prog X.w) X.A X.env X.xe) (hc:DT X c ca) (hb:DSs X body sb):DS X (.While c body [] pos) (ZZ ca sb n) :=
  (kL hp hc hb).imp fun D σ H ⟨Z,env,ρ,B,hp,fl,env',hp',S,e,k⟩=>by
    refine ⟨fun m σ H1=>∃ env1 ρ1 B1 hp1,SOk X.K Z env1 σ ρ1 B1 hp1 H1 /\ Gs X.K ρ B H ρ1 B1 H1 /\ ZZ ca sb m env1 hp1 = some ((fl,env'),hp'),⟨n,env,ρ,B,hp,S,Gs.refl,e⟩,?_⟩
    rintro m σ H1 ⟨env1,ρ1,B1,hp1,S1,g1,e1⟩
    cases m with
    | zero=>cases e1
    | succ m =>
      obtain ⟨x,hp2,e2,e3⟩:=Qe e1
      refine tDT.run S1 e2 fun ρ2 B2 H2 g2 S2=>?_
      have G2:=g1.trans (g2.gs S1.wo.rb)
      cases x with
      | false =>
        obtain ⟨z,rfl⟩:=Qg e3;cases z
        exact Ud (k σ ρ2 B2 H2 G2 S2)
      | true =>
        obtain ⟨⟨f1,env4⟩,hp4,e4,e5⟩:=Qe e3
        refine UM ⟨fun σ' H'=>∃ env1 ρ1 B1 hp1,SOk X.K Z env1 σ' ρ1 B1 hp1 H' /\ Gs X.K ρ B H ρ1 B1 H' /\ ZZ ca sb m env1 hp1 = some ((fl,env'),hp'),fun σ' H' q=>⟨m,Nat.lt_succ_self m,q⟩,?_⟩
        refine ⟨Z,env1,ρ2,B2,hp2,f1,env4,hp4,S2,e4,fun σ6 ρ6 B6 H6 g6 S6=>?_⟩
        have G6:=G2.trans g6
        cases f1 with
        | nx=>exact ⟨env4,ρ6,B6,hp4,S6,G6,e5⟩
        | ct=>exact ⟨env4,ρ6,B6,hp4,S6,G6,e5⟩
        | bk=>obtain ⟨z,rfl⟩:=Qg e5;cases z;exact k σ6 ρ6 B6 H6 G6 S6
        | rt d=>obtain ⟨z,rfl⟩:=Qg e5;cases z;exact k σ6 ρ6 B6 H6 G6 S6
end
end D
namespace D
open PySem PySem.Spec PyProof.Rows L2
section
variable {K:PySem.W.Frag} {Z:Ent} {env:En} {σ:St} {ρ ρ':List Addr} {B B':Addr -> Prop} {hp hp':Hs} {H H':Hp}
def zr (B:Addr -> Prop) (p:Addr):Addr -> Prop:=fun a=>B a ∨ a = p
theorem Gr.banned {p:Addr} {o:HO} (h:H p = none) (kf:K.lookup p = none):Gr K ρ B H ρ (zr B p) (upd H p o) where
  pre:=List.prefix_rfl
  ban:=fun _ h=>.inl h
  new:=fun a z=>z.elim .inl fun e=>.inr (e ▸ ⟨h,kf⟩)
  rnew:=fun _ h=>.inl h
  keep:=fun a u _ q=>by rw [QE (Zc q h)];exact q
  trk:=(Gr.laid (K:=K) (ρ:=ρ) (B:=B) h).trk
theorem WOk.banned {p:Addr} {o:HO} (W:WOk K ρ B hp H) (h:H p = none) (kf:K.lookup p = none):WOk K ρ (zr B p) hp (upd H p o) where
  len:=W.len
  nd:=W.nd
  obj:=fun i a u e q=>ORep.gs ((Gr.banned h kf).gs W.rb) (QE (fun z=>W.bt a (W.rb a (List.mem_of_getElem? e)) (z ▸ h))) (W.obj i a u e q)
  rb:=fun a h=>.inl (W.rb a h)
  bt:=fun a z q=>by
    have q':=(Gr.laid (K:=K) (ρ:=ρ) (B:=B) h).trk a q
    rcases z with z | rfl
    . exact W.bt a z q'
    . rw [QR] at q;cases q
  bk:=fun a z=>z.elim (W.bk a) fun e=>e ▸ kf
theorem SOk.newAcc {i:Nat} {p:Addr} {ds:List DV} {xs:List V} (S:SOk K Z env σ ρ B hp H) (h:H p = none) (kf:K.lookup p = none) (r:RepL K ρ B H ds xs):SOk K Z (env.set i (.acc ds)) (σ.set i (some (.ref p))) ρ (zr B p) hp (upd H p (.lst xs)):=by
  have g:Gr K ρ B H ρ (zr B p) (upd H p (.lst xs)):=Gr.banned h kf
  have W:=S.wo.banned (o:=.lst xs) h kf
  have S1:=S.grow g W
  have np:p ∉ ρ:=fun z=>S.wo.bt p (S.wo.rb p z) h
  refine ⟨S1.gr,S.zb,W,fun j e q=>?_,fun j es q=>?_,fun j k es es' a h1 h2 h3 h4=>?_,by simp [S.len]⟩
  . by_cases hj:j = i
    . subst hj
      have hl:j < env.length:=by have:=(List.getElem?_eq_some_iff.mp q).1;simpa using this
      rw [List.getElem?_set_self hl] at q;cases q
    . rw [List.getElem?_set_ne (Ne.symm hj)] at q ⊢
      exact S1.slot j e q
  . by_cases hj:j = i
    . subst hj
      have hl:j < env.length:=by have:=(List.getElem?_eq_some_iff.mp q).1;simpa using this
      rw [List.getElem?_set_self hl] at q;cases q
      exact ⟨p,xs,List.getElem?_set_self (by rw [S.len];exact hl),QR,S.gr.trk p h,.inr rfl,np,RepL.grow S.wo.rb g _ _ r⟩
    . rw [List.getElem?_set_ne (Ne.symm hj)] at q ⊢
      exact S1.accs j es q
  . have at_i:∀ {j:Nat} {es:List DV},(env.set i (.acc ds))[j]? = some (.acc es) -> j = i ∨ (j ≠ i /\ env[j]? = some (.acc es)):=fun {j es} q=>by
      by_cases hj:j = i
      . exact .inl hj
      . rw [List.getElem?_set_ne (Ne.symm hj)] at q;exact .inr ⟨hj,q⟩
    have ne_p:∀ {j:Nat} {es:List DV},j ≠ i -> env[j]? = some (.acc es) -> (σ.set i (some (.ref p)))[j]? = some (some (.ref a)) -> a ≠ p:=fun {j es} hj q z=>by
      rw [List.getElem?_set_ne (Ne.symm hj)] at z
      obtain ⟨a',xs',e1,e2,_⟩:=S.accs j es q
      rw [z] at e1;cases e1
      exact Zc e2 h
    have is_p:∀ {j:Nat} {es:List DV},j = i -> (env.set i (.acc ds))[j]? = some (.acc es) -> (σ.set i (some (.ref p)))[j]? = some (some (.ref a)) -> a = p:=fun {j es} e q z=>by
      subst e
      have hl:j < env.length:=by have:=(List.getElem?_eq_some_iff.mp q).1;simpa using this
      rw [List.getElem?_set_self (by rw [S.len];exact hl)] at z;cases z;rfl
    rcases at_i h1 with e1 | ⟨e1,q1⟩ <;> rcases at_i h2 with e2 | ⟨e2,q2⟩
    . rw [e1,e2]
    . exact absurd (is_p e1 h1 h3) (ne_p e2 q2 h4)
    . exact absurd (is_p e2 h2 h4) (ne_p e1 q1 h3)
    . rw [List.getElem?_set_ne (Ne.symm e1)] at h3
      rw [List.getElem?_set_ne (Ne.symm e2)] at h4
      exact S.adis j k es es' a q1 q2 h3 h4
theorem SOk.setAcc {i:Nat} {a:Addr} {ds ds':List DV} {xs':List V} (S:SOk K Z env σ ρ B hp H) (he:env[i]? = some (.acc ds)) (hσ:σ[i]? = some (some (.ref a))) (r:RepL K ρ B H ds' xs') :
    Gs K ρ B H ρ B (upd H a (.lst xs')) /\ SOk K Z (env.set i (.acc ds')) σ ρ B hp (upd H a (.lst xs')):=by
  obtain ⟨a',xs0,e1,e2,e3,e4,e5,_⟩:=S.accs i ds he
  rw [hσ] at e1;cases e1
  have trk:∀ b,(upd H a (.lst xs')) b = none -> H b = none:=fun b q=>by
    by_cases e:b = a
    . subst e;rw [QR] at q;cases q
    . rw [QE e] at q;exact q
  have g:Gs K ρ B H ρ B (upd H a (.lst xs')):=⟨List.prefix_rfl,fun _ h=>.inl h,fun b o nb h=>by rw [QE (show b ≠ a from fun z=>nb (by rw [z];exact e4))];exact h,trk⟩
  have hl:i < env.length:=(List.getElem?_eq_some_iff.mp he).1
  refine ⟨g,⟨⟨S.gr.pre,S.gr.ban,S.gr.new,S.gr.rnew,fun b o nb h=>?_,fun b q=>S.gr.trk b (trk b q)⟩,S.zb,⟨S.wo.len,S.wo.nd,fun j b o q1 q2=>?_,S.wo.rb,fun b z q=>S.wo.bt b z (trk b q),S.wo.bk⟩,fun j d q=>?_,fun j es q=>?_,fun j k es es' b h1 h2 h3 h4=>?_,by simp [S.len]⟩⟩
  . have hb:b ≠ a:=fun z=>by rw [z,e3] at h;cases h
    rw [QE hb];exact S.gr.keep b o nb h
  . exact ORep.gs g (QE (show b ≠ a from fun z=>e5 (by rw [<- z];exact List.mem_of_getElem? q1))) (S.wo.obj j b o q1 q2)
  . have hj:j ≠ i:=fun z=>by subst z;rw [List.getElem?_set_self hl] at q;cases q
    rw [List.getElem?_set_ne (Ne.symm hj)] at q
    obtain ⟨v,h1,h2⟩:=S.slot j d q
    exact ⟨v,h1,RepV.gs g _ _ h2⟩
  . by_cases hj:j = i
    . subst hj
      rw [List.getElem?_set_self hl] at q;cases q
      exact ⟨a,xs',hσ,QR,e3,e4,e5,RepL.gs g _ _ r⟩
    . rw [List.getElem?_set_ne (Ne.symm hj)] at q
      obtain ⟨b,ys,h1,h2,h3,h4,h5,h6⟩:=S.accs j es q
      have hb:b ≠ a:=fun z=>hj (S.adis j i es ds a q he (z ▸ h1) hσ)
      exact ⟨b,ys,h1,by rw [QE hb];exact h2,h3,h4,h5,RepL.gs g _ _ h6⟩
  . have old:∀ {j:Nat} {es:List DV},(env.set i (.acc ds'))[j]? = some (.acc es) -> ∃ es,env[j]? = some (.acc es):=fun {j es} q=>by
      by_cases hj:j = i
      . exact ⟨ds,hj ▸ he⟩
      . rw [List.getElem?_set_ne (Ne.symm hj)] at q;exact ⟨es,q⟩
    obtain ⟨_,q1⟩:=old h1
    obtain ⟨_,q2⟩:=old h2
    exact S.adis j k _ _ b q1 q2 h3 h4
theorem SOk.disown {i:Nat} {ds:List DV} (S:SOk K Z env σ ρ B hp H) (he:env[i]? = some (.acc ds)):∃ B',Gs K ρ B H ρ B' H /\ SOk K Z (env.set i (.val (.lst ds))) σ ρ B' hp H:=by
  obtain ⟨a,xs,e1,e2,e3,e4,e5,e6⟩:=S.accs i ds he
  have hl:i < env.length:=(List.getElem?_eq_some_iff.mp he).1
  have g:Gs K ρ B H ρ (fun b=>B b /\ b ≠ a) H:=⟨List.prefix_rfl,fun _ h=>.inl h.1,fun _ _ _ h=>h,fun _ h=>h⟩
  refine ⟨fun b=>B b /\ b ≠ a,g,⟨⟨S.gr.pre,fun b z=>⟨S.gr.ban b z,fun q=>S.zb b z (q ▸ e3)⟩,fun b z=>S.gr.new b z.1,S.gr.rnew,S.gr.keep,S.gr.trk⟩,S.zb,
    ⟨S.wo.len,S.wo.nd,fun j b o q1 q2=>ORep.gs g rfl (S.wo.obj j b o q1 q2),fun b z=>⟨S.wo.rb b z,fun q=>e5 (q ▸ z)⟩,fun b z=>S.wo.bt b z.1,fun b z=>S.wo.bk b z.1⟩,fun j d q=>?_,fun j es q=>?_,fun j k es es' b h1 h2 h3 h4=>?_,by simp [S.len]⟩⟩
  . by_cases hj:j = i
    . subst hj
      rw [List.getElem?_set_self hl] at q;cases q
      exact ⟨_,e1,xQ (fun z=>z.2 rfl) (SqL.of e2) (RepL.gs g _ _ e6)⟩
    . rw [List.getElem?_set_ne (Ne.symm hj)] at q
      obtain ⟨v,h1,h2⟩:=S.slot j d q
      exact ⟨v,h1,RepV.gs g _ _ h2⟩
  . have hj:j ≠ i:=fun z=>by subst z;rw [List.getElem?_set_self hl] at q;cases q
    rw [List.getElem?_set_ne (Ne.symm hj)] at q
    obtain ⟨b,ys,h1,h2,h3,h4,h5,h6⟩:=S.accs j es q
    have hb:b ≠ a:=fun z=>hj (S.adis j i es ds a q he (z ▸ h1) e1)
    exact ⟨b,ys,h1,h2,h3,⟨h4,hb⟩,h5,RepL.gs g _ _ h6⟩
  . have nj:∀ {j:Nat} {es:List DV},(env.set i (.val (.lst ds)))[j]? = some (.acc es) -> env[j]? = some (.acc es):=fun {j es} q=>by
      have hj:j ≠ i:=fun z=>by subst z;rw [List.getElem?_set_self hl] at q;cases q
      rw [List.getElem?_set_ne (Ne.symm hj)] at q;exact q
    exact S.adis j k _ _ b (nj h1) (nj h2) h3 h4
end
section
variable {X:Cx} {e a b c:Expr} {f fa fb:DEx} {ca cb:DTx} {pos:Pos} {st:Stmt} {sts rest:List Stmt} {s s':DSx}
def zn (i:Nat):DSx:=fun env=>pure (.nx,env.set i (.acc []))
theorem GW (i:Nat) {x:Str} {pos' pos'':Pos} (hN:X.N.Nodup) (hi:X.N[i]? = some x:=by rfl) (hx:Loc X.env.scope x:=by first | exact Or.inl rfl | exact Or.inr rfl) (hs:swapsWith (.List [] pos'') (some (.Name x pos')) pos.line X.env = pure false:=by rfl)
    (hf:X.fn x = true ∨ X.env.scope.names.lookup x = some .local:=by first | exact .inl rfl | exact .inr rfl | assumption):DS X (.Assign [.Name x pos'] (.List [] pos'') pos) (zn i) :=
  (QbC hN hi hx (vn pa_nil).kf hs hf).imp fun D σ H ⟨Z,env,ρ,B,hp,fl,env',hp',S,e,k⟩=>by
    obtain ⟨z,rfl⟩:=Qg e;cases z
    refine ⟨Nat.zero_le _,fun p h kf=>?_⟩
    have kp:=kf p _ QR
    exact k _ ρ _ _ ((Gr.banned h kp).gs S.wo.rb) (S.newAcc h kp RepL.nil)
def jk (i:Nat) (env:En):En:=match env[i]? with
  | some (.acc ds)=>env.set i (.val (.lst ds))
  | _=>env
def qr (i:Nat) (f:DSx):DSx:=fun env=>f (jk i env)
theorem Qat {K:PySem.W.Frag} {i:Nat} {D:yZ} {σ:St} {H:Hp} (h:tDS K (qr i s) D σ H):tDS K s D σ H:=by
  obtain ⟨Z,env,ρ,B,hp,fl,env',hp',S,e,k⟩:=h
  cases q:env[i]? with
  | none=>exact ⟨Z,env,ρ,B,hp,fl,env',hp',S,by simpa [qr,jk,q] using e,k⟩
  | some z =>
    cases z with
    | un=>exact ⟨Z,env,ρ,B,hp,fl,env',hp',S,by simpa [qr,jk,q] using e,k⟩
    | val d=>exact ⟨Z,env,ρ,B,hp,fl,env',hp',S,by simpa [qr,jk,q] using e,k⟩
    | acc ds =>
      obtain ⟨B',g,S'⟩:=S.disown q
      exact ⟨Z,_,ρ,B',hp,fl,env',hp',S',by simpa [qr,jk,q] using e,k.after g⟩
theorem vC (i:Nat) (h:DS X st s):DS X st (qr i s):=L2.PS.imp h fun _ _ _ q=>Qat q
def zq (i:Nat) (f:DEx):DSx:=fun env=>do
  let d <- f env
  match env[i]? with
  | some (.acc ds)=>if ds.length < lim then pure (.nx,env.set i (.acc (ds ++ [d]))) else failure
  | _=>failure
theorem GG (i:Nat) {x:Str} {p1 p2:Pos} (he:DE X e f) (hi:X.N[i]? = some x:=by rfl) (hv:Vis X.env.scope x:=by first | exact Or.inl rfl | exact Or.inr (Or.inl rfl) | exact Or.inr (Or.inr rfl))
    (hd:(x == ("__debug__" : Str)) = false:=by decide) (hcd:(x == ("__classdict__" : Str)) = false:=by decide)
    (hs:∀ t,PE X (.Call (.Attribute (.Name x p1) "append" p2) [e] [] pos) t -> PS X (.Expr (.Call (.Attribute (.Name x p1) "append" p2) [e] [] pos) pos) (Qdc t):=by intro _ h;exact uf h)
    (hb:∀ (t:TE) (ta:TA),PE X (.Name x p1) t -> PA X [e] ta -> PE X (.Call (.Attribute (.Name x p1) "append" p2) [e] [] pos) (tBM X.K "list" uh t ta):=by intro _ _ h1 h2;exact Qc9 PySem.F.plainAttrs_list PySem.F.slot_list_append PySem.F.type_list_append j6 h1 h2)
    (hst:starEach [e] X.env = (false,eval e X.env) :: starEach [] X.env:=by rfl):DS X (.Expr (.Call (.Attribute (.Name x p1) "append" p2) [e] [] pos) pos) (zq i f) :=
  L2.PS.imp (hs _ (hb _ _ (Qba hi hv hd hcd) (zk he pa_nil hst))) fun D σ H ⟨Z,env,ρ,B,hp,fl,env',hp',S,e,k⟩=>by
    obtain ⟨d,hp1,e1,e2⟩:=Qe e
    cases q:env[i]? with
    | none=>rw [q] at e2;cases e2
    | some z =>
      rw [q] at e2
      cases z with
      | un=>cases e2
      | val _=>cases e2
      | acc ds =>
        by_cases hl:ds.length < lim
        . have e2':(pure (Fl.nx,env.set i (.acc (ds ++ [d]))):M (Fl × En)) hp1 = some ((fl,env'),hp'):=by
            have:(if ds.length < lim then pure (Fl.nx,env.set i (.acc (ds ++ [d]))) else failure:M (Fl × En)) hp1 = some ((fl,env'),hp'):=e2
            rwa [if_pos hl] at this
          obtain ⟨z,rfl⟩:=Qg e2';cases z
          obtain ⟨a,xs,h1,h2,_⟩:=S.accs i ds q
          refine ⟨_,h1,.inl ⟨rfl,xs,SqL.of h2⟩,?_⟩
          refine tD.run S e1 fun v ρ1 B1 H1 g1 S1 r1=>?_
          obtain ⟨a',xs1,h1',h2',_,_,_,rl⟩:=S1.accs i ds q
          rw [h1] at h1';cases h1'
          obtain ⟨g2,S2⟩:=S1.setAcc q h1 (RepL.append rl (RepL.one r1))
          exact ⟨a,xs1,v,rfl,rfl,h2',by rw [<- rl.length];exact Nat.lt_of_lt_of_le hl yr,k _ ρ1 B1 _ ((g1.gs S.wo.rb).trans g2) S2⟩
        . have:(if ds.length < lim then pure (Fl.nx,env.set i (.acc (ds ++ [d]))) else failure:M (Fl × En)) hp1 = some ((fl,env'),hp'):=e2
          rw [if_neg hl] at this;cases this
def kX:Sl -> Sl
  | .val d=>.val d
  | _=>.un
def cE (idx:List Nat) (env:En) (d:DV):En:=.val d :: idx.map fun i=>kX ((env[i]?).getD .un)
def UZ:DTx:=fun _=>pure true
variable {elt iter:Expr} {x:Str} {px:Pos} {ifs:List Expr} {scope:Scope} {cl:List (Str × Addr)} {caps:List Str} {idx:List Nat} {src:DIx} {te:DTx}
theorem cσ_ok {K:PySem.W.Frag} {Z:Ent} {env:En} {σ:St} {ρ ρ1:List Addr} {B B1:Addr -> Prop} {hp hp1:Hs} {H H1:Hp} {d:DV} {v:V} (S:SOk K Z env σ ρ B hp H) (g:Gs K ρ B H ρ1 B1 H1) (W:WOk K ρ1 B1 hp1 H1) (r:RepV K ρ1 B1 H1 d v) :
    SOk K ⟨ρ1,B1,H1⟩ (cE idx env d) (cσ idx σ (some v)) ρ1 B1 hp1 H1:=by
  refine ⟨Gr.refl,W.bt,W,fun i e h=>?_,fun i es h=>?_,fun i j es es' a h=>?_,by simp [cE,cσ]⟩
  . cases i with
    | zero =>
      have:d = e:=by simpa [cE] using h
      subst this
      exact ⟨v,by simp [cσ],r⟩
    | succ i =>
      cases q:idx[i]? with
      | none=>simp [cE,q] at h
      | some k =>
        have h':kX ((env[k]?).getD .un) = .val e:=by simpa [cE,q] using h
        cases z:env[k]? with
        | none=>rw [z] at h';cases h'
        | some sl =>
          rw [z] at h'
          cases sl with
          | un=>cases h'
          | acc _=>cases h'
          | val e' =>
            have:e' = e:=by simpa [kX] using h'
            subst this
            obtain ⟨u,h1,h2⟩:=S.slot k e' z
            exact ⟨u,by simp [cσ,q,h1],RepV.gs g _ _ h2⟩
  . exfalso
    cases i with
    | zero=>simp [cE] at h
    | succ i =>
      cases q:idx[i]? with
      | none=>simp [cE,q] at h
      | some k =>
        have h':kX ((env[k]?).getD .un) = .acc es:=by simpa [cE,q] using h
        cases z:(env[k]?).getD .un with
        | un=>rw [z] at h';cases h'
        | acc _=>rw [z] at h';cases h'
        | val _=>rw [z] at h';cases h'
  . exfalso
    cases i with
    | zero=>simp [cE] at h
    | succ i =>
      cases q:idx[i]? with
      | none=>simp [cE,q] at h
      | some k =>
        have h':kX ((env[k]?).getD .un) = .acc es:=by simpa [cE,q] using h
        cases z:(env[k]?).getD .un with
        | un=>rw [z] at h';cases h'
        | acc _=>rw [z] at h';cases h'
        | val _=>rw [z] at h';cases h'
def DTs (X:Cx) (ifs:List Expr) (t:DTx):Prop:=PTs X ifs (tDT X.K t)
theorem zh:DTs X [] UZ:=fun pins s σ H Q I ⟨Z,env,ρ,B,hp,d,hp',S,e,k⟩=>by
  obtain ⟨rfl,rfl⟩:=Qg e
  exact QbI pins s σ H Q I (k ρ B H Gr.refl S.wo)
theorem QcS {c:Expr} (h:DT X c te):DTs X [c] te:=Qct h
def Zl (n:Nat) (body:DSx):List DV -> M DV:=fun ds=>do
  let r <- body (ds.map .val ++ List.replicate (n - ds.length) .un)
  match r.1 with
  | .nx=>pure .non
  | .rt d=>pure d
  | _=>failure
def spD (K:PySem.W.Frag) (n:Nat) (F:List DV -> M DV):Sp:=fun vs H Q _=>vs.length = n /\ ∃ ρ B hp ds d hp',WOk K ρ B hp H /\ RepL K ρ B H ds vs /\ F ds hp = some (d,hp') /\ Fol K ρ B H d hp' Q
structure Has (P:Program) (w:World) (K:PySem.W.Frag) (mg:Str -> Option Value) (base:Heap) (x:Str) (k n:Nat) (F:List DV -> M DV):Prop where
  ex:∃ (g:Addr) (fd:FuncData) (ps:List Str),FnOk P w K mg base CX0 k g fd ps (spD K n F) /\ Binds K fd ps [] /\ PySem.W.keepIn K (.ref g) = true /\ mg x = some (.ref g)
theorem jL {K:PySem.W.Frag} {ρ:List Addr} {B:Addr -> Prop} {hp:Hs} {H:Hp} {ds:List DV} {vs:List V} {N:List Str} (W:WOk K ρ B hp H) (r:RepL K ρ B H ds vs) :
    SOk K ⟨ρ,B,H⟩ (ds.map .val ++ List.replicate (N.length - ds.length) .un) (L2.start N vs) ρ B hp H:=by
  have hl:=r.length
  have at_:∀ {i:Nat} {z:Sl},(ds.map Sl.val ++ List.replicate (N.length - ds.length) Sl.un)[i]? = some z -> z = .un ∨ ∃ d,ds[i]? = some d /\ z = .val d:=fun {i z} h=>by
    by_cases hi:i < ds.length
    . rw [List.getElem?_append_left (by simpa using hi),List.getElem?_map,List.getElem?_eq_getElem hi] at h
      cases h
      exact .inr ⟨_,List.getElem?_eq_getElem hi,rfl⟩
    . rw [List.getElem?_append_right (by simpa using hi),List.getElem?_replicate] at h
      split at h
      . cases h;exact .inl rfl
      . cases h
  refine ⟨Gr.refl,W.bt,W,fun i d h=>?_,fun i es h=>?_,fun i j es es' a h=>?_,by unfold L2.start;simp;omega⟩
  . rcases at_ h with z | ⟨d',q,z⟩
    . cases z
    . cases z
      obtain ⟨v,h1,h2⟩:=r.get q
      refine ⟨v,?_,h2⟩
      unfold L2.start
      have hi:i < vs.length:=(List.getElem?_eq_some_iff.mp h1).1
      rw [List.getElem?_append_left (by simpa using hi),List.getElem?_map,h1]
      rfl
  . rcases at_ h with z | ⟨d',q,z⟩ <;> cases z
  . rcases at_ h with z | ⟨d',q,z⟩ <;> cases z
theorem Zk {P:Program} {w:World} {K:PySem.W.Frag} {mg:Str -> Option Value} {base:Heap} {x:Str} {stm:Stmt} {g:Addr} {fd:FuncData} {N ps:List Str} {k:Nat} {body:DSx} (F:Fun K x x stm g fd) (Sc:QG N ps (Qm stm)) (hm:mg x = some (.ref g))
    (hb:∀ (kV doc pm:Value) (an:Option Addr) (cdv ct:Value) (us:List Value),us.length = ps.length -> bindArgs (PySem.W.fnOf x x (QF stm) (QC stm) (Qm stm) .none kV doc pm an cdv ct) ⟨us,[]⟩ = pure (ps.zip us))
    (h:∀ (cdv:Value) (A:Around) (outer:List Env) (s:Shared) (H:Hp) (E:XK),Room k (A.deeper (envOfC x (Qm stm) s.heap.objs.size g cdv)) -> DSs (yP CX0 P w K mg base N x (Qm stm) g cdv A outer s H E).nox (QC stm) body) :
    Has P w K mg base x (k + 1) ps.length (Zl N.length body):=by
  refine ⟨g,fd,ps,F.ok Sc (fun vs H Q E h=>h.1) (fun cdv A outer s H vs Q E hr sp=>?_),F.binds hb,F.kp,hm⟩
  obtain ⟨hn,ρ,B,hp,ds,d,hp',W,r,e,k⟩:=sp
  obtain ⟨⟨fl,env'⟩,hp1,e1,e2⟩:=Qe e
  refine ⟨_,h cdv A outer s H E hr,⟨ρ,B,H⟩,_,ρ,B,hp,fl,env',hp1,jL W r,e1,fun σ' ρ' B' H' g' S'=>?_⟩
  cases fl with
  | nx=>obtain ⟨rfl,rfl⟩:=Qg e2;exact k .non ρ' B' H' S'.gr S'.wo jF
  | rt x=>obtain ⟨rfl,rfl⟩:=Qg e2;exact fun v rv=>k v ρ' B' H' S'.gr S'.wo rv
  | bk=>cases e2
  | ct=>cases e2
def Qt (n:Nat) (F:List DV -> M DV) (a:DAx):DEx:=fun env=>do
  let ds <- a env
  QA (decide (ds.length = n))
  F ds
theorem Qz {y:Str} {k j n:Nat} {F:List DV -> M DV} {e:Expr} {es:List Expr} {fa:DAx} {p:Pos} (h:Has X.prog X.w X.K X.mg X.base y j n F) (hr:Room k X.A) (hj:j <= k) (hx:Ym CX0 X E0) (ha:DA X (e :: es) fa) (hg:Gl X y:=by rfl)
    (hdb:(y == ("__debug__" : Str)) = false:=by decide) (he:starEach (e :: es) X.env = (false,eval e X.env) :: starEach es X.env:=by rfl) (hpl:(backTo pos (starEach es X.env)).any (·.1) = false:=by rfl):DE X (.Call (.Name y p) (e :: es) [] pos) (Qt n F fa):=by
  obtain ⟨g,fd,ps,F',hb,hk,hm⟩:=h.ex
  refine L2.PE.imp (Qcd F' (hr.mono hj) hg hm hk hb .nil hx ha hdb he hpl) fun σ H Q ⟨Z,env,ρ,B,hp,d,hp',S,e,k⟩=>?_
  obtain ⟨ds,hp1,e1,e2⟩:=Qe e
  obtain ⟨_,hp2,e3,e4⟩:=Qe e2
  obtain ⟨hl,rfl⟩:=QB e3
  refine tDA.run S e1 fun vs ρ1 B1 H1 g1 S1 r1=>?_
  refine ⟨by rw [List.append_nil,<- r1.length];exact of_decide_eq_true hl,ρ1,B1,hp1,ds,d,hp',S1.wo,by rw [List.append_nil];exact r1,e4,k.after g1⟩
end
end D
namespace D
open PySem PySem.Spec PyProof.Rows L2
section
variable {X:Cx} {e a b c:Expr} {f fa fb fc:DEx} {ca cb:DTx} {pos:Pos}
def qt (C:Int -> Int -> Bool) (g:Int -> Int -> DV):DV -> DV -> M DV
  | .int i,.int j=>if C i j then pure (g i j) else failure
  | _,_=>failure
theorem j1 {C:Int -> Int -> Bool} {g:Int -> Int -> DV} {x y d:DV} {hp hp':Hs} (h:qt C g x y hp = some (d,hp')):∃ i j,x = .int i /\ y = .int j /\ C i j = true /\ d = g i j /\ hp = hp':=by
  unfold qt at h
  split at h
  . rename_i i j
    by_cases hc:C i j = true
    . rw [if_pos hc] at h
      obtain ⟨rfl,rfl⟩:=Qg h
      exact ⟨i,j,rfl,rfl,hc,rfl,rfl⟩
    . rw [if_neg hc] at h;cases h
  . cases h
theorem UQ {g:Value -> Value -> Sem Value} {C:Int -> Int -> Bool} {P:Int -> Int -> Prop} {q:Int -> Int -> Int} (ho:OpR X g (rI P fun i j=>.int (q i j))) (hC:∀ i j,C i j = true -> P i j):P2 X g (qt C fun i j=>.int (q i j)):=by
  intro pins s σ H x y v u Q I rx ry h
  refine ho pins s σ H x y v u Q I rx ry ?_
  obtain ⟨ρ,B,hp,dx,dy,d,hp',W,r1,r2,e,k⟩:=h
  obtain ⟨i,j,rfl,rfl,hc,rfl,rfl⟩:=j1 e
  exact ⟨i,j,r1.intI,r2.intI,hC i j hc,k _ ρ B H Gr.refl W ZG⟩
theorem Qcx {g:Value -> Value -> Sem Value} {q:Int -> Int -> Int} (ho:OpR X g (rI0 fun i j=>.int (q i j))):P2 X g (qt (fun _ _=>true) fun i j=>.int (q i j)):=by
  intro pins s σ H x y v u Q I rx ry h
  refine ho pins s σ H x y v u Q I rx ry ?_
  obtain ⟨ρ,B,hp,dx,dy,d,hp',W,r1,r2,e,k⟩:=h
  obtain ⟨i,j,rfl,rfl,hc,rfl,rfl⟩:=j1 e
  exact ⟨i,j,r1.intI,r2.intI,k _ ρ B H Gr.refl W ZG⟩
theorem xU {g:Value -> Value -> Sem Value} {q:Int -> Int -> Bool} (ho:OpR X g (rI0 fun i j=>.bl (q i j))):P2 X g (qt (fun _ _=>true) fun i j=>.bl (q i j)):=by
  intro pins s σ H x y v u Q I rx ry h
  refine ho pins s σ H x y v u Q I rx ry ?_
  obtain ⟨ρ,B,hp,dx,dy,d,hp',W,r1,r2,e,k⟩:=h
  obtain ⟨i,j,rfl,rfl,hc,rfl,rfl⟩:=j1 e
  exact ⟨i,j,r1.intI,r2.intI,k _ ρ B H Gr.refl W Xi⟩
def QdO (i j:Int):Bool:=decide ((-(2 ^ 64) < i /\ i < 2 ^ 64) ∨ (-(2 ^ 64) < j /\ j < 2 ^ 64))
def QeK (_ j:Int):Bool:=decide (0 < j /\ j < 1073741824)
def QeD (_ j:Int):Bool:=decide (0 < j)
def Qfq (i j:Int):Bool:=decide (0 <= j /\ j <= 1000000 /\ i.natAbs < 2 ^ 64)
def XW:DV -> DV -> M DV:=qt (fun _ _=>true) fun i j=>.int (i - j)
def JT:DV -> DV -> M DV:=qt QdO fun i j=>.int (i * j)
def gH:DV -> DV -> M DV:=qt QeK fun i j=>.int (i / j)
def Z2:DV -> DV -> M DV:=qt QeD fun i j=>.int (i % j)
def Yt:DV -> DV -> M DV:=qt Qfq fun i j=>.int (i ^ j.toNat)
def ltD:DV -> DV -> M DV:=qt (fun _ _=>true) fun i j=>.bl (decide (i < j))
def leD:DV -> DV -> M DV:=qt (fun _ _=>true) fun i j=>.bl (decide (i <= j))
def gtD:DV -> DV -> M DV:=qt (fun _ _=>true) fun i j=>.bl (decide (j < i))
def geD:DV -> DV -> M DV:=qt (fun _ _=>true) fun i j=>.bl (decide (j <= i))
theorem qT:P2 X (binaryOp .Sub) XW:=Qcx Qec
theorem Xt:P2 X (binaryOp .Mult) JT:=UQ QdU fun i j h=>of_decide_eq_true (p:=(-(2 ^ 64) < i /\ i < 2 ^ 64) ∨ (-(2 ^ 64) < j /\ j < 2 ^ 64)) h
theorem Qdg:P2 X (binaryOp .FloorDiv) gH:=UQ QcE fun i j h=>of_decide_eq_true (p:=0 < j /\ j < 1073741824) h
theorem JP:P2 X (binaryOp .Mod) Z2:=UQ Qd8 fun _ _ h=>of_decide_eq_true h
theorem VL:P2 X (binaryOp .Pow) Yt:=UQ Qdn fun i j h=>of_decide_eq_true (p:=0 <= j /\ j <= 1000000 /\ i.natAbs < 2 ^ 64) h
theorem vH:P2 X (compareOp .Lt) ltD:=xU Qe3
theorem QbP:P2 X (compareOp .LtE) leD:=xU QeY
theorem Qcm:P2 X (compareOp .Gt) gtD:=xU Qew
theorem QfT:P2 X (compareOp .GtE) geD:=xU QeF
def Qfe:DV -> M DV
  | .int i=>pure (.int (-i))
  | _=>failure
def qi (f:DEx):DEx:=fun env=>do Qfe (<- f env)
theorem vf (h:DE X a f):DE X (.UnaryOp .USub a pos) (qi f):=L2.PE.imp (Qc6 QaA h) fun σ H Q ⟨Z,env,ρ,B,hp,d,hp',S,e,k⟩=>by
  obtain ⟨x,hp1,e1,e2⟩:=Qe e
  refine tD.run S e1 fun v ρ1 B1 H1 g1 S1 r1=>?_
  cases x with
  | int i=>obtain ⟨rfl,rfl⟩:=Qg e2;exact ⟨i,r1.intI,k _ ρ1 B1 H1 g1 S1.wo ZG⟩
  | _=>cases e2
theorem QbG:OpR X (binaryOp .Add) (fun x y H Q=>∃ a b ys,x = .ref a /\ y = .ref b /\ SqT X.K H a [] /\ SqT X.K H b ys /\ ys.length <= sizeLine /\ Q (.ref b) H):=by
  intro pins s σ H x y v u Q I rx ry h
  obtain ⟨a,b,ys,rfl,rfl,ha,hb,hz,q⟩:=h
  cases rx
  cases ry
  obtain ⟨its,r1,p1,_⟩:=I.tuple ha
  obtain ⟨its2,r2,p2,_⟩:=I.tuple hb
  obtain ⟨m,F⟩:=I.fr
  have z:its = []:=by cases r1;rfl
  subst z
  exact add_tuples F (Qbs (g:=X.base) (L:=X.env.locals)) p1 p2 (fun _=>⟨.ref b,H,I,rfl,q⟩) (fun n=>absurd rfl n) (fun n=>absurd rfl n) (by have:=r2.length;simp;omega)
def Zb:DV -> DV -> M DV
  | .int i,.int j=>pure (.int (i + j))
  | .tup xs,.tup ys=>do QA (Xs (xs ++ ys));pure (.tup (xs ++ ys))
  | .lst xs,.lst ys=>do QA (Xs (xs ++ ys));pure (.lst (xs ++ ys))
  | _,_=>failure
theorem u6:OpR X (binaryOp .Add) (fun x y H Q=>∃ l b xs zs,x = .ref l /\ y = .ref b /\ SqL X.K H l xs /\ SqL X.K H b zs /\ xs.length + zs.length <= sizeLine /\ ∀ p,H p = none -> Q (.ref p) (upd H p (.lst (xs ++ zs)))):=by
  intro pins s σ H x y v u Q I rx ry h
  obtain ⟨l,b,xs,zs,rfl,rfl,hl,hb,hz,q⟩:=h
  cases rx
  cases ry
  obtain ⟨its,r1,⟨⟨k1,dd1,da1,sl1⟩,n1,e1,c1,d1,s1⟩,_⟩:=I.list hl
  obtain ⟨its2,r2,⟨⟨k2,dd2,da2,sl2⟩,n2,e2,c2,d2,s2⟩,_⟩:=I.list hb
  simp only at c1 d1 s1 c2 d2 s2
  subst c1 d1 s1 c2 d2 s2
  have ea:its.toArray ++ its2.toArray = (its ++ its2).toArray:=by simp
  have hz':its.length + its2.length <= sizeLine:=by rw [<- r1.length,<- r2.length];exact hz
  refine concat_meets (T := "list") ⟨_,e1,rfl⟩ ⟨_,e2,rfl⟩ noFill_list_add seq_list_add PySem.F.slot_list_add PySem.F.entry_list_add (PySem.F.args_list_add_2 _ _) (list_addW l b its.toArray its2.toArray n1 n2 none none sl1 sl2 (by simpa using hz')) ⟨e1,e2,?_⟩
  rw [ea]
  exact ⟨.ref _,_,I.lnew (t':=s.toks) (r1.append r2) (by rw [List.length_append];exact hz),rfl,q _ I.fresh⟩
theorem Zv:P2 X (binaryOp .Add) Zb:=by
  intro pins s σ H x y v u Q I rx ry h
  obtain ⟨ρ,B,hp,dx,dy,d,hp',W,r1,r2,e,k⟩:=h
  unfold Zb at e
  split at e
  . obtain ⟨rfl,rfl⟩:=Qg e
    exact Qeq pins s σ H x y v u Q I rx ry ⟨_,_,r1.intI,r2.intI,k _ ρ B H Gr.refl W ZG⟩
  . rename_i xs ys
    obtain ⟨_,hp1,e1,e2⟩:=Qe e
    obtain ⟨hs,rfl⟩:=QB e1
    obtain ⟨rfl,rfl⟩:=Qg e2
    obtain ⟨a,vs,rfl,n1,q1,l1⟩:=r1.tupI
    obtain ⟨b,ws,rfl,n2,q2,l2⟩:=r2.tupI
    have hz:vs.length + ws.length <= sizeLine:=by
      have:=qN hs
      rw [List.length_append] at this
      rw [<- l1.length,<- l2.length];exact this
    by_cases hv:vs = []
    . subst hv
      have:xs = []:=by have:=l1.length;cases xs with | nil=>rfl | cons _ _=>simp at this
      subst this
      exact QbG pins s σ H _ _ v u Q I rx ry ⟨a,b,ws,rfl,rfl,q1,q2,by simp at hz;exact hz,k _ ρ B H Gr.refl W (Y3 n2 q2 l2)⟩
    . refine QcN pins s σ H _ _ v u Q I rx ry ⟨a,b,vs,ws,rfl,rfl,q1,q2,hv,hz,fun hw=>?_,fun hw=>zc W (RepL.append l1 l2) k⟩
      subst hw
      have:ys = []:=by have:=l2.length;cases ys with | nil=>rfl | cons _ _=>simp at this
      subst this
      rw [List.append_nil] at k
      exact k _ ρ B H Gr.refl W (Y3 n1 q1 l1)
  . rename_i xs ys
    obtain ⟨_,hp1,e1,e2⟩:=Qe e
    obtain ⟨hs,rfl⟩:=QB e1
    obtain ⟨rfl,rfl⟩:=Qg e2
    obtain ⟨a,vs,rfl,n1,q1,l1⟩:=r1.lstI
    obtain ⟨b,ws,rfl,n2,q2,l2⟩:=r2.lstI
    have hz:vs.length + ws.length <= sizeLine:=by
      have:=qN hs
      rw [List.length_append] at this
      rw [<- l1.length,<- l2.length];exact this
    exact u6 pins s σ H _ _ v u Q I rx ry ⟨a,b,vs,ws,rfl,rfl,q1,q2,hz,Xx W (RepL.append l1 l2) k⟩
  . cases e
def isN:DV -> Bool
  | .non=>true
  | _=>false
theorem uW {K:PySem.W.Frag} {ρ:List Addr} {B:Addr -> Prop} {H:Hp} {d:DV} {v:V} (r:RepV K ρ B H d v):decide (v = .non) = isN d:=by
  cases d with
  | non=>rw [r.nonI];rfl
  | bl b=>rw [r.blI];rfl
  | int b=>rw [r.intI];rfl
  | str b=>rw [r.strI];rfl
  | tup b=>obtain ⟨a,xs,rfl,_⟩:=r.tupI;rfl
  | lst b=>obtain ⟨a,xs,rfl,_⟩:=r.lstI;rfl
  | ref b=>obtain ⟨a,rfl,_⟩:=r.refI;rfl
def isD:DV -> DV -> M DV
  | x,.non=>pure (.bl (isN x))
  | .bl p,.bl q=>pure (.bl (p == q))
  | _,_=>failure
def yi:DV -> DV -> M DV
  | x,.non=>pure (.bl (!isN x))
  | .bl p,.bl q=>pure (.bl (p != q))
  | _,_=>failure
theorem QcG:P2 X (compareOp .Is) isD:=by
  intro pins s σ H x y v u Q I rx ry h
  obtain ⟨ρ,B,hp,dx,dy,d,hp',W,r1,r2,e,k⟩:=h
  unfold isD at e
  split at e
  . obtain ⟨rfl,rfl⟩:=Qg e
    refine Qd9 pins s σ H x y v u Q I rx ry ⟨r2.nonI,?_⟩
    rw [uW r1]
    exact k _ ρ B H Gr.refl W Xi
  . obtain ⟨rfl,rfl⟩:=Qg e
    obtain rfl:=r1.blI
    obtain rfl:=r2.blI
    cases rx;cases ry
    exact is_bool ⟨.bl _,H,I,rfl,k _ ρ B H Gr.refl W Xi⟩
  . cases e
theorem uz:P2 X (compareOp .IsNot) yi:=by
  intro pins s σ H x y v u Q I rx ry h
  obtain ⟨ρ,B,hp,dx,dy,d,hp',W,r1,r2,e,k⟩:=h
  unfold yi at e
  split at e
  . obtain ⟨rfl,rfl⟩:=Qg e
    refine QcK pins s σ H x y v u Q I rx ry ⟨r2.nonI,?_⟩
    rw [uW r1]
    exact k _ ρ B H Gr.refl W Xi
  . obtain ⟨rfl,rfl⟩:=Qg e
    obtain rfl:=r1.blI
    obtain rfl:=r2.blI
    cases rx;cases ry
    exact isnot_bool ⟨.bl _,H,I,rfl,k _ ρ B H Gr.refl W Xi⟩
  . cases e
theorem Uu {K:PySem.W.Frag} {ρ:List Addr} {B:Addr -> Prop} {H:Hp} {ds:List DV} {xs:List V} {i:Int} {d:DV} (r:RepL K ρ B H ds xs) (h:atI ds i = some d):∃ x,atI xs i = some x /\ RepV K ρ B H d x:=by
  unfold atI at h ⊢
  rw [<- r.length]
  cases q:ixN ds.length i with
  | none=>rw [q] at h;cases h
  | some j =>
    rw [q] at h
    exact r.get h
def ixD:DV -> DV -> M DV
  | .tup ds,.int i=>match atI ds i with
    | some d=>pure d
    | none=>failure
  | .lst ds,.int i=>match atI ds i with
    | some d=>pure d
    | none=>failure
  | _,_=>failure
theorem Qez:IxR X (tP2 X.K ixD):=by
  intro value slice pins s σ H x y v u Q I rx ry h hsub
  obtain ⟨ρ,B,hp,dx,dy,d,hp',W,r1,r2,e,k⟩:=h
  unfold ixD at e
  split at e
  . rename_i ds i
    cases q:atI ds i with
    | none=>rw [q] at e;cases e
    | some d' =>
      rw [q] at e
      obtain ⟨rfl,rfl⟩:=Qg e
      obtain ⟨a,xs,rfl,n1,q1,l1⟩:=r1.tupI
      obtain ⟨z,hz,rz⟩:=Uu l1 q
      exact Qdq value slice pins s σ H _ _ v u Q I rx ry ⟨a,xs,i,z,rfl,r2.intI,q1,hz,k _ ρ B H Gr.refl W rz⟩ hsub
  . rename_i ds i
    cases q:atI ds i with
    | none=>rw [q] at e;cases e
    | some d' =>
      rw [q] at e
      obtain ⟨rfl,rfl⟩:=Qg e
      obtain ⟨a,xs,rfl,n1,q1,l1⟩:=r1.lstI
      obtain ⟨z,hz,rz⟩:=Uu l1 q
      exact uJ value slice pins s σ H _ _ v u Q I rx ry ⟨a,xs,i,z,rfl,r2.intI,q1,hz,k _ ρ B H Gr.refl W rz⟩ hsub
  . cases e
theorem Qbj (ha:DE X a fa) (hb:DE X b fb) (hs:UC b:=by intro _ _;rfl):DE X (.Subscript a b pos) (Qh ixD fa fb):=L2.PE.imp (Qdf Qez ha hb hs) fun _ _ _ h=>qA h
end
end D
namespace D
open PySem PySem.Spec PyProof.Rows L2
mutual
def toP:DV -> PyData
  | .non=>.none
  | .bl b=>.bool b
  | .int i=>.int i
  | .str x=>.str x
  | .tup xs=>.tuple (toPs xs)
  | .lst xs=>.list (toPs xs)
  | .ref _=>.none
def toPs:List DV -> List PyData
  | []=>[]
  | d :: ds=>toP d :: toPs ds
end
mutual
def Kn:DV -> Bool
  | .ref _=>false
  | .tup xs=>noRefs xs
  | .lst xs=>noRefs xs
  | _=>true
def noRefs:List DV -> Bool
  | []=>true
  | d :: ds=>Kn d && noRefs ds
end
section
variable {X:Cx} {pins:List (Addr × Obj)} {σ:St} {H:Hp} {s:Shared} {ρ:List Addr} {B:Addr -> Prop}
mutual
theorem yq (I:Inv X pins σ H s):∀ (d:DV) (v:V) (u:Value),RepV X.K ρ B H d v -> RelV v u -> Kn d = true -> ∃ as,Reads s.heap u (toP d) as
  | .non,_,_,r,ru,_=>by obtain rfl:=r.nonI;cases ru;exact ⟨[],by unfold toP;exact .none⟩
  | .bl b,_,_,r,ru,_=>by obtain rfl:=r.blI;cases ru;exact ⟨[],by unfold toP;exact .bool b⟩
  | .int i,_,_,r,ru,_=>by obtain rfl:=r.intI;obtain ⟨t,rfl⟩:=ru;exact ⟨[],by unfold toP;exact .int i t⟩
  | .str x,_,_,r,ru,_=>by obtain rfl:=r.strI;obtain ⟨t,rfl⟩:=ru;exact ⟨[],by unfold toP;exact .str x t⟩
  | .ref _,_,_,_,_,n=>by cases n
  | .tup ds,_,_,r,ru,n=>by
    obtain ⟨a,xs,rfl,_,sq,rl⟩:=r.tupI
    cases ru
    obtain ⟨its,rv,⟨o,e,hc,k,hd⟩,_⟩:=I.tuple sq
    obtain ⟨as,q⟩:=reads_all I ds xs its rl rv (by unfold Kn at n;exact n)
    exact ⟨_,by unfold toP;exact reads_tuple_at e hc hd (by simpa using q)⟩
  | .lst ds,_,_,r,ru,n=>by
    obtain ⟨a,xs,rfl,_,sq,rl⟩:=r.lstI
    cases ru
    obtain ⟨its,rv,⟨o,k,e,hc,_,hd⟩,_⟩:=I.list sq
    obtain ⟨as,q⟩:=reads_all I ds xs its rl rv (by unfold Kn at n;exact n)
    exact ⟨_,by unfold toP;exact reads_list_at e hc hd (by simpa using q)⟩
theorem reads_all (I:Inv X pins σ H s):∀ (ds:List DV) (xs:List V) (us:List Value),RepL X.K ρ B H ds xs -> Vals xs us -> noRefs ds = true -> ∃ as,ReadsAll s.heap us (toPs ds) as
  | [],_,_,r,ru,_=>by unfold RepL at r;subst r;cases ru;exact ⟨[],by unfold toPs;exact .nil⟩
  | d :: ds,_,_,r,ru,n=>by
    unfold RepL at r
    obtain ⟨x,xs,rfl,r1,r2⟩:=r
    cases ru with
    | cons q1 q2 =>
      unfold noRefs at n
      rw [Bool.and_eq_true] at n
      obtain ⟨as,h1⟩:=yq I d x _ r1 q1 n.1
      obtain ⟨bs,h2⟩:=reads_all I ds xs _ r2 q2 n.2
      exact ⟨_,by unfold toPs;exact .cons h1 h2⟩
end
end
def okP (d:DV):Bool:=Kn d && SeqAt.shaped (toP d)
def eqD:DV -> DV -> M DV:=fun x y=>do QA (okP x && okP y);pure (.bl (PyData.eqv (toP x) (toP y)))
def neD:DV -> DV -> M DV:=fun x y=>do QA (okP x && okP y);pure (.bl (!PyData.eqv (toP x) (toP y)))
section
variable {X:Cx} {e a b c:Expr} {f fa fb fc:DEx} {ca cb:DTx} {pos:Pos}
theorem ka (hu:X.A.units + 64 < cLine):P2 X (compareOp .Eq) eqD:=by
  intro pins s σ H x y v u Q I rx ry h
  obtain ⟨ρ,B,hp,dx,dy,d,hp',W,r1,r2,e,k⟩:=h
  obtain ⟨_,hp1,e1,e2⟩:=Qe e
  obtain ⟨hs,rfl⟩:=QB e1
  obtain ⟨rfl,rfl⟩:=Qg e2
  simp only [okP,Bool.and_eq_true] at hs
  obtain ⟨as,q1⟩:=yq I dx x v r1 rx hs.1.1
  obtain ⟨bs,q2⟩:=yq I dy y u r2 ry hs.2.1
  exact eq_dataH q1 q2 hs.1.2 hs.2.2 hu ⟨.bl _,H,I,rfl,k _ ρ B H Gr.refl W Xi⟩
def tPn (K:PySem.W.Frag) (g:List DV -> M DV):List V -> Hp -> VK -> Prop:=fun xs H Q=>∃ ρ B hp ds d hp',WOk K ρ B hp H /\ RepL K ρ B H ds xs /\ g ds hp = some (d,hp') /\ Fol K ρ B H d hp' Q
def QU (g:List DV -> M DV) (a:DAx):DEx:=fun env=>do g (<- a env)
theorem Kv {K:PySem.W.Frag} {g:List DV -> M DV} {fa:DAx} {σ:St} {H:Hp} {Q:VK} (h:tD K (QU g fa) σ H Q):tCB (tPn K g) (tDA K fa) σ H Q:=by
  obtain ⟨Z,env,ρ,B,hp,d,hp',S,e,k⟩:=h
  obtain ⟨ds,hp1,e1,e2⟩:=Qe e
  exact tDA.run S e1 fun vs ρ1 B1 H1 g1 S1 r1=>⟨ρ1,B1,hp1,ds,d,hp',S1.wo,r1,e2,k.after g1⟩
theorem Q2 {x:Str} {id:String} {g:List DV -> M DV} {e:Expr} {es:List Expr} {fa:DAx} {p:Pos} (hc:CallR X (.builtin id) (tPn X.K g)) (hm:X.mg x = none) (hv:bootBuiltins x = some (.builtin id)) (ha:DA X (e :: es) fa) (hg:Gl X x:=by rfl) (hn:x ≠ "__name__" := by decide) (hdb:(x == ("__debug__" : Str)) = false:=by decide)
    (he:starEach (e :: es) X.env = (false,eval e X.env) :: starEach es X.env:=by rfl) (hpl:(backTo pos (starEach es X.env)).any (·.1) = false:=by rfl):DE X (.Call (.Name x p) (e :: es) [] pos) (QU g fa) :=
  L2.PE.imp (Qaj hc hg hm hv ha hn hdb he hpl) fun _ _ _ h=>Kv h
theorem KR {x:Str} {T:String} {g:List DV -> M DV} {e:Expr} {es:List Expr} {fa:DAx} {p:Pos} (hc:CallR X (.type T) (tPn X.K g)) (hm:X.mg x = none) (hv:bootBuiltins x = some (.type T)) (ha:DA X (e :: es) fa) (hg:Gl X x:=by rfl) (hn:x ≠ "__name__" := by decide) (hdb:(x == ("__debug__" : Str)) = false:=by decide)
    (he:starEach (e :: es) X.env = (false,eval e X.env) :: starEach es X.env:=by rfl) (hpl:(backTo pos (starEach es X.env)).any (·.1) = false:=by rfl):DE X (.Call (.Name x p) (e :: es) [] pos) (QU g fa) :=
  L2.PE.imp (kh hc hg hm hv ha hn hdb he hpl) fun _ _ _ h=>Kv h
theorem RepL.oneI {K:PySem.W.Frag} {ρ:List Addr} {B:Addr -> Prop} {H:Hp} {d:DV} {vs:List V} (h:RepL K ρ B H [d] vs):∃ v,vs = [v] /\ RepV K ρ B H d v:=by
  unfold RepL at h
  obtain ⟨x,r,rfl,h1,h2⟩:=h
  unfold RepL at h2;subst h2
  exact ⟨x,rfl,h1⟩
def qE:List DV -> M DV
  | [.tup ds]=>pure (.int ds.length)
  | [.lst ds]=>pure (.int ds.length)
  | _=>failure
theorem kN:CallR X (.builtin "len") (tPn X.K qE):=by
  intro pins s σ H xs us Q I r h
  obtain ⟨ρ,B,hp,ds,d,hp',W,rl,e,k⟩:=h
  unfold qE at e
  split at e
  . obtain ⟨rfl,rfl⟩:=Qg e
    obtain ⟨v,rfl,rv⟩:=rl.oneI
    obtain ⟨a,ys,rfl,_,sq,l⟩:=rv.tupI
    exact Y5 pins s σ H _ us Q I r ⟨a,ys,rfl,.inr sq,by rw [<- l.length];exact k _ ρ B H Gr.refl W ZG⟩
  . obtain ⟨rfl,rfl⟩:=Qg e
    obtain ⟨v,rfl,rv⟩:=rl.oneI
    obtain ⟨a,ys,rfl,_,sq,l⟩:=rv.lstI
    exact Y5 pins s σ H _ us Q I r ⟨a,ys,rfl,.inl sq,by rw [<- l.length];exact k _ ρ B H Gr.refl W ZG⟩
  . cases e
def QaU:List DV -> M DV
  | [.int i,.int j]=>pure (.int (if j < i then j else i))
  | _=>failure
def gF:List DV -> M DV
  | [.int i,.int j]=>pure (.int (if j > i then j else i))
  | _=>failure
theorem Qdj (hc:X.calm = true):CallR X (.builtin "min") (tPn X.K QaU):=by
  intro pins s σ H xs us Q I r h
  obtain ⟨ρ,B,hp,ds,d,hp',W,rl,e,k⟩:=h
  unfold QaU at e
  split at e
  . obtain ⟨rfl,rfl⟩:=Qg e
    exact gA hc pins s σ H xs us Q I r ⟨_,_,rl.ints2,k _ ρ B H Gr.refl W ZG⟩
  . cases e
theorem Qe4 (hc:X.calm = true):CallR X (.builtin "max") (tPn X.K gF):=by
  intro pins s σ H xs us Q I r h
  obtain ⟨ρ,B,hp,ds,d,hp',W,rl,e,k⟩:=h
  unfold gF at e
  split at e
  . obtain ⟨rfl,rfl⟩:=Qg e
    exact gx hc pins s σ H xs us Q I r ⟨_,_,rl.ints2,k _ ρ B H Gr.refl W ZG⟩
  . cases e
def Qdp:List DV -> M DV
  | [.lst ds]=>pure (.tup ds)
  | [.tup ds]=>pure (.tup ds)
  | _=>failure
theorem Qck:CallR X (.type "tuple") (tPn X.K Qdp):=by
  intro pins s σ H xs us Q I r h
  obtain ⟨ρ,B,hp,ds,d,hp',W,rl,e,k⟩:=h
  unfold Qdp at e
  split at e
  . obtain ⟨rfl,rfl⟩:=Qg e
    obtain ⟨v,rfl,rv⟩:=rl.oneI
    obtain ⟨a,ys,rfl,_,sq,l⟩:=rv.lstI
    exact Yq pins s σ H _ us Q I r ⟨a,ys,rfl,.inl ⟨sq,zc W l k⟩⟩
  . obtain ⟨rfl,rfl⟩:=Qg e
    obtain ⟨v,rfl,rv⟩:=rl.oneI
    obtain ⟨a,ys,rfl,nb,sq,l⟩:=rv.tupI
    exact Yq pins s σ H _ us Q I r ⟨a,ys,rfl,.inr ⟨sq,k _ ρ B H Gr.refl W (Y3 nb sq l)⟩⟩
  . cases e
def YU (g g':DV -> DV -> M DV) (fa fb fc:DEx):DEx:=fun env=>do
  let x <- fa env
  let y <- fb env
  let z <- g x y
  if <- asB z then
    let u <- fc env
    g' y u
  else pure (.bl false)
end
end D
namespace D
open PySem PySem.Spec PyProof.Rows L2
section
variable {X:Cx} {e a b c:Expr} {f fa fb fc:DEx} {ca cb:DTx} {pos:Pos}
theorem vJ {K:PySem.W.Frag} {g g':DV -> DV -> M DV} {σ:St} {H:Hp} {Q:VK} (h:tD K (YU g g' fa fb fc) σ H Q):kM (tP2 K g) (tP2 K g') (tD K fa) (tD K fb) (tD K fc) σ H Q:=by
  obtain ⟨Z,env,ρ,B,hp,d,hp',S,e,k⟩:=h
  obtain ⟨x,hp1,e1,e⟩:=Qe e
  obtain ⟨y,hp2,e2,e⟩:=Qe e
  obtain ⟨z,hp3,e3,e⟩:=Qe e
  obtain ⟨t,hp4,e4,e⟩:=Qe e
  obtain ⟨rfl,rfl⟩:=YD e4
  refine tD.run S e1 fun v ρ1 B1 H1 g1 S1 r1=>tD.run S1 e2 fun u ρ2 B2 H2 g2 S2 r2=>?_
  refine ⟨ρ2,B2,hp2,x,y,_,_,S2.wo,RepV.grow S1.wo.rb g2 _ _ r1,r2,e3,fun w ρ3 B3 H3 g3 W3 r3=>⟨t,r3.blI,?_⟩⟩
  have S3:=S2.grow g3 W3
  cases t with
  | false =>
    obtain ⟨rfl,rfl⟩:=Qg e
    exact Ud (k _ ρ3 B3 H3 (g1.trans (g2.trans g3)) W3 Xi)
  | true =>
    obtain ⟨q,hp5,e5,e6⟩:=Qe e
    refine UM (tD.run S3 e5 fun p ρ4 B4 H4 g4 S4 r4=>?_)
    exact ⟨ρ4,B4,hp5,y,q,d,hp',S4.wo,RepV.grow S3.wo.rb g4 _ _ (RepV.grow S2.wo.rb g3 _ _ r2),r4,e6,k.after (g1.trans (g2.trans (g3.trans g4)))⟩
theorem KL {op op':CmpOp} {g g':DV -> DV -> M DV} (ho:P2 X (compareOp op) g) (ho':P2 X (compareOp op') g') (ha:DE X a fa) (hb:DE X b fb) (hc:DE X c fc) (hm:lastMarks [op,op'] [b,c] = false:=by with_unfolding_all rfl):DT X (.Compare a [op,op'] [b,c] pos) (eB (YU g g' fa fb fc)) :=
  L2.PT.imp (Qbu ho ho' ha hb hc hm) fun σ H Q ⟨Z,env,ρ,B,hp,d,hp',S,e,k⟩=>by
    obtain ⟨x,hp1,e1,e2⟩:=Qe e
    obtain ⟨rfl,rfl⟩:=YD e2
    exact vJ (tD.run S e1 fun v ρ1 B1 H1 g1 S1 r1=>⟨d,r1.blI,k ρ1 B1 H1 g1 S1.wo⟩)
abbrev DOx:=En -> M (Option Int)
def tDO (K:PySem.W.Frag) (f:DOx):TO:=fun σ H Q=>∃ Z env ρ B hp d hp',SOk K Z env σ ρ B hp H /\ f env hp = some (d,hp') /\ Qe0 K ρ B H hp' (Q d)
def DO (X:Cx) (e:Option Expr) (f:DOx):Prop:=PO X e (tDO X.K f)
def Xr:DOx:=fun _=>pure none
def asI:DV -> M Int
  | .int i=>pure i
  | _=>failure
theorem yp {d:DV} {c:Int} {hp hp':Hs} (h:asI d hp = some (c,hp')):d = .int c /\ hp = hp':=by
  cases d with
  | int b=>obtain ⟨rfl,rfl⟩:=Qg h;exact ⟨rfl,rfl⟩
  | _=>cases h
def Zz (f:DEx):DOx:=fun env=>do let i <- asI (<- f env);pure (some i)
theorem xO:DO X none Xr:=fun pins s σ H Q I ⟨Z,env,ρ,B,hp,d,hp',S,e,k⟩=>by
  obtain ⟨rfl,rfl⟩:=Qg e
  exact QbN pins s σ H Q I (k ρ B H Gr.refl S.wo)
theorem Yk (h:DE X e f):DO X (some e) (Zz f):=fun pins s σ H Q I ⟨Z,env,ρ,B,hp,d,hp',S,e,k⟩=>by
  obtain ⟨x,hp1,e1,e2⟩:=Qe e
  obtain ⟨i,hp2,e3,e4⟩:=Qe e2
  obtain ⟨rfl,rfl⟩:=yp e3
  obtain ⟨rfl,rfl⟩:=Qg e4
  exact Qco h pins s σ H Q I (tD.run S e1 fun v ρ1 B1 H1 g1 S1 r1=>⟨i,r1.intI,k ρ1 B1 H1 g1 S1.wo⟩)
theorem tDO.run {K:PySem.W.Frag} {f:DOx} {Z:Ent} {env:En} {σ:St} {ρ:List Addr} {B:Addr -> Prop} {hp hp1:Hs} {H:Hp} {d:Option Int} {Q:Option Int -> Hp -> Prop} (S:SOk K Z env σ ρ B hp H) (e:f env hp = some (d,hp1))
    (k:∀ ρ' B' H',Gr K ρ B H ρ' B' H' -> SOk K Z env σ ρ' B' hp1 H' -> Q d H'):tDO K f σ H Q :=
  ⟨Z,env,ρ,B,hp,d,hp1,S,e,fun ρ' B' H' g W=>k ρ' B' H' g (S.grow g W)⟩
def zY (ds:List DV) (lo hi:Option Int):List DV:=(ds.drop (HT.sIx ds.length 0 lo)).take (HT.sIx ds.length ds.length hi - HT.sIx ds.length 0 lo)
theorem yC {K:PySem.W.Frag} {ρ:List Addr} {B:Addr -> Prop} {H:Hp} {ds:List DV} {xs:List V} {lo hi:Option Int} (r:RepL K ρ B H ds xs):RepL K ρ B H (zY ds lo hi) (Gg xs lo hi):=by
  unfold zY Gg
  rw [r.length]
  exact RepL.take _ (RepL.drop _ r)
def slD (d:DV) (lo hi:Option Int):M DV:=match d with
  | .lst ds=>pure (.lst (zY ds lo hi))
  | .tup ds=>pure (.tup (zY ds lo hi))
  | _=>failure
def eSl (f:DEx) (lo hi:DOx):DEx:=fun env=>do let d <- f env;let l <- lo env;let h <- hi env;slD d l h
def tPs (K:PySem.W.Frag):V -> Option Int -> Option Int -> Hp -> VK -> Prop:=fun x lo hi H Q=>∃ ρ B hp d r hp',WOk K ρ B hp H /\ RepV K ρ B H d x /\ slD d lo hi hp = some (r,hp') /\ Fol K ρ B H r hp' Q
theorem KQ {prog:Program} {w:World} {A:Around} {E:Value -> Shared -> Prop} {s:Shared} {t sl:Addr} {items:Array Value} {vl vu:Value} {lo hi:Option Int} {Q:Value -> Shared -> Prop} (ht:IsTup s.heap t items) (hs:s.heap.IsSliceOf sl vl vu .none) (pl:IsPart vl lo) (pu:IsPart vu hi)
    (h0:HT.sIx items.size 0 lo = 0) (h1:HT.sIx items.size items.size hi = items.size) (h:Q (.ref t) s):wpAny (model prog w) A (getItem (.ref t) (.ref sl)) Q E s:=by
  obtain ⟨os,hos,hcs,hds⟩:=id hs
  have hTs:s.TypeIs (.ref sl) "slice" := ⟨os,hos,hcs⟩
  unfold getItem
  try with_reducible refine wpAny_holding ?_
  first | refine wpAny_bind (wpAny_pure ?_) | skip
  refine wpAny_bind (wpAny_sequenceKey ht.typeIs (by decide) ?_)
  refine wpAny_bind (wpAny_callSpecial?_slot (name:=Str.ofString "__getitem__") ht.typeIs PyProof.Rows.slot_tuple_getitem (wpAny_call_entry PyProof.Rows.slot_tuple_getitem ht.typeIs entry_tuple_getitem ?_ (args_tuple_getitem _ _)))
  show wpAny _ _ (Builtin.Tuple.tupleItemsOf (.ref t) >>= _) _ _ s
  refine wpAny_bind (tupleItemsOf_ ht ?_)
  refine wpAny_bind (wpAny_typeOf hTs ?_)
  rw [if_pos (by decide)]
  refine wpAny_bind (HT.sliceApplied_gen hs pl pu ?_)
  have yes:(((HT.sIx items.size 0 lo:Nat):Int) == 0 && (1:Int) == 1 && (HT.sIx items.size items.size hi - HT.sIx items.size 0 lo) == items.size) = true:=by rw [h0,h1];simp
  show wpAny _ _ (if (((HT.sIx items.size 0 lo:Nat):Int) == 0 && (1:Int) == 1 && (HT.sIx items.size items.size hi - HT.sIx items.size 0 lo) == items.size) = true then _ else _) _ _ s
  rw [if_pos yes]
  have ex:∀ {Q':Bool -> Shared -> Prop} {A':Around} {E':Value -> Shared -> Prop},Q' true s -> wpAny (model prog w) A' (Builtin.Tuple.tupleIsExact (.ref t)) Q' E' s:=fun {Q' A' E'} q=>by
    unfold Builtin.Tuple.tupleIsExact
    exact wpAny_bind (wpAny_typeOf ht.typeIs (wpAny_pure (by rw [show (Value.type "tuple" == Value.type "tuple") = true from beq_self_eq_true _];exact q)))
  refine wpAny_bind (ex ?_)
  rw [if_pos rfl]
  first
    | exact wpAny_bind (wpAny_rule (wpAny_pure ⟨_,rfl,wpAny_pure h⟩))
    | exact wpAny_bind (wpAny_rule (wpAny_bind (wpAny_pure (wpAny_pure ⟨_,rfl,wpAny_pure h⟩))))
theorem Qc5:SlR X (fun x lo hi H Q=>∃ a xs,x = .ref a /\ SqT X.K H a xs /\ (HT.sIx xs.length 0 lo = 0 /\ HT.sIx xs.length xs.length hi = xs.length) /\ Q (.ref a) H):=by
  intro pins s σ H x v vl vu lo hi sl Q I rx hs pl pu h
  obtain ⟨a,xs,rfl,hx,⟨h0,h1⟩,q⟩:=h
  cases rx
  obtain ⟨its,r,ht,hz⟩:=I.tuple hx
  have hlen:its.toArray.size = xs.length:=by rw [List.size_toArray];exact r.length.symm
  exact ⟨"tuple", _,PyProof.Rows.slot_tuple_getitem.lookup,ht.typeIs,KQ ht hs pl pu (by rw [hlen];exact h0) (by rw [hlen];exact h1) ⟨.ref a,H,I,rfl,q⟩⟩
theorem gK {α:Type} (ds:List α) (i j:Nat) (h0:i = 0) (h1:j = ds.length):(ds.drop i).take (j - i) = ds:=by subst h0 h1;simp
theorem Qdv:SlR X (tPs X.K):=by
  intro pins s σ H x v vl vu lo hi sl Q I rx hs pl pu h
  obtain ⟨ρ,B,hp,d,r,hp',W,rv,e,k⟩:=h
  cases d with
  | lst ds =>
    obtain ⟨rfl,rfl⟩:=Qg e
    obtain ⟨a,xs,rfl,nb,sq,rl⟩:=rv.lstI
    exact ux pins s σ H _ v vl vu lo hi sl Q I rx hs pl pu ⟨a,xs,rfl,sq,Xx W (yC rl) k⟩
  | tup ds =>
    obtain ⟨rfl,rfl⟩:=Qg e
    obtain ⟨a,xs,rfl,nb,sq,rl⟩:=rv.tupI
    by_cases hw:HT.sIx xs.length 0 lo = 0 /\ HT.sIx xs.length xs.length hi = xs.length
    . refine Qc5 pins s σ H _ v vl vu lo hi sl Q I rx hs pl pu ⟨a,xs,rfl,sq,hw,?_⟩
      have:zY ds lo hi = ds:=by unfold zY;exact gK ds _ _ (by rw [rl.length];exact hw.1) (by rw [rl.length];exact hw.2)
      rw [this] at k
      exact k _ ρ B H Gr.refl W (Y3 nb sq rl)
    . exact Qdm pins s σ H _ v vl vu lo hi sl Q I rx hs pl pu ⟨a,xs,rfl,sq,hw,zc W (yC rl) k⟩
  | non=>cases e
  | bl _=>cases e
  | int _=>cases e
  | str _=>cases e
  | ref _=>cases e
theorem uo {lo hi:Option Expr} {ol oh:DOx} {p2:Pos} (h:DE X e f) (hl:DO X lo ol) (hh:DO X hi oh):DE X (.Subscript e (.Slice lo hi none p2) pos) (eSl f ol oh) :=
  L2.PE.imp (KF Qdv h hl hh) fun σ H Q ⟨Z,env,ρ,B,hp,d,hp',S,e,k⟩=>by
    obtain ⟨x,hp1,e1,e⟩:=Qe e
    obtain ⟨l,hp2,e2,e⟩:=Qe e
    obtain ⟨u,hp3,e3,e⟩:=Qe e
    refine tD.run S e1 fun v ρ1 B1 H1 g1 S1 r1=>tDO.run S1 e2 fun ρ2 B2 H2 g2 S2=>tDO.run S2 e3 fun ρ3 B3 H3 g3 S3=>?_
    exact ⟨ρ3,B3,hp3,x,d,hp',S3.wo,RepV.grow S1.wo.rb (g2.trans g3) _ _ r1,e,k.after (g1.trans (g2.trans g3))⟩
theorem Qef {te:TE} {p2 p3 p4:Pos} {j:Nat} (he:PE X e te):PE X (.Subscript e (.Slice none none (some (.UnaryOp .USub (.Constant (.int 1) j p4) p3)) p2) pos) (fun σ H Q=>te σ H fun x H1=>∃ a xs,x = .ref a /\ SqL X.K H1 a xs /\ ∀ p,H1 p = none -> Q (.ref p) (upd H1 p (.lst xs.reverse))):=by
  intro pins s σ H Q I h
  refine Subscript_ (thn (he pins s σ H _ I h) fun v s1 ⟨x,H1,I1,r1,q1⟩=>?_)
  obtain ⟨a,xs,rfl,sq,q⟩:=q1
  cases r1
  refine wpAny_Slice ?_
  rw [evalPart_none,evalPart_some]
  refine wpAny_pure (wpAny_pure ?_)
  refine thn ((Qc6 QaA (Qak (i:=1))) pins s1 σ H1 (fun v H'=>v = .int (-1) /\ H' = H1) I1 ⟨1,rfl,rfl,rfl⟩) fun st s2 ⟨y,H2,I2,r2,e1,e2⟩=>?_
  subst e1 e2
  obtain ⟨tk,rfl⟩:=r2
  have I4:Inv X pins σ H2 { s2 with heap:=s2.heap.push { cls:=.type "slice", data:=.fields #[.none,.none,.int (-1) tk] } }:=I2.kept (t':=s2.toks) fun b ob q=>Heap.get?_push_of_some _ q
  obtain ⟨its,r,pl,hz⟩:=I4.list sq
  have hlen:=r.length
  show wpAny (model X.prog X.w) X.A (subscriptTail e (.Slice none none (some (.UnaryOp .USub (.Constant (.int 1) j p4) p3)) p2) (.ref a) (.ref s2.heap.objs.size)) (EP X pins σ Q) X.xe { s2 with heap:=s2.heap.push { cls:=.type "slice", data:=.fields #[.none,.none,.int (-1) tk] } }
  refine tail_any (ops:=[.ref a,.ref s2.heap.objs.size]) pl.isList.typeIs slot_list_getitem.lookup (wpAny_getItem_list_slice pl.isList (Heap.IsSliceOf.new ..) .none .none (.int (-1) tk) (by decide) ?_ (by rw [List.size_toArray] <;> omega)) (by with_unfolding_all rfl)
  rw [PySem.W.krv_pick]
  refine ⟨.ref _,_,I4.laid (t':=s2.toks) (o:=.lst xs.reverse) (fun b ob q=>Heap.get?_push_of_some _ q) (Nat.le_refl _) ?_,rfl,q _ (I4.hok.fresh (Nat.le_refl _))⟩
  exact ⟨by rw [List.length_reverse];exact hz,_,0,r.reverse,Heap.get?_push_size _ rfl⟩
theorem Qet {P:Program} {w:World} {K:PySem.W.Frag} {mg:Str -> Option Value} {base:Heap} {x:Str} {stm:Stmt} {g:Addr} {fd:FuncData} {N ps:List Str} {k:Nat} {body:DSx} (F:Fun K x x stm g fd) (Sc:QG N ps (Qm stm))
    (h:∀ (cdv:Value) (A:Around) (outer:List Env) (s:Shared) (H:Hp) (E:XK),Room k (A.deeper (envOfC x (Qm stm) s.heap.objs.size g cdv)) -> DSs (yP CX0 P w K mg base N x (Qm stm) g cdv A outer s H E).nox (QC stm) body) :
    FnOk P w K mg base CX0 (k + 1) g fd ps (spD K ps.length (Zl N.length body)):=by
  refine F.ok Sc (fun vs H Q E h=>h.1) (fun cdv A outer s H vs Q E hr sp=>?_)
  obtain ⟨hn,ρ,B,hp,ds,d,hp',W,r,e,k⟩:=sp
  obtain ⟨⟨fl,env'⟩,hp1,e1,e2⟩:=Qe e
  refine ⟨_,h cdv A outer s H E hr,⟨ρ,B,H⟩,_,ρ,B,hp,fl,env',hp1,jL W r,e1,fun σ' ρ' B' H' g' S'=>?_⟩
  cases fl with
  | nx=>obtain ⟨rfl,rfl⟩:=Qg e2;exact k .non ρ' B' H' S'.gr S'.wo jF
  | rt x=>obtain ⟨rfl,rfl⟩:=Qg e2;exact fun v rv=>k v ρ' B' H' S'.gr S'.wo rv
  | bk=>cases e2
  | ct=>cases e2
theorem KD {K:PySem.W.Frag} {ρ:List Addr} {B:Addr -> Prop} {H:Hp}:∀ ns:List Int,RepL K ρ B H (ns.map DV.int) (ns.map V.int)
  | []=>RepL.nil
  | _ :: r=>RepL.cons ZG (KD r)
theorem Qel {K:PySem.W.Frag} {F:List DV -> M DV} {H:Hp} {a:Addr} {ns:List Int} {E:XK} (h:∃ hp',F [.lst (ns.map .int)] [] = some (.bl true,hp')) (hS:SqL K H a (ns.map V.int)):spD K 1 F [.ref a] H (fun v _=>v = .bl true) E:=by
  obtain ⟨hp',h⟩:=h
  refine ⟨rfl,[],fun _=>False,[],[.lst (ns.map .int)],.bl true,hp',⟨rfl,List.nodup_nil,fun i a o h=>by simp at h,fun a h=>absurd h (by simp),fun a h=>absurd h (fun z=>z),fun a h=>h.elim⟩,RepL.one (xQ (fun z=>z) hS (KD ns)),h,fun v _ _ _ _ _ r=>r.blI⟩
end
end D
namespace L2
open PySem PySem.Spec PyProof.Rows
section
variable {prog:Program} {w:World} {A:Around} {E:Value -> Shared -> Prop} {s:Shared}
theorem zj {p q:Addr} {n:Nat} {xs:Array Value} {v:Value} {Q:Value -> Shared -> Prop} (a1:s.heap.IsTupleIter p q n) (a2:s.heap.IsTuple q xs) (a3:xs[n]? = some v)
    (k:∀ g,g.IsTupleIter p q (n + 1) -> Heap.SameBut p s.heap g -> Q v { s with heap:=g }):wpAny (model prog w) A (Builtin.SmallTypes.nextOf (.ref p)) Q E s:=by
  obtain ⟨ob,b1,b2,b3⟩:=id a1
  obtain ⟨oq,b4,_,m,b5⟩:=a2
  unfold Builtin.SmallTypes.nextOf
  refine wpAny_bind (wpAny_callSpecial?_slot (name:=Str.ofString "__next__") a1.typeIs F.slot_tuple_iterator_next (wpAny_call_entry F.slot_tuple_iterator_next a1.typeIs F.entry_tuple_iterator_next ?_ (F.args_tuple_iterator_next_1 _)))
  show wpAny _ _ (field (.ref p) 0 >>= _) _ _ s
  refine wpAny_bind (wpAny_field b1 b3 (x:=.ref q) rfl ?_)
  show wpAny _ _ (if (Value.ref q == Value.none) = true then _ else _) _ _ s
  rw [if_neg (show ¬ ((Value.ref q == Value.none) = true) from Bool.false_ne_true)]
  show wpAny _ _ (field (.ref p) 1 >>= _) _ _ s
  refine wpAny_bind (wpAny_field b1 b3 (x:=.int n 0) rfl ?_)
  show wpAny _ _ (seqItems? (.ref q) >>= _) _ _ s
  refine wpAny_bind (wpAny_seqItems b4 b5 ?_)
  simp only [Int.toNat_natCast,a3]
  refine wpAny_bind (wpAny_setField b1 b3 (by simp) (wpAny_pure ⟨v,rfl,wpAny_pure (k _ ?_ (Heap.SameBut.update ..))⟩))
  exact ⟨_,Heap.get?_update_self _ b1 (Obj.isFreed_of_fields (Obj.data_mapFields b3 _)),(Obj.cls_mapFields ..).trans b2,by rw [Obj.data_mapFields b3];simp [rawInt]⟩
theorem Uc {p q:Addr} {n:Nat} {xs:Array Value} {Q:Value -> Shared -> Prop} (hh:A.handled = none) (a1:s.heap.IsTupleIter p q n) (a2:s.heap.IsTuple q xs) (a3:xs[n]? = none)
    (k:∀ g x,Heap.ExtBut p s.heap g -> (∃ o,g.get? x = some o /\ o.cls = .type "StopIteration") -> E (.ref x) { s with heap:=g }):wpAny (model prog w) A (Builtin.SmallTypes.nextOf (.ref p)) Q E s:=by
  obtain ⟨ob,b1,b2,b3⟩:=id a1
  obtain ⟨oq,b4,_,m,b5⟩:=a2
  unfold Builtin.SmallTypes.nextOf
  refine wpAny_bind (wpAny_callSpecial?_slot (name:=Str.ofString "__next__") a1.typeIs F.slot_tuple_iterator_next (wpAny_call_entry F.slot_tuple_iterator_next a1.typeIs F.entry_tuple_iterator_next ?_ (F.args_tuple_iterator_next_1 _)))
  show wpAny _ _ (field (.ref p) 0 >>= _) _ _ s
  refine wpAny_bind (wpAny_field b1 b3 (x:=.ref q) rfl ?_)
  show wpAny _ _ (if (Value.ref q == Value.none) = true then _ else _) _ _ s
  rw [if_neg (show ¬ ((Value.ref q == Value.none) = true) from Bool.false_ne_true)]
  show wpAny _ _ (field (.ref p) 1 >>= _) _ _ s
  refine wpAny_bind (wpAny_field b1 b3 (x:=.int n 0) rfl ?_)
  show wpAny _ _ (seqItems? (.ref q) >>= _) _ _ s
  refine wpAny_bind (wpAny_seqItems b4 b5 ?_)
  simp only [Int.toNat_natCast,a3]
  refine wpAny_bind (wpAny_rule (wpAny_bind (wpAny_setField b1 b3 (by simp) ?_)))
  show wpAny _ _ (newExc (.type "StopIteration") [] >>= _) _ _ _
  refine wpAny_bind ?_
  simp only [newExc,newTuple]
  refine wpAny_bind (wpAny_newObj_type ?_ (by size_fits))
  refine wpAny_bind (m:=firstArgMember _ _) (wpAny_of_eq (a:=Value.none) (by first | rfl | (simp only [firstArgMember];rfl)) ?_)
  refine wpAny_newObj_type ?_ (by size_fits)
  simp only [raiseNew]
  refine wpAny_bind (wpAny_handled ?_)
  first | rw [show A.in1.handled = none from hh] | rw [hh]
  refine wpAny_bind (wpAny_pure (wpAny_throw ?_))
  exact k _ _ (((Heap.SameBut.update ..).extBut.push _).push _) ⟨_,Heap.get?_push_size _ rfl,rfl⟩
structure ZA (z p o i j a b:Addr):Prop where
  pz:p ≠ z
  oz:o ≠ z
  iz:i ≠ z
  jz:j ≠ z
  po:p ≠ o
  pi:p ≠ i
  pj:p ≠ j
  oi:o ≠ i
  oj:o ≠ j
  ij:i ≠ j
  az:a ≠ z
  ao:a ≠ o
  ai:a ≠ i
  aj:a ≠ j
  bz:b ≠ z
  bo:b ≠ o
  bi:b ≠ i
  bj:b ≠ j
structure ZS (h:Heap) (z p o i j a b:Addr) (n:Nat) (f:Value):Prop where
  zz:IsZip h z p o f
  pp:IsPair h p (.ref i) (.ref j)
  oo:∃ x y,IsPair h o x y
  ii:h.IsTupleIter i a n
  jj:h.IsTupleIter j b n
end
end L2
namespace L2
open PySem PySem.Spec PyProof.Rows
section
variable {X:Cx} {pins:List (Addr × Obj)} {σ:L2.St} {H:Hp} {s:Shared} {h':Heap}
theorem Inv.turnL {t':Nat} {fp:List Addr} (I:Inv X pins σ H s) (hf:∀ b ∈ fp,xB X pins H b) (k:∀ b o,b ∉ fp -> s.heap.get? b = some o -> h'.get? b = some o):Inv X pins σ H { s with heap:=h',toks:=t' }:=by
  refine I.step (g':=s.gens) (d':=s.drawn) (ch:=fp) (fun b hb=>⟨(hf b hb).2.2.2.1,(hf b hb).2.1,(hf b hb).2.2.2.2.1,(hf b hb).2.2.2.2.2⟩) (fun b o _ _ hc e _=>k b o hc e) (fun b o _ _ hc e _=>⟨o.slots,k b o hc e⟩) (fun _ _ _ _ n=>n)
    (fun b o hc e=>⟨o,k b o hc e⟩) (fun _ _ e=>e) (fun _ _ _ e=>e) (fun b ps e=>⟨#[],by rw [e];simp⟩) (fun m hm=>?_) (fun b u e=>?_) I.bare
  . obtain ⟨o,es,ep,ho,r⟩:=hm
    exact ⟨o,es,ep,k _ o (fun z=>(hf _ z).2.1 rfl) ho,r⟩
  . have nf:∀ c u,H c = some u -> c ∉ fp:=fun c u q z=>by rw [(hf c z).1] at q;cases q
    refine (I.hok b u e).stay (fun c v hc q=>k c v ?_ q) (fun _ q=>q) fun _ _ q=>q
    rcases hc with z | z
    . rw [z];exact nf b u e
    . exact nf c _ z
theorem Inv.turnNew {t':Nat} {fp:List Addr} {vs:List V} {us:List Value} (I:Inv X pins σ H s) (hf:∀ b ∈ fp,xB X pins H b) (k:∀ b o,b ∉ fp -> s.heap.get? b = some o -> h'.get? b = some o)
    (hv:Vals vs us) (hz:vs.length <= sizeLine) (hT:IsTup h' s.heap.objs.size us.toArray):Inv X pins σ (upd H s.heap.objs.size (.tup vs)) { s with heap:=h',toks:=t' }:=by
  have hn:H s.heap.objs.size = none:=I.hok.fresh (Nat.le_refl _)
  refine I.step (g':=s.gens) (d':=s.drawn) (ch:=fp) (fun b hb=>⟨(hf b hb).2.2.2.1,(hf b hb).2.1,(hf b hb).2.2.2.2.1,(hf b hb).2.2.2.2.2⟩) (fun b o _ _ hc e _=>k b o hc e) (fun b o _ _ hc e _=>⟨o.slots,k b o hc e⟩)
    (fun b o _ e n=>by rw [QE (Nat.ne_of_lt (Heap.lt_size e))];exact n) (fun b o hc e=>⟨o,k b o hc e⟩) (fun b xs e=>by rw [QE (Zc e hn)];exact e) (fun b o u e=>by rw [QE (Zc e hn)];exact e) (fun b ps e=>⟨#[],by rw [QE (Zc e hn),e];simp⟩) (fun m hm=>?_) (fun b u e=>?_) I.bare
  . obtain ⟨o,es,ep,ho,r⟩:=hm
    exact ⟨o,es,ep,k _ o (fun z=>(hf _ z).2.1 rfl) ho,r⟩
  . by_cases hb:b = s.heap.objs.size
    . subst hb
      rw [QR] at e;cases e
      exact ⟨hz,us,hv,hT⟩
    . rw [QE hb] at e
      have nf:∀ c u,H c = some u -> c ∉ fp:=fun c u q z=>by rw [(hf c z).1] at q;cases q
      refine (I.hok b u e).stay (fun c v hc q=>k c v ?_ q) (fun c q=>by rw [QE (Zc q hn)];exact q) fun c xs q=>by rw [QE (Zc q hn)];exact q
      rcases hc with z | z
      . rw [z];exact nf b u e
      . exact nf c _ z
end
def Itz (K:PySem.W.Frag) (a b:Addr):It :=
  ⟨fun i H=>∃ xs ys x y,SqT K H a xs /\ SqT K H b ys /\ xs[i]? = some x /\ ys[i]? = some y,
   fun i H v H'=>∃ p x y,H p = none /\ (∀ xs,SqT K H a xs -> xs[i]? = some x) /\ (∀ ys,SqT K H b ys -> ys[i]? = some y) /\ v = .ref p /\ H' = upd H p (.tup [x,y]),
   fun i H=>∃ xs ys,SqT K H a xs /\ SqT K H b ys /\ (xs.length <= i ∨ ys.length <= i)⟩
theorem ZS.at {h h':Heap} {z p o i j a b:Addr} {n:Nat} {f:Value} (S:ZS h z p o i j a b n f) (k:∀ c ∈ [z,p,o,i,j],∀ u,h.get? c = some u -> h'.get? c = some u):ZS h' z p o i j a b n f:=by
  obtain ⟨zz,pp,⟨u1,u2,oo⟩,ii,jj⟩:=S
  exact ⟨k z (by simp) _ zz,k p (by simp) _ pp,⟨u1,u2,k o (by simp) _ oo⟩,ii.at fun u e=>k i (by simp) u e,jj.at fun u e=>k j (by simp) u e⟩
abbrev zt1 (h:Heap) (a:Addr):Heap:=h.push { cls:=.type "tuple_iterator", data:=.fields #[.ref a,.int 0 0] }
abbrev zt2 (h:Heap) (a b:Addr):Heap:=(zt1 h a).push { cls:=.type "tuple_iterator", data:=.fields #[.ref b,.int 0 0] }
abbrev zt3 (h:Heap) (a b:Addr):Heap:=(zt2 h a b).push { cls:=.type "tuple", data:=.seq #[.ref h.objs.size,.ref (zt1 h a).objs.size] }
abbrev zt4 (h:Heap) (a b:Addr):Heap:=(zt3 h a b).push { cls:=.type "tuple", data:=.seq #[.none,.none] }
abbrev zt5 (h:Heap) (a b:Addr):Heap:=(zt4 h a b).push { cls:=.type "zip", data:=.fields #[.none,.bool false,.bool false,.ref (zt2 h a b).objs.size,.ref (zt3 h a b).objs.size] }
theorem vO (a b:Addr) (xs ys:Array Value):Meets (Builtin.«zip.__new__» ⟨[.type "zip", .ref a,.ref b],[]⟩) (fun _ R s=>s.heap.IsTuple a xs /\ s.heap.IsTuple b ys /\ R (.ok (.ret (.ref (zt4 s.heap a b).objs.size))) { s with heap:=zt5 s.heap a b }) :=
  .of_wp fun prog w A R s h=>by
    obtain ⟨hp,g,d,tk,os⟩:=s;obtain ⟨q1,q2,h⟩:=h
    have hsub:=sub_zip
    have t1:Heap.IsTuple (Shared.heap ⟨hp,g,d,tk,os⟩) a xs:=q1
    have t2:Heap.IsTuple (Shared.heap ⟨hp.push { cls:=.type "tuple_iterator", data:=.fields #[.ref a,.int 0 0] },g,d,tk,os⟩) b ys:=let ⟨ob,e,r⟩:=q2;⟨ob,Heap.get?_push_of_some _ e,r⟩
    wp_walk using wpAny_pyIter_tuple t1,wpAny_pyIter_tuple t2
    exact ⟨_,rfl,h⟩
section
variable {X:Cx} {elts:List Expr} {kt:Nat} {p2:Pos}
def QeR (K:PySem.W.Frag) (ta:TA):TI:=fun σ H R=>ta σ H fun vs H1=>∃ a b xs ys,vs = [.ref a,.ref b] /\ SqT K H1 a xs /\ SqT K H1 b ys /\ R (Itz K a b) H1
end
end L2
namespace D
open PySem PySem.Spec PyProof.Rows L2
def Yw:List DV -> List DV -> List DV
  | x :: xs,y :: ys=>.tup [x,y] :: Yw xs ys
  | _,_=>[]
theorem jH:∀ {xs ys:List DV} {i:Nat} {d:DV},(Yw xs ys)[i]? = some d -> ∃ x y,xs[i]? = some x /\ ys[i]? = some y /\ d = .tup [x,y]
  | x :: xs,y :: ys,0,d,h=>by simp [Yw] at h;exact ⟨x,y,rfl,rfl,h.symm⟩
  | x :: xs,y :: ys,i + 1,d,h=>by
    obtain ⟨a,b,h1,h2,h3⟩:=jH (xs:=xs) (ys:=ys) (i:=i) (by simpa [Yw] using h)
    exact ⟨a,b,by simpa using h1,by simpa using h2,h3⟩
  | [],_,_,_,h=>by simp [Yw] at h
  | _ :: _,[],_,_,h=>by simp [Yw] at h
theorem jr:∀ (xs ys:List DV),(Yw xs ys).length = min xs.length ys.length
  | x :: xs,y :: ys=>by simp only [Yw,List.length_cons,jr xs ys];omega
  | [],_=>by simp [Yw]
  | _ :: _,[]=>by simp [Yw]
def Qab (f g:DEx):DIx:=fun env=>do
  let x <- f env
  let xs <- kI x
  let y <- g env
  let ys <- kI y
  pure (Yw xs ys)
theorem Qdt {K:PySem.W.Frag} {ρ:List Addr} {B:Addr -> Prop} {H:Hp} {ds es:List DV} {a b:Addr} {xs ys:List V} (na:¬ B a) (qa:SqT K H a xs) (ra:RepL K ρ B H ds xs) (nb:¬ B b) (qb:SqT K H b ys) (rb:RepL K ρ B H es ys):vK K ρ B H (Yw ds es) (Itz K a b):=fun ρ1 B1 H1 g r1 t1=>by
  have qa1:=g.sqT na qa
  have qb1:=g.sqT nb qb
  have ra1:=RepL.gs g _ _ ra
  have rb1:=RepL.gs g _ _ rb
  refine ⟨fun i d e=>?_,xs,ys,qa1,qb1,?_⟩
  . obtain ⟨x,y,h1,h2,rfl⟩:=jH e
    obtain ⟨u,hu,ru⟩:=ra1.get h1
    obtain ⟨v,hv,rv⟩:=rb1.get h2
    refine ⟨⟨xs,ys,u,v,qa1,qb1,hu,hv⟩,fun z H' ⟨p,u',v',hn,h3,h4,e1,e2⟩=>?_⟩
    subst e1 e2
    have e3:=h3 xs qa1
    have e4:=h4 ys qb1
    rw [hu] at e3;cases e3
    rw [hv] at e4;cases e4
    refine ⟨Y3 (fun z=>t1 p z hn) (SqT.of QR) (RepL.gs (vq r1 hn) _ _ (RepL.cons ru (RepL.one rv))),.inr ⟨p,_,hn,rfl⟩⟩
  . rw [jr,ra1.length,rb1.length]
    rcases Nat.le_total xs.length ys.length with q | q
    . exact .inl (by rw [Nat.min_eq_left q];exact Nat.le_refl _)
    . exact .inr (by rw [Nat.min_eq_right q];exact Nat.le_refl _)
section
variable {X:Cx} {elts:List Expr} {kt:Nat} {p2:Pos} {f g:DEx}
def zp (f:DEx) (g:DGx):DSx:=fun env=>do let d <- f env;let env' <- g d env;pure (.nx,env')
theorem US {tg e:Expr} {g:DGx} {pos:Pos} (he:DE X e f) (hg:PG X tg (tDG X.K g)) (hs:swapsWithSole [tg] e pos.line X.env = pure false:=by rfl) (hw:swappedStores [tg] e X.env = pure none:=by rfl)
    (h1:(assignEach [tg] X.env).map (·.2) = [assign tg X.env]:=by rfl):DS X (.Assign [tg] e pos) (zp f g) :=
  L2.PS.imp (QdP he hg hs hw h1) fun D σ H ⟨Z,env,ρ,B,hp,fl,env',hp',S,e,k⟩=>by
    obtain ⟨d,hp1,e1,e⟩:=Qe e
    obtain ⟨env1,hp2,e2,e⟩:=Qe e
    obtain ⟨z,rfl⟩:=Qg e;cases z
    exact tD.run S e1 fun v ρ1 B1 H1 g1 S1 r1=>⟨Z,env,ρ1,B1,hp1,d,env',hp2,S1,r1,e2,fun σ' ρ' B' H' g' S'=>k σ' ρ' B' H' ((g1.gs S.wo.rb).trans g') S'⟩
end
end D
namespace D
open PySem PySem.Spec PyProof.Rows L2
theorem Kt {b:DV -> DSx} (I:Nat -> En -> Prop):∀ (ds:List DV) (k:Nat) (env:En),I k env -> (∀ (i:Nat) d,ds[i]? = some d -> ∀ env,I (k + i) env -> ∃ env',b d env = pure (.nx,env') /\ I (k + i + 1) env') -> ∃ env',XG b ds env = pure (.nx,env') /\ I (k + ds.length) env'
  | [],k,env,h,_=>⟨env,rfl,h⟩
  | d :: ds,k,env,h,hs=>by
    obtain ⟨env1,e1,h1⟩:=hs 0 d rfl env h
    obtain ⟨env2,e2,h2⟩:=Kt I ds (k + 1) env1 h1 fun i d' hd env' h'=>by
      have:=hs (i + 1) d' (by simpa using hd) env' (by rw [show k + (i + 1) = k + 1 + i by omega];exact h')
      rw [show k + (i + 1) + 1 = k + 1 + i + 1 by omega] at this
      exact this
    refine ⟨env2,?_,by rw [List.length_cons,show k + (ds.length + 1) = k + 1 + ds.length by omega];exact h2⟩
    rw [XG,e1,pure_bind]
    exact e2
theorem Y0 {lo:Int} {n i:Nat} {d:DV} (h:(QN lo n)[i]? = some d):i < n /\ d = .int (lo + i):=by
  have hi:i < n:=by have:=(List.getElem?_eq_some_iff.mp h).1;simpa [QN] using this
  refine ⟨hi,?_⟩
  simp [QN,hi] at h
  exact h.symm
theorem Jo (lo:Int) (n:Nat):(QN lo n).length = n:=by simp [QN]
theorem vo {b:DV -> DSx} (I:Nat -> En -> Prop) (lo:Int) (n:Nat) (env:En) (h:I 0 env) (hs:∀ (i:Nat),i < n -> ∀ env,I i env -> ∃ env',b (.int (lo + i)) env = pure (.nx,env') /\ I (i + 1) env'):∃ env',XG b (QN lo n) env = pure (.nx,env') /\ I n env':=by
  obtain ⟨env',e,h'⟩:=Kt I (QN lo n) 0 env h fun i d hd env hi=>by
    obtain ⟨h1,rfl⟩:=Y0 hd
    rw [Nat.zero_add] at hi ⊢
    exact hs i h1 env hi
  exact ⟨env',e,by rw [Jo,Nat.zero_add] at h';exact h'⟩
theorem xK (i:Int):okP (.int i) = true:=by rfl
theorem Qa1 (b:Bool):okP (.bl b) = true:=by cases b <;> rfl
theorem vQ (i j:Int):PyData.eqv (.int i) (.int j) = (i == j):=rfl
theorem ZV (i j:Int):eqD (.int i) (.int j) = pure (.bl (i == j)):=by
  simp only [eqD,xK,Bool.and_self,QA,if_true,pure_bind,toP,vQ]
theorem XE (i j:Int):neD (.int i) (.int j) = pure (.bl (!(i == j))):=by
  simp only [neD,xK,Bool.and_self,QA,if_true,pure_bind,toP,vQ]
theorem QdX {α:Type} {xs:List α} {i:Int} (h0:0 <= i) (h1:i < xs.length):atI xs i = xs[i.toNat]?:=by
  unfold atI ixN
  rw [if_pos h0,if_pos h1];rfl
def opt:Option Int -> DV
  | none=>.non
  | some i=>.int i
end D
namespace D
open PySem PySem.Spec PyProof.Rows L2
theorem Kr {b:DV -> DSx} (I:Nat -> En -> Prop) (n:Nat) (env:En) (h:I 0 env) (hs:∀ (i:Nat),i < n -> ∀ env,I i env -> ∃ env',b (.int (i:Int)) env = pure (.nx,env') /\ I (i + 1) env'):∃ env',XG b (QN 0 n) env = pure (.nx,env') /\ I n env' :=
  vo I 0 n env h fun i hi env h'=>by rw [Int.zero_add];exact hs i hi env h'
theorem ZC (x y:Int) (h:0 < y):Z2 (.int x) (.int y) = pure (.int (x % y)):=by simp [Z2,qt,QeD,h]
theorem KI (x y:Int) (h:0 < y) (h':y < 1073741824):gH (.int x) (.int y) = pure (.int (x / y)):=by simp [gH,qt,QeK,h,h']
theorem X3 (x y:Int) (h:-(2 ^ 64) < x) (h':x < 2 ^ 64):JT (.int x) (.int y) = pure (.int (x * y)):=by
  simp only [JT,qt,QdO,decide_eq_true (Or.inl (b:=(-(2 ^ 64) < y /\ y < 2 ^ 64)) (And.intro h h')),if_true]
theorem vv (x y:Int) (h:-(2 ^ 64) < y) (h':y < 2 ^ 64):JT (.int x) (.int y) = pure (.int (x * y)):=by
  simp only [JT,qt,QdO,decide_eq_true (Or.inr (a:=(-(2 ^ 64) < x /\ x < 2 ^ 64)) (And.intro h h')),if_true]
theorem ZY (x y:Int):Zb (.int x) (.int y) = pure (.int (x + y)):=rfl
theorem Jh (x y:Int):XW (.int x) (.int y) = pure (.int (x - y)):=rfl
theorem XA (x y:Int):gtD (.int x) (.int y) = pure (.bl (decide (y < x))):=rfl
theorem Xc (x y:Int):ltD (.int x) (.int y) = pure (.bl (decide (x < y))):=rfl
theorem Xb (x y:Int):leD (.int x) (.int y) = pure (.bl (decide (x <= y))):=rfl
theorem XH (x y:Int):geD (.int x) (.int y) = pure (.bl (decide (y <= x))):=rfl
theorem JS (x:Int):Qfe (.int x) = pure (.int (-x)):=rfl
theorem Yx:Yt (.int 10) (.int 30) = pure (.int 1000000000000000000000000000000):=rfl
theorem jB:Yt (.int 10) (.int 21) = pure (.int 1000000000000000000000):=rfl
theorem Uo:Yt (.int 10) (.int 9) = pure (.int 1000000000):=rfl
theorem K8 {m:Int} (h0:0 <= m) (h1:m <= 1000000):X7 m = true:=decide_eq_true ⟨by omega,by omega⟩
theorem Xy (x y:Int) (h:0 < y):0 <= x % y /\ x % y < y:=⟨Int.emod_nonneg _ (by omega),Int.emod_lt_of_pos _ h⟩
end D
namespace D
open PySem PySem.Spec PyProof.Rows L2
theorem GA {f:DAx} {g:DGx} {body:DSx} {env:En} {m:Int} (hf:f env = pure [.int m]) (h0:0 <= m) (h1:m <= 1000000):jP (Vn f) g body env = XG (fun d env=>do let env' <- g d env;body env') (QN 0 m.toNat) env:=by
  simp only [jP,Vn,hf,pure_bind,GR,K8 h0 h1,QA,if_true]
theorem j2 {ds:List DV} (h:ds.length <= 100000):Xs ds = true:=decide_eq_true h
theorem Zy {f g:DSx} {env env1:En} (h:f env = pure (.nx,env1)):Qy f g env = g env1:=by simp only [Qy,h,pure_bind]
theorem uv {f g:DSx} {env env1:En} {d:DV} (h:f env = pure (.rt d,env1)):Qy f g env = pure (.rt d,env1):=by simp only [Qy,h,pure_bind]
theorem JJ {i:Nat} {f:DEx} {env:En} {d:DV} (h:f env = pure d):QP i f env = pure (.nx,env.set i (.val d)):=by simp only [QP,h,pure_bind]
theorem vV {c:DTx} {f g:DSx} {env:En} (h:c env = pure true):sIf c f g env = f env:=by simp only [sIf,h,pure_bind,if_true]
theorem vP {c:DTx} {f g:DSx} {env:En} (h:c env = pure false):sIf c f g env = g env:=by simp only [sIf,h,pure_bind,Bool.false_eq_true,if_false]
theorem Yb {f:DEx} {env:En} {d:DV} (h:f env = pure d):Q9 f env = pure (.rt d,env):=by simp only [Q9,h,pure_bind]
theorem qh {n:Nat} {body:DSx} {ds:List DV} {d:DV} {env:En} (h:body (ds.map .val ++ List.replicate (n - ds.length) .un) = pure (.rt d,env)):Zl n body ds = pure d:=by simp only [Zl,h,pure_bind]
theorem VN {f:DEx} {env:En} {b:Bool} (h:f env = pure (.bl b)):eB f env = pure b:=by simp only [eB,h,pure_bind,asB]
theorem Qw {g:DV -> DV -> M DV} {f f':DEx} {env:En} {x y d:DV} (h:f env = pure x) (h':f' env = pure y) (hg:g x y = pure d):Qh g f f' env = pure d:=by simp only [Qh,h,h',pure_bind,hg]
theorem Y7 {F:List DV -> M DV} {f f':DEx} {env:En} {x y d:DV} (h:f env = pure x) (h':f' env = pure y) (hF:F [x,y] = pure d):Qt 2 F (Qb f (Qb f' Qk)) env = pure d:=by simp [Qt,Qb,Qk,h,h',QA,hF]
end D
namespace D
open PySem PySem.Spec PyProof.Rows L2
section
variable {K:PySem.W.Frag} {ρ:List Addr} {B:Addr -> Prop} {hp:Hs} {H:Hp}
theorem Gr.wnew {p:Addr} {o:HO} (h:H p = none) (kf:K.lookup p = none):Gr K ρ B H (ρ ++ [p]) (zr B p) (upd H p o) where
  pre:=List.prefix_append _ _
  ban:=fun _ h=>.inl h
  new:=fun a z=>z.elim .inl fun e=>.inr (e ▸ ⟨h,kf⟩)
  rnew:=fun a z=>(List.mem_append.mp z).elim .inl fun q=>.inr (by rw [List.mem_singleton.mp q];exact h)
  keep:=fun a u _ q=>by rw [QE (Zc q h)];exact q
  trk:=(Gr.laid (K:=K) (ρ:=ρ) (B:=B) h).trk
theorem WOk.wnew {p:Addr} {o:HO} {v:OV} (W:WOk K ρ B hp H) (h:H p = none) (kf:K.lookup p = none) (hv:ORep K (ρ ++ [p]) (zr B p) (upd H p o) p v):WOk K (ρ ++ [p]) (zr B p) (hp ++ [v]) (upd H p o) where
  len:=by simp [W.len]
  nd:=List.nodup_append.mpr ⟨W.nd,by simp,fun a ha b hb=>by rw [List.mem_singleton.mp hb];exact fun z=>W.bt a (W.rb a ha) (z ▸ h)⟩
  obj:=fun i a u e q=>by
    by_cases hi:i < ρ.length
    . rw [List.getElem?_append_left hi] at e
      rw [List.getElem?_append_left (by rw [<- W.len];exact hi)] at q
      exact ORep.gs ((Gr.wnew h kf).gs W.rb) (QE (fun z=>W.bt a (W.rb a (List.mem_of_getElem? e)) (z ▸ h))) (W.obj i a u e q)
    . rw [List.getElem?_append_right (by omega)] at e
      rw [List.getElem?_append_right (by rw [<- W.len];omega)] at q
      have hi0:i - ρ.length = 0:=by
        have:=(List.getElem?_eq_some_iff.mp e).1
        simp at this;omega
      rw [hi0] at e
      rw [<- W.len,hi0] at q
      simp at e q
      subst e q
      exact hv
  rb:=fun a z=>(List.mem_append.mp z).elim (fun q=>.inl (W.rb a q)) fun q=>.inr (List.mem_singleton.mp q)
  bt:=fun a z q=>by
    have q':=(Gr.laid (K:=K) (ρ:=ρ) (B:=B) h).trk a q
    rcases z with z | rfl
    . exact W.bt a z q'
    . rw [QR] at q;cases q
  bk:=fun a z=>z.elim (W.bk a) fun e=>e ▸ kf
theorem Gr.wset {i:Nat} {a:Addr} {o o':HO} (ha:ρ[i]? = some a) (h:H a = some o):Gr K ρ B H ρ B (upd H a o') where
  pre:=List.prefix_rfl
  ban:=fun _ h=>h
  new:=fun _ h=>.inl h
  rnew:=fun _ h=>.inl h
  keep:=fun b u nb q=>by rw [QE (show b ≠ a from fun z=>nb (by rw [z];exact List.mem_of_getElem? ha))];exact q
  trk:=fun b q=>by
    by_cases e:b = a
    . subst e;rw [QR] at q;cases q
    . rw [QE e] at q;exact q
theorem WOk.wset {i:Nat} {a:Addr} {o o':HO} {v:OV} (W:WOk K ρ B hp H) (ha:ρ[i]? = some a) (h:H a = some o) (hv:ORep K ρ B (upd H a o') a v):WOk K ρ B (hp.set i v) (upd H a o') where
  len:=by simp [W.len]
  nd:=W.nd
  obj:=fun j b u e q=>by
    by_cases hj:j = i
    . subst hj
      rw [ha] at e;cases e
      have hl:j < hp.length:=by rw [<- W.len];exact (List.getElem?_eq_some_iff.mp ha).1
      rw [List.getElem?_set_self hl] at q;cases q
      exact hv
    . rw [List.getElem?_set_ne (Ne.symm hj)] at q
      have hb:b ≠ a:=fun z=>hj (by
        subst z
        exact (List.getElem?_inj (List.getElem?_eq_some_iff.mp e).1 W.nd).mp (e.trans ha.symm))
      exact ORep.gs ((Gr.wset ha h).gs W.rb) (QE hb) (W.obj j b u e q)
  rb:=W.rb
  bt:=fun b z q=>W.bt b z ((Gr.wset (K:=K) (B:=B) ha h).trk b q)
  bk:=W.bk
end
section
variable {X:Cx} {e a b c:Expr} {f fa fb fc:DEx} {pos:Pos}
def Y9 (o:OV):M DV:=fun h=>some (.ref h.length,h ++ [o])
def Zi (i:Nat):M OV:=fun h=>match h[i]? with
  | some o=>some (o,h)
  | none=>none
def jX (i:Nat) (o:OV):M Unit:=fun h=>some ((),h.set i o)
theorem Zo {i:Nat} {o:OV} {hp hp':Hs} (h:Zi i hp = some (o,hp')):hp[i]? = some o /\ hp = hp':=by
  unfold Zi at h
  cases q:hp[i]? with
  | none=>rw [q] at h;cases h
  | some z=>rw [q] at h;cases h;exact ⟨rfl,rfl⟩
def JR (f:DAx):DEx:=fun env=>do let ds <- f env;QA (Xs ds);Y9 (.lst ds)
theorem Qc3 {K:PySem.W.Frag} {ρ:List Addr} {B:Addr -> Prop} {H:Hp} {hp:Hs} {ds:List DV} {xs:List V} {Q:VK} (W:WOk K ρ B hp H) (r:RepL K ρ B H ds xs) (k:Fol K ρ B H (.ref hp.length) (hp ++ [.lst ds]) Q):∀ p,H p = none -> KN K (upd H p (.lst xs)) -> Q (.ref p) (upd H p (.lst xs)):=fun p hp' kf=>by
  have kp:=kf p _ QR
  have g:Gr K ρ B H (ρ ++ [p]) (zr B p) (upd H p (.lst xs)):=Gr.wnew hp' kp
  refine k _ _ _ _ g (W.wnew hp' kp ⟨xs,QR,RepL.grow W.rb g _ _ r⟩) ?_
  unfold RepV
  exact ⟨p,rfl,by rw [<- W.len];simp⟩
theorem Xe {es:List Expr} {f:DAx} (h:DA X es f):DE X (.List es pos) (JR f) :=
  L2.PE.imp (vn h).kf fun σ H Q ⟨Z,env,ρ,B,hp,d,hp',S,e,k⟩=>by
    obtain ⟨xs,hp1,e1,e2⟩:=Qe e
    obtain ⟨_,hp2,e3,e4⟩:=Qe e2
    obtain ⟨hs,rfl⟩:=QB e3
    cases e4
    exact tDA.run S e1 fun vs ρ1 B1 H1 g1 S1 r1=>⟨by rw [<- r1.length];exact qN hs,Qc3 S1.wo r1 (k.after g1)⟩
theorem RepV.refW {K:PySem.W.Frag} {ρ:List Addr} {B:Addr -> Prop} {H:Hp} {hp:Hs} {i:Nat} {o:OV} {v:V} (W:WOk K ρ B hp H) (r:RepV K ρ B H (.ref i) v) (h:hp[i]? = some o):∃ a,v = .ref a /\ ρ[i]? = some a /\ ORep K ρ B H a o:=by
  obtain ⟨a,rfl,e⟩:=r.refI
  exact ⟨a,rfl,e,W.obj i a o e h⟩
def ixW:DV -> DV -> M DV
  | .ref n,.int i=>do
    match <- Zi n with
    | .lst ds=>match atI ds i with
      | some d=>pure d
      | none=>failure
    | _=>failure
  | x,y=>ixD x y
def UY:List DV -> M DV
  | [.ref n]=>do
    match <- Zi n with
    | .lst ds=>pure (.tup ds)
    | _=>failure
  | xs=>Qdp xs
theorem yG:CallR X (.type "tuple") (tPn X.K UY):=by
  intro pins s σ H xs us Q I r h
  obtain ⟨ρ,B,hp,ds,d,hp',W,rl,e,k⟩:=h
  unfold UY at e
  split at e
  . rename_i n
    obtain ⟨o,hp1,e1,e2⟩:=Qe e
    obtain ⟨e3,rfl⟩:=Zo e1
    cases o with
    | dic _=>cases e2
    | ins _ _=>cases e2
    | lst zs =>
      obtain ⟨rfl,rfl⟩:=Qg e2
      obtain ⟨v,rfl,rv⟩:=rl.oneI
      obtain ⟨a,rfl,_,ys,h1,l1⟩:=RepV.refW W rv e3
      exact Yq pins s σ H _ us Q I r ⟨a,ys,rfl,.inl ⟨SqL.of h1,zc W l1 k⟩⟩
  . exact Qck pins s σ H xs us Q I r ⟨ρ,B,hp,_,d,hp',W,rl,e,k⟩
end
end D
namespace D
open PySem PySem.Spec PyProof.Rows L2
end D
namespace D
open PySem PySem.Spec PyProof.Rows L2
def Runs {α:Type} (m:M α) (x:α):Prop:=∀ hp,∃ hp',m hp = some (x,hp')
theorem Runs.pure {α:Type} (x:α):Runs (pure x:M α) x:=fun hp=>⟨hp,rfl⟩
theorem Runs.of {α:Type} {m:M α} {x:α} (h:m = Pure.pure x):Runs m x:=h ▸ Runs.pure x
theorem Runs.bind {α β:Type} {m:M α} {k:α -> M β} {x:α} {y:β} (h:Runs m x) (h':Runs (k x) y):Runs (m >>= k) y:=fun hp=>by
  obtain ⟨hp1,e1⟩:=h hp
  obtain ⟨hp2,e2⟩:=h' hp1
  refine ⟨hp2,?_⟩
  show (m hp).bind (fun p=>k p.1 p.2) = _
  rw [e1];exact e2
section
variable {f g:DSx} {env env1 env2:En} {c ca cb:DTx} {e fa fb:DEx} {d x y:DV} {r:Fl × En}
end
theorem vE {b:DV -> DSx} (I:Nat -> En -> Hs -> Prop):∀ (ds:List DV) (k:Nat) (env:En) (hp:Hs),I k env hp -> (∀ (i:Nat) d,ds[i]? = some d -> ∀ env hp,I (k + i) env hp -> ∃ env' hp',b d env hp = some ((.nx,env'),hp') /\ I (k + i + 1) env' hp') -> ∃ env' hp',XG b ds env hp = some ((.nx,env'),hp') /\ I (k + ds.length) env' hp'
  | [],k,env,hp,h,_=>⟨env,hp,rfl,h⟩
  | d :: ds,k,env,hp,h,hs=>by
    obtain ⟨env1,hp1,e1,h1⟩:=hs 0 d rfl env hp h
    obtain ⟨env2,hp2,e2,h2⟩:=vE I ds (k + 1) env1 hp1 h1 fun i d' hd env' hp' h'=>by
      have:=hs (i + 1) d' (by simpa using hd) env' hp' (by rw [show k + (i + 1) = k + 1 + i by omega];exact h')
      rw [show k + (i + 1) + 1 = k + 1 + i + 1 by omega] at this
      exact this
    refine ⟨env2,hp2,?_,by rw [List.length_cons,show k + (ds.length + 1) = k + 1 + ds.length by omega];exact h2⟩
    show (b d env hp).bind _ = _
    rw [e1]
    exact e2
theorem xo {b:DV -> DSx} (I:Nat -> En -> Hs -> Prop) (n:Nat) (env:En) (hp:Hs) (h:I 0 env hp) (hs:∀ (i:Nat),i < n -> ∀ env hp,I i env hp -> ∃ env' hp',b (.int (i:Int)) env hp = some ((.nx,env'),hp') /\ I (i + 1) env' hp'):∃ env' hp',XG b (QN 0 n) env hp = some ((.nx,env'),hp') /\ I n env' hp':=by
  obtain ⟨env',hp',e,h'⟩:=vE I (QN 0 n) 0 env hp h fun i d hd env hp hi=>by
    obtain ⟨h1,rfl⟩:=Y0 hd
    rw [Nat.zero_add] at hi ⊢
    rw [Int.zero_add]
    exact hs i h1 env hp hi
  exact ⟨env',hp',e,by rw [Jo,Nat.zero_add] at h';exact h'⟩
theorem Qf {α β:Type} {m:M α} {k:α -> M β} {x:α} {hp hp1:Hs} (h:m hp = some (x,hp1)):(m >>= k) hp = k x hp1:=by
  show (m hp).bind (fun p=>k p.1 p.2) = _
  rw [h];rfl
theorem Qo {f g:DSx} {env env1:En} {hp hp1:Hs} (h:f env hp = some ((.nx,env1),hp1)):Qy f g env hp = g env1 hp1:=Qf h
theorem Qs {i:Nat} {f:DEx} {env:En} {d:DV} {hp hp1:Hs} (h:f env hp = some (d,hp1)):QP i f env hp = some ((.nx,env.set i (.val d)),hp1):=Qf h
theorem Qc4 {ds:List DV} {i:Int} {d:DV} (h:atI ds i = some d):ixD (.lst ds) (.int i) = pure d:=by simp only [ixD,h]
theorem y0 (ds:List DV) (m:Nat):D.zY ds (some (m:Int)) none = ds.drop m:=by
  unfold D.zY
  rw [HT.sIx_nat]
  show (ds.drop (min m ds.length)).take (ds.length - min m ds.length) = ds.drop m
  rcases Nat.le_total m ds.length with h | h
  . rw [Nat.min_eq_left h,List.take_of_length_le (by simp)]
  . rw [Nat.min_eq_right h,List.drop_of_length_le h,List.drop_of_length_le (Nat.le_refl _)]
    simp
end D
namespace L2
open PySem PySem.Spec PyProof.Rows
section
variable {X:Cx}
def Qfy:R2:=fun x y H Q=>∃ a kvs k v,x = .ref a /\ y = kV k /\ H a = some (.dK kvs) /\ qu kvs k = some v /\ Q v H
theorem Qcc (hu:X.A.units + 1 < cLine):IxR X Qfy:=by
  intro value slice pins s σ H x y v u Q I rx ry h hs
  obtain ⟨a,kvs,k,z,rfl,rfl,hH,hv,q⟩:=h
  cases rx
  have g:DGet H a (kV k) (some z):=hv ▸ DGet.k hH
  exact tail_any (KU I g) PySem.F.slot_dict_getitem.lookup (gg hu I g ry fun w' s' I' rw'=>⟨z,H,I',rw',q⟩) hs
theorem Vs (hu:X.A.units + 1 < cLine):OpR X (compareOp .NotIn) (fun x y H Q=>∃ a kvs k,y = .ref a /\ x = kV k /\ H a = some (.dK kvs) /\ Q (.bl (!(qu kvs k).isSome)) H):=by
  intro pins s σ H x y v u Q I rx ry h
  obtain ⟨a,kvs,k,rfl,rfl,hH,q⟩:=h
  cases ry
  exact QcM hu I (DGet.k hH) rx fun s' I'=>⟨.bl _,H,I',rfl,q⟩
def Qfb:V -> V -> V -> Hp -> (Hp -> Prop) -> Prop:=fun o i v H Q=>∃ a kvs k,o = .ref a /\ i = kV k /\ H a = some (.dK kvs) /\ kvs.length < sizeLine /\ Q (upd H a (.dK (jc kvs k v)))
theorem Qah (hu:X.A.units + 1 < cLine):QcA X Qfb:=fun pins s σ H o i v ov iv u Q I ro ri rv h=>by
  obtain ⟨a,kvs,k,rfl,rfl,hH,hl,q⟩:=h
  cases ro
  exact gX hu I (DPut.k hH hl) ri rv fun s' I'=>⟨_,I',q⟩
def QeU (n:Nat) (i:Int):Nat:=if i < 0 then (i + (n:Int)).toNat else min i.toNat n
end
end L2
namespace D
open PySem PySem.Spec PyProof.Rows L2
def xy:DV -> Option Key
  | .int i=>some (.inl i)
  | .str x=>some (.inr x)
  | _=>none
def XC (kvs:List (Key × DV)) (k:Key):Option DV:=(kvs.find? fun kv=>decide (kv.1 = k)).map (·.2)
def Yl (kvs:List (Key × DV)) (k:Key) (d:DV):List (Key × DV) :=
  if (kvs.any fun kv=>decide (kv.1 = k)) = true then kvs.map (fun kv=>if kv.1 = k then (kv.1,d) else kv) else kvs ++ [(k,d)]
def vZ (kvs:List (Key × DV)) (k:Key):List (Key × DV):=kvs.filter fun kv=>decide (kv.1 ≠ k)
section
variable {K:PySem.W.Frag} {ρ:List Addr} {B:Addr -> Prop} {H:Hp} {hp:Hs}
theorem yI {d:DV} {k:Key} {v:V} (h:xy d = some k) (r:RepV K ρ B H d v):v = kV k:=by
  cases d <;> simp [xy] at h <;> subst h
  . exact r.intI
  . exact r.strI
abbrev RepK (K:PySem.W.Frag) (ρ:List Addr) (B:Addr -> Prop) (H:Hp):List (Key × DV) -> List (Key × V) -> Prop:=Paired fun p q=>p.1 = q.1 /\ RepV K ρ B H p.2 q.2
theorem vT:∀ {kvs:List (Key × DV)} {xs:List (Key × V)},xs.map (·.1) = kvs.map (·.1) -> RepL K ρ B H (kvs.map (·.2)) (xs.map (·.2)) -> RepK K ρ B H kvs xs
  | [],[],_,_=>.nil
  | [],_ :: _,e,_=>by simp at e
  | _ :: _,[],e,_=>by simp at e
  | p :: kvs,q :: xs,e,r=>by
    simp only [List.map_cons,List.cons.injEq] at e
    simp only [List.map_cons] at r
    unfold RepL at r
    obtain ⟨x,t,e2,h1,h2⟩:=r
    simp only [List.cons.injEq] at e2
    obtain ⟨rfl,rfl⟩:=e2
    exact .cons ⟨e.1.symm,h1⟩ (vT e.2 h2)
theorem RepK.to {kvs:List (Key × DV)} {xs:List (Key × V)} (r:RepK K ρ B H kvs xs):xs.map (·.1) = kvs.map (·.1) /\ RepL K ρ B H (kvs.map (·.2)) (xs.map (·.2)):=by
  induction r with
  | nil=>exact ⟨rfl,RepL.nil⟩
  | cons h _ ih=>exact ⟨by simp [ih.1,h.1],by simpa using RepL.cons h.2 ih.2⟩
theorem RepK.val {kvs:List (Key × DV)} {xs:List (Key × V)} (r:RepK K ρ B H kvs xs) (k:Key):(XC kvs k = none /\ qu xs k = none) ∨ ∃ d v,XC kvs k = some d /\ qu xs k = some v /\ RepV K ρ B H d v:=by
  induction r with
  | nil=>exact .inl ⟨rfl,rfl⟩
  | @cons p q _ _ h _ ih =>
    by_cases e:p.1 = k
    . exact .inr ⟨p.2,q.2,by simp [XC,List.find?_cons,e],by simp [qu,List.find?_cons,h.1 ▸ e],h.2⟩
    . have e':¬ q.1 = k:=h.1 ▸ e
      simpa [XC,qu,List.find?_cons,e,e'] using ih
theorem RepK.any {kvs:List (Key × DV)} {xs:List (Key × V)} (r:RepK K ρ B H kvs xs) (k:Key):(kvs.any fun kv=>decide (kv.1 = k)) = xs.any fun kv=>decide (kv.1 = k):=by
  induction r with
  | nil=>rfl
  | cons h _ ih=>simp only [List.any_cons,ih,h.1]
theorem RepK.repl {kvs:List (Key × DV)} {xs:List (Key × V)} (r:RepK K ρ B H kvs xs) (k:Key) {d:DV} {v:V} (rd:RepV K ρ B H d v):RepK K ρ B H (kvs.map fun kv=>if kv.1 = k then (kv.1,d) else kv) (xs.map fun kv=>if kv.1 = k then (kv.1,v) else kv):=by
  induction r with
  | nil=>exact .nil
  | @cons p q _ _ h _ ih =>
    refine .cons ?_ ih
    dsimp only
    by_cases e:p.1 = k
    . rw [if_pos e,if_pos (h.1 ▸ e)];exact ⟨h.1,rd⟩
    . rw [if_neg e,if_neg (h.1 ▸ e)];exact h
theorem RepK.snoc {kvs:List (Key × DV)} {xs:List (Key × V)} (r:RepK K ρ B H kvs xs) {k:Key} {d:DV} {v:V} (rd:RepV K ρ B H d v):RepK K ρ B H (kvs ++ [(k,d)]) (xs ++ [(k,v)]):=by
  induction r with
  | nil=>exact .cons ⟨rfl,rd⟩ .nil
  | cons h _ ih=>exact .cons h ih
theorem RepK.put {kvs:List (Key × DV)} {xs:List (Key × V)} (r:RepK K ρ B H kvs xs) (k:Key) {d:DV} {v:V} (rd:RepV K ρ B H d v):RepK K ρ B H (Yl kvs k d) (jc xs k v):=by
  unfold Yl jc
  rw [r.any k]
  split
  . exact r.repl k rd
  . exact r.snoc rd
theorem RepK.drop {kvs:List (Key × DV)} {xs:List (Key × V)} (r:RepK K ρ B H kvs xs) (k:Key):RepK K ρ B H (vZ kvs k) (ut xs k):=by
  induction r with
  | nil=>exact .nil
  | @cons p q _ _ h _ ih =>
    unfold vZ ut at ih ⊢
    by_cases e:p.1 = k
    . have e':q.1 = k:=h.1 ▸ e
      simpa [e,e'] using ih
    . have e':¬ q.1 = k:=h.1 ▸ e
      rw [List.filter_cons_of_pos (by simpa using e),List.filter_cons_of_pos (by simpa using e')];exact .cons h ih
theorem RepK.len {kvs:List (Key × DV)} {xs:List (Key × V)} (r:RepK K ρ B H kvs xs):kvs.length = xs.length:=Paired.length r
theorem RepK.gs {ρ':List Addr} {B':Addr -> Prop} {H':Hp} {kvs:List (Key × DV)} {xs:List (Key × V)} (g:Gs K ρ B H ρ' B' H') (r:RepK K ρ B H kvs xs):RepK K ρ' B' H' kvs xs:=L2.Paired.mapP r fun _ _ h=>⟨h.1,RepV.gs g _ _ h.2⟩
theorem ORep.dic {a:Addr} {kvs:List (Key × DV)} (h:ORep K ρ B H a (.dic kvs)):∃ xs,H a = some (.dK xs) /\ RepK K ρ B H kvs xs:=by
  obtain ⟨xs,e,ek,rl⟩:=h
  exact ⟨xs,e,vT ek rl⟩
theorem RepK.orep {a:Addr} {kvs:List (Key × DV)} {xs:List (Key × V)} (r:RepK K ρ B H kvs xs) (e:H a = some (.dK xs)):ORep K ρ B H a (.dic kvs):=⟨xs,e,r.to.1,r.to.2⟩
theorem Qbf {n:Nat} {a:Addr} {xs xs':List (Key × V)} {kvs':List (Key × DV)} (W:WOk K ρ B hp H) (i:ρ[n]? = some a) (e:H a = some (.dK xs)) (r:RepK K ρ B H kvs' xs'):Gr K ρ B H ρ B (upd H a (.dK xs')) /\ WOk K ρ B (hp.set n (.dic kvs')) (upd H a (.dK xs')):=by
  have g:Gr K ρ B H ρ B (upd H a (.dK xs')):=Gr.wset i e
  exact ⟨g,W.wset (o':=.dK xs') (v:=.dic kvs') i e ((r.gs (g.gs W.rb)).orep QR)⟩
theorem yg {n:Nat} {a:Addr} {o:HO} {xs':List V} {ds':List DV} (W:WOk K ρ B hp H) (i:ρ[n]? = some a) (e:H a = some o) (r:RepL K ρ B H ds' xs'):Gr K ρ B H ρ B (upd H a (.lst xs')) /\ WOk K ρ B (hp.set n (.lst ds')) (upd H a (.lst xs')):=by
  have g:Gr K ρ B H ρ B (upd H a (.lst xs')):=Gr.wset i e
  exact ⟨g,W.wset (o':=.lst xs') (v:=.lst ds') i e ⟨xs',QR,RepL.grow W.rb g _ _ r⟩⟩
end
section
variable {X:Cx} {e a b c:Expr} {f fa fb fc:DEx} {pos:Pos}
def qP (o:Option DV):M DV:=match o with
  | some d=>pure d
  | none=>failure
theorem jR {o:Option DV} {d:DV} {hp hp':Hs} (h:qP o hp = some (d,hp')):o = some d /\ hp = hp':=by
  cases o with
  | none=>cases h
  | some z=>obtain ⟨rfl,rfl⟩:=Qg h;exact ⟨rfl,rfl⟩
def qD (d:DV):M Key:=match xy d with
  | some k=>pure k
  | none=>failure
theorem jS {d:DV} {k:Key} {hp hp':Hs} (h:qD d hp = some (k,hp')):xy d = some k /\ hp = hp':=by
  unfold qD at h
  cases q:xy d with
  | none=>rw [q] at h;cases h
  | some z=>rw [q] at h;obtain ⟨rfl,rfl⟩:=Qg h;exact ⟨rfl,rfl⟩
def ixG:DV -> DV -> M DV
  | .ref n,y=>do
    match <- Zi n with
    | .lst ds=>do let i <- asI y;qP (atI ds i)
    | .dic kvs=>do let k <- qD y;qP (XC kvs k)
    | _=>failure
  | x,y=>ixD x y
theorem QeG (hu:X.A.units + 1 < cLine):IxR X (tP2 X.K ixG):=by
  intro value slice pins s σ H x y v u Q I rx ry h hsub
  obtain ⟨ρ,B,hp,dx,dy,d,hp',W,r1,r2,e,k⟩:=h
  unfold ixG at e
  split at e
  . rename_i n
    obtain ⟨o,hp1,e1,e2⟩:=Qe e
    obtain ⟨e3,rfl⟩:=Zo e1
    obtain ⟨a,rfl,i1,ro⟩:=RepV.refW W r1 e3
    cases o with
    | ins _ _=>cases e2
    | dic kvs =>
      obtain ⟨ky,hp2,e4,e5⟩:=Qe e2
      obtain ⟨hk,rfl⟩:=jS e4
      obtain ⟨hv,rfl⟩:=jR e5
      obtain ⟨xs,h1,rk⟩:=ro.dic
      rcases rk.val ky with ⟨z,_⟩ | ⟨d',v',z,zv,rz⟩
      . rw [hv] at z;cases z
      . rw [hv] at z;cases z
        exact Qcc hu value slice pins s σ H _ _ v u Q I rx ry ⟨a,xs,ky,v',rfl,yI hk r2,h1,zv,k _ ρ B H Gr.refl W rz⟩ hsub
    | lst ds =>
      obtain ⟨i,hp2,e4,e5⟩:=Qe e2
      obtain ⟨rfl,rfl⟩:=yp e4
      obtain ⟨hv,rfl⟩:=jR e5
      obtain ⟨xs,h1,l1⟩:=ro
      obtain ⟨z,hz,rz⟩:=Uu l1 hv
      exact uJ value slice pins s σ H _ _ v u Q I rx ry ⟨a,xs,i,z,rfl,r2.intI,SqL.of h1,hz,k _ ρ B H Gr.refl W rz⟩ hsub
  . exact Qez value slice pins s σ H x y v u Q I rx ry ⟨ρ,B,hp,_,_,d,hp',W,r1,r2,e,k⟩ hsub
theorem QD (hu:X.A.units + 1 < cLine) (ha:DE X a fa) (hb:DE X b fb) (hs:UC b:=by intro _ _;rfl):DE X (.Subscript a b pos) (Qh ixG fa fb):=L2.PE.imp (Qdf (QeG hu) ha hb hs) fun _ _ _ h=>qA h
def Zd:List DV -> M DV
  | [.ref n]=>do
    match <- Zi n with
    | .lst ds=>pure (.int ds.length)
    | .dic kvs=>pure (.int kvs.length)
    | _=>failure
  | xs=>qE xs
theorem Zq:CallR X (.builtin "len") (tPn X.K Zd):=by
  intro pins s σ H xs us Q I r h
  obtain ⟨ρ,B,hp,ds,d,hp',W,rl,e,k⟩:=h
  unfold Zd at e
  split at e
  . rename_i n
    obtain ⟨o,hp1,e1,e2⟩:=Qe e
    obtain ⟨e3,rfl⟩:=Zo e1
    obtain ⟨v,rfl,rv⟩:=rl.oneI
    obtain ⟨a,rfl,_,ro⟩:=RepV.refW W rv e3
    cases o with
    | ins _ _=>cases e2
    | lst zs =>
      obtain ⟨rfl,rfl⟩:=Qg e2
      obtain ⟨ys,h1,l1⟩:=ro
      exact Y5 pins s σ H _ us Q I r ⟨a,ys,rfl,.inl (SqL.of h1),by rw [<- l1.length];exact k _ ρ B H Gr.refl W ZG⟩
    | dic kvs =>
      obtain ⟨rfl,rfl⟩:=Qg e2
      obtain ⟨ys,h1,l1⟩:=ro.dic
      exact ko pins s σ H _ us Q I r ⟨a,ys,rfl,h1,by rw [<- l1.len];exact k _ ρ B H Gr.refl W ZG⟩
  . exact kN pins s σ H xs us Q I r ⟨ρ,B,hp,_,d,hp',W,rl,e,k⟩
def Qe2:DV -> M (List DV)
  | .tup ds=>pure ds
  | .lst ds=>pure ds
  | .ref n=>do
    match <- Zi n with
    | .lst ds=>pure ds
    | _=>failure
  | _=>failure
theorem Qbn {d:DV} {ds:List DV} {hp hp':Hs} {K:PySem.W.Frag} {ρ:List Addr} {B:Addr -> Prop} {H:Hp} {v:V} (W:WOk K ρ B hp H) (r:RepV K ρ B H d v) (h:Qe2 d hp = some (ds,hp')):hp = hp' /\ ∃ p xs,v = .ref p /\ (SqL K H p xs ∨ SqT K H p xs) /\ RepL K ρ B H ds xs:=by
  cases d with
  | tup xs =>
    obtain ⟨rfl,rfl⟩:=Qg h
    obtain ⟨a,ys,rfl,_,sq,l⟩:=r.tupI
    exact ⟨rfl,a,ys,rfl,.inr sq,l⟩
  | lst xs =>
    obtain ⟨rfl,rfl⟩:=Qg h
    obtain ⟨a,ys,rfl,_,sq,l⟩:=r.lstI
    exact ⟨rfl,a,ys,rfl,.inl sq,l⟩
  | ref n =>
    obtain ⟨o,hp1,e1,e2⟩:=Qe (show (Zi n >>= fun o=>(match o with | .lst ds=>pure ds | _=>failure:M (List DV))) hp = some (ds,hp') from h)
    obtain ⟨e3,rfl⟩:=Zo e1
    cases o with
    | lst zs =>
      obtain ⟨rfl,rfl⟩:=Qg e2
      obtain ⟨a,rfl,_,ys,h1,l1⟩:=RepV.refW W r e3
      exact ⟨rfl,a,ys,rfl,.inl (SqL.of h1),l1⟩
    | dic _=>cases e2
    | ins _ _=>cases e2
  | non=>cases h
  | bl _=>cases h
  | int _=>cases h
  | str _=>cases h
def QcV (g:DV -> M DV):List DV -> M DV
  | [d]=>g d
  | _=>failure
def Qes:List DV -> M DV:=QcV fun d=>do let ds <- Qe2 d;pure (.lst ds)
theorem Vz {g:DV -> M DV} {ds:List DV} {d:DV} {hp hp':Hs} (h:QcV g ds hp = some (d,hp')):∃ x,ds = [x] /\ g x hp = some (d,hp'):=by
  unfold QcV at h
  split at h
  . exact ⟨_,rfl,h⟩
  . cases h
theorem QaY:CallR X (.type "list") (tPn X.K Qes):=by
  intro pins s σ H xs us Q I r h
  obtain ⟨ρ,B,hp,ds,d,hp',W,rl,e,k⟩:=h
  obtain ⟨x,rfl,e⟩:=Vz e
  obtain ⟨zs,hp1,e1,e2⟩:=Qe e
  obtain ⟨rfl,rfl⟩:=Qg e2
  obtain ⟨v,rfl,rv⟩:=rl.oneI
  obtain ⟨rfl,p,ys,rfl,sq,l⟩:=Qbn W rv e1
  exact V8 pins s σ H _ us Q I r ⟨p,ys,rfl,sq,Xx W l k⟩
theorem _root_.L2.CallR.kf {f:Value} {r:List V -> Hp -> VK -> Prop} (h:CallR X f r):CallR X f (fun xs H Q=>r xs H fun v H'=>KN X.K H' -> Q v H'):=by
  intro pins s σ H xs us Q I rv q
  refine thn (h pins s σ H xs us _ I rv q) fun v s' ⟨x,H',I',rx,q'⟩=>⟨x,H',I',rx,q' (Inv.kfree I')⟩
end
end D
namespace D
open PySem PySem.Spec PyProof.Rows L2
def drf:Nat -> Hs -> DV -> Option DV
  | 0,_,_=>none
  | n + 1,hp,d=>match d with
    | .ref i=>match hp[i]? with
      | some (.lst ds)=>(ds.mapM (drf n hp)).map .lst
      | _=>none
    | .tup ds=>(ds.mapM (drf n hp)).map .tup
    | .lst ds=>(ds.mapM (drf n hp)).map .lst
    | d=>some d
theorem yX {α β:Type} {f:α -> Option β} {x:α} {xs:List α} {ys:List β} (h:(x :: xs).mapM f = some ys):∃ y zs,f x = some y /\ xs.mapM f = some zs /\ ys = y :: zs:=by
  rw [List.mapM_cons] at h
  cases q:f x with
  | none=>rw [q] at h;cases h
  | some y =>
    cases q2:xs.mapM f with
    | none=>rw [q,q2] at h;cases h
    | some zs=>rw [q,q2] at h;exact ⟨y,zs,rfl,rfl,(Option.some.inj h).symm⟩
section
variable {X:Cx} {pins:List (Addr × Obj)} {σ:St} {H:Hp} {s:Shared} {ρ:List Addr} {B:Addr -> Prop} {hp:Hs}
theorem YE (I:Inv X pins σ H s) (W:WOk X.K ρ B hp H):∀ (n:Nat) (d d':DV) (v:V) (u:Value),drf n hp d = some d' -> RepV X.K ρ B H d v -> RelV v u -> ∃ as,Reads s.heap u (toP d') as
  | 0,_,_,_,_,h,_,_=>by cases h
  | n + 1,d,d',v,u,h,r,ru=>by
    have all:∀ (ds ds':List DV) (xs:List V) (us:List Value),ds.mapM (drf n hp) = some ds' -> RepL X.K ρ B H ds xs -> Vals xs us -> ∃ as,ReadsAll s.heap us (toPs ds') as:=by
      intro ds
      induction ds with
      | nil =>
        intro ds' xs us h r ru
        rw [List.mapM_nil] at h;cases h
        unfold RepL at r;subst r;cases ru
        exact ⟨[],by unfold toPs;exact .nil⟩
      | cons x ds ih =>
        intro ds' xs us h r ru
        obtain ⟨y,zs,h1,h2,rfl⟩:=yX h
        unfold RepL at r
        obtain ⟨z,t,rfl,r1,r2⟩:=r
        cases ru with
        | cons q1 q2 =>
          obtain ⟨as,a1⟩:=YE I W n x y z _ h1 r1 q1
          obtain ⟨bs,a2⟩:=ih zs t _ h2 r2 q2
          exact ⟨_,by unfold toPs;exact .cons a1 a2⟩
    have lst:∀ (ds ds':List DV) (a:Addr) (xs:List V),ds.mapM (drf n hp) = some ds' -> SqL X.K H a xs -> RepL X.K ρ B H ds xs -> ∃ as,Reads s.heap (.ref a) (toP (.lst ds')) as:=by
      intro ds ds' a xs h sq rl
      obtain ⟨its,rv,⟨o,k,e,hc,_,hd⟩,_⟩:=I.list sq
      obtain ⟨as,q⟩:=all ds ds' xs its h rl rv
      exact ⟨_,by unfold toP;exact reads_list_at e hc hd (by simpa using q)⟩
    unfold drf at h
    cases d with
    | non=>cases h;obtain rfl:=r.nonI;cases ru;exact ⟨[],by unfold toP;exact .none⟩
    | bl b=>cases h;obtain rfl:=r.blI;cases ru;exact ⟨[],by unfold toP;exact .bool b⟩
    | int i=>cases h;obtain rfl:=r.intI;obtain ⟨t,rfl⟩:=ru;exact ⟨[],by unfold toP;exact .int i t⟩
    | str x=>cases h;obtain rfl:=r.strI;obtain ⟨t,rfl⟩:=ru;exact ⟨[],by unfold toP;exact .str x t⟩
    | tup ds =>
      obtain ⟨ds',h1,rfl⟩:=Option.map_eq_some_iff.mp h
      obtain ⟨a,xs,rfl,_,sq,rl⟩:=r.tupI
      cases ru
      obtain ⟨its,rv,⟨o,e,hc,k,hd⟩,_⟩:=I.tuple sq
      obtain ⟨as,q⟩:=all ds ds' xs its h1 rl rv
      exact ⟨_,by unfold toP;exact reads_tuple_at e hc hd (by simpa using q)⟩
    | lst ds =>
      obtain ⟨ds',h1,rfl⟩:=Option.map_eq_some_iff.mp h
      obtain ⟨a,xs,rfl,_,sq,rl⟩:=r.lstI
      cases ru
      exact lst ds ds' a xs h1 sq rl
    | ref i =>
      cases q:hp[i]? with
      | none=>simp only [q] at h;cases h
      | some o =>
        simp only [q] at h
        cases o with
        | dic _=>cases h
        | ins _ _=>cases h
        | lst ds =>
          obtain ⟨ds',h1,rfl⟩:=Option.map_eq_some_iff.mp h
          obtain ⟨a,rfl,_,xs,h2,l⟩:=RepV.refW W r q
          cases ru
          exact lst ds ds' a xs h1 (SqL.of h2) l
end
def GN (d:DV):M DV:=fun hp=>(drf 40 hp d).map fun x=>(x,hp)
theorem Vv {d d':DV} {hp hp':Hs} (h:GN d hp = some (d',hp')):drf 40 hp d = some d' /\ hp = hp':=by
  obtain ⟨x,h1,h2⟩:=Option.map_eq_some_iff.mp h
  cases h2;exact ⟨h1,rfl⟩
def xI (x y:DV):M Bool:=do
  let x' <- GN x
  let y' <- GN y
  QA (SeqAt.shaped (toP x') && SeqAt.shaped (toP y'))
  pure (PyData.eqv (toP x') (toP y'))
def eqG:DV -> DV -> M DV:=fun x y=>do let b <- xI x y;pure (.bl b)
def neG:DV -> DV -> M DV:=fun x y=>do let b <- xI x y;pure (.bl (!b))
section
variable {X:Cx} {e a b c:Expr} {f fa fb fc:DEx} {ca cb:DTx} {pos:Pos}
theorem VZ {x y:DV} {k:Bool} {hp hp':Hs} (h:xI x y hp = some (k,hp')):∃ x' y',drf 40 hp x = some x' /\ drf 40 hp y = some y' /\ SeqAt.shaped (toP x') = true /\ SeqAt.shaped (toP y') = true /\ k = PyData.eqv (toP x') (toP y') /\ hp = hp':=by
  obtain ⟨x',hp1,e1,h⟩:=Qe h
  obtain ⟨y',hp2,e2,h⟩:=Qe h
  obtain ⟨_,hp3,e3,h⟩:=Qe h
  obtain ⟨q1,rfl⟩:=Vv e1
  obtain ⟨q2,rfl⟩:=Vv e2
  obtain ⟨hs,rfl⟩:=QB e3
  obtain ⟨rfl,rfl⟩:=Qg h
  rw [Bool.and_eq_true] at hs
  exact ⟨x',y',q1,q2,hs.1,hs.2,rfl,rfl⟩
theorem Gw (hu:X.A.units + 64 < cLine):P2 X (compareOp .Eq) eqG:=by
  intro pins s σ H x y v u Q I rx ry h
  obtain ⟨ρ,B,hp,dx,dy,d,hp',W,r1,r2,e,k⟩:=h
  obtain ⟨b,hp1,e1,e2⟩:=Qe e
  obtain ⟨rfl,rfl⟩:=Qg e2
  obtain ⟨x',y',q1,q2,s1,s2,rfl,rfl⟩:=VZ e1
  obtain ⟨as,a1⟩:=YE I W _ _ _ _ _ q1 r1 rx
  obtain ⟨bs,a2⟩:=YE I W _ _ _ _ _ q2 r2 ry
  exact eq_dataH a1 a2 s1 s2 hu ⟨.bl _,H,I,rfl,k _ ρ B H Gr.refl W Xi⟩
theorem zZ (hu:X.A.units + 64 < cLine):P2 X (compareOp .NotEq) neG:=by
  intro pins s σ H x y v u Q I rx ry h
  obtain ⟨ρ,B,hp,dx,dy,d,hp',W,r1,r2,e,k⟩:=h
  obtain ⟨b,hp1,e1,e2⟩:=Qe e
  obtain ⟨rfl,rfl⟩:=Qg e2
  obtain ⟨x',y',q1,q2,s1,s2,rfl,rfl⟩:=VZ e1
  obtain ⟨as,a1⟩:=YE I W _ _ _ _ _ q1 r1 rx
  obtain ⟨bs,a2⟩:=YE I W _ _ _ _ _ q2 r2 ry
  exact ne_dataH a1 a2 s1 s2 hu ⟨.bl _,H,I,rfl,k _ ρ B H Gr.refl W Xi⟩
def Jv:DV -> Bool
  | .non=>true
  | .bl _=>true
  | .int _=>true
  | .str _=>true
  | _=>false
def eqF:DV -> DV -> Bool
  | .non,.non=>true
  | .bl a,.bl b=>a == b
  | .bl a,.int b=>(if a then 1 else 0) == b
  | .int a,.bl b=>a == (if b then 1 else 0)
  | .int a,.int b=>a == b
  | .str a,.str b=>a == b
  | _,_=>false
def vOf:DV -> V
  | .non=>.non
  | .bl b=>.bl b
  | .int i=>.int i
  | .str x=>.str x
  | _=>.non
theorem ui {K:PySem.W.Frag} {ρ:List Addr} {B:Addr -> Prop} {H:Hp} {d:DV} {v:V} (h:Jv d = true) (r:RepV K ρ B H d v):v = vOf d:=by
  cases d <;> simp [Jv] at h
  . exact r.nonI
  . exact r.blI
  . exact r.intI
  . exact r.strI
theorem KW {d:DV} (h:Jv d = true):Yc (vOf d) = true:=by cases d <;> simp [Jv] at h <;> rfl
theorem QcT {d e:DV} (h:Jv d = true) (h':Jv e = true):eqV (vOf d) (vOf e) = eqF d e:=by cases d <;> simp [Jv] at h <;> cases e <;> simp [Jv] at h' <;> rfl
theorem uc {K:PySem.W.Frag} {ρ:List Addr} {B:Addr -> Prop} {H:Hp}:∀ {ds:List DV} {xs:List V},ds.all Jv = true -> RepL K ρ B H ds xs -> xs = ds.map vOf
  | [],_,_,r=>by unfold RepL at r;exact r
  | d :: ds,_,h,r=>by
    unfold RepL at r
    obtain ⟨x,t,rfl,r1,r2⟩:=r
    rw [List.all_cons,Bool.and_eq_true] at h
    rw [ui h.1 r1,uc h.2 r2];rfl
def inB (d:DV) (ds:List DV):Bool:=ds.any fun y=>eqF y d
theorem uM {d:DV} (h:Jv d = true):∀ {ds:List DV},ds.all Jv = true -> inV (vOf d) (ds.map vOf) = inB d ds
  | [],_=>rfl
  | x :: ds,h'=>by
    rw [List.all_cons,Bool.and_eq_true] at h'
    have ih:=uM h h'.2
    unfold inV inB at ih ⊢
    rw [List.map_cons,List.any_cons,List.any_cons,ih,QcT h'.1 h]
theorem KS:∀ {ds:List DV},ds.all Jv = true -> (ds.map vOf).all Yc = true
  | [],_=>rfl
  | x :: ds,h=>by
    rw [List.all_cons,Bool.and_eq_true] at h
    rw [List.map_cons,List.all_cons,KW h.1,KS h.2];rfl
def QbU (x:DV):DV -> M Bool
  | .ref n=>do
    match <- Zi n with
    | .lst ds=>do QA (Jv x && ds.all Jv);pure (inB x ds)
    | .dic kvs=>do let k <- qD x;pure (XC kvs k).isSome
    | _=>failure
  | .tup ds=>do QA (Jv x && ds.all Jv);pure (inB x ds)
  | .lst ds=>do QA (Jv x && ds.all Jv);pure (inB x ds)
  | _=>failure
def yD:DV -> DV -> M DV:=fun x y=>do let b <- QbU x y;pure (.bl (!b))
theorem G1 {x y:DV} {k:Bool} {hp hp':Hs} {K:PySem.W.Frag} {ρ:List Addr} {B:Addr -> Prop} {H:Hp} {vx vy:V} (W:WOk K ρ B hp H) (r1:RepV K ρ B H x vx) (r2:RepV K ρ B H y vy) (h:QbU x y hp = some (k,hp')):hp = hp' /\
    ((∃ p xs,vy = .ref p /\ (SqL K H p xs ∨ SqT K H p xs) /\ Yc vx = true /\ xs.all Yc = true /\ k = inV vx xs) ∨ ∃ a kvs ky,vy = .ref a /\ vx = kV ky /\ H a = some (.dK kvs) /\ k = (qu kvs ky).isSome):=by
  have seq:∀ (ds:List DV) (xs:List V) (p:Addr),(do QA (Jv x && ds.all Jv);pure (inB x ds):M Bool) hp = some (k,hp') -> RepL K ρ B H ds xs -> (SqL K H p xs ∨ SqT K H p xs) -> vy = .ref p -> hp = hp' /\ (∃ p xs,vy = .ref p /\ (SqL K H p xs ∨ SqT K H p xs) /\ Yc vx = true /\ xs.all Yc = true /\ k = inV vx xs):=by
    intro ds xs p h rl sq ev
    obtain ⟨_,hp1,e1,e2⟩:=Qe h
    obtain ⟨hs,rfl⟩:=QB e1
    obtain ⟨rfl,rfl⟩:=Qg e2
    rw [Bool.and_eq_true] at hs
    have ex:=uc hs.2 rl
    have e0:=ui hs.1 r1
    subst ex e0
    exact ⟨rfl,p,_,ev,sq,KW hs.1,KS hs.2,(uM hs.1 hs.2).symm⟩
  cases y with
  | tup ds =>
    obtain ⟨a,xs,rfl,_,sq,rl⟩:=r2.tupI
    exact (seq ds xs a h rl (.inr sq) rfl).imp id .inl
  | lst ds =>
    obtain ⟨a,xs,rfl,_,sq,rl⟩:=r2.lstI
    exact (seq ds xs a h rl (.inl sq) rfl).imp id .inl
  | ref n =>
    obtain ⟨o,hp1,e1,e2⟩:=Qe h
    obtain ⟨e3,rfl⟩:=Zo e1
    obtain ⟨a,rfl,_,ro⟩:=RepV.refW W r2 e3
    cases o with
    | lst ds =>
      obtain ⟨xs,h1,rl⟩:=ro
      exact (seq ds xs a e2 rl (.inl (SqL.of h1)) rfl).imp id .inl
    | dic kvs =>
      obtain ⟨ky,hp2,e4,e5⟩:=Qe e2
      obtain ⟨hk,rfl⟩:=jS e4
      obtain ⟨rfl,rfl⟩:=Qg e5
      obtain ⟨xs,h1,rk⟩:=ro.dic
      refine ⟨rfl,.inr ⟨a,xs,ky,rfl,yI hk r1,h1,?_⟩⟩
      rcases rk.val ky with ⟨z1,z2⟩ | ⟨_,_,z1,z2,_⟩ <;> rw [z1,z2] <;> rfl
    | ins _ _=>cases e2
  | non=>cases h
  | bl _=>cases h
  | int _=>cases h
  | str _=>cases h
theorem vw (hu:X.A.units + 1 < cLine):P2 X (compareOp .NotIn) yD:=by
  intro pins s σ H x y v u Q I rx ry h
  obtain ⟨ρ,B,hp,dx,dy,d,hp',W,r1,r2,e,k⟩:=h
  obtain ⟨b,hp1,e1,e2⟩:=Qe e
  obtain ⟨rfl,rfl⟩:=Qg e2
  obtain ⟨rfl,h⟩:=G1 W r1 r2 e1
  have fin:=k _ ρ B H Gr.refl W (Xi (b:=!b))
  rcases h with ⟨p,xs,rfl,sq,f1,f2,rfl⟩ | ⟨a,kvs,ky,rfl,rfl,h1,rfl⟩
  . exact Uq pins s σ H _ _ v u Q I rx ry ⟨p,xs,rfl,sq,f1,f2,fin⟩
  . exact Vs hu pins s σ H _ _ v u Q I rx ry ⟨a,kvs,ky,rfl,rfl,h1,fin⟩
def yK (o i d:DV):M Unit:=match o with
  | .ref n=>do
    match <- Zi n with
    | .lst ds=>do
      let k <- asI i
      match ixN ds.length k with
      | some j=>jX n (.lst (ds.set j d))
      | none=>failure
    | .dic kvs=>do
      let k <- qD i
      QA (decide (kvs.length < lim))
      jX n (.dic (Yl kvs k d))
    | _=>failure
  | _=>failure
def tP3 (K:PySem.W.Frag) (g:DV -> DV -> DV -> M Unit):Qce:=fun o i v H Q=>∃ ρ B hp dO di dv hp',WOk K ρ B hp H /\ RepV K ρ B H dO o /\ RepV K ρ B H di i /\ RepV K ρ B H dv v /\ g dO di dv hp = some ((),hp') /\ ∀ ρ' B' H',Gr K ρ B H ρ' B' H' -> WOk K ρ' B' hp' H' -> Q H'
theorem RepL.set {K:PySem.W.Frag} {ρ:List Addr} {B:Addr -> Prop} {H:Hp} {d:DV} {x:V} (r:RepV K ρ B H d x):∀ {ds:List DV} {xs:List V} (i:Nat),RepL K ρ B H ds xs -> RepL K ρ B H (ds.set i d) (xs.set i x)
  | [],_,i,h=>by unfold RepL at h;subst h;exact RepL.nil
  | _ :: ds,_,0,h=>by
    unfold RepL at h
    obtain ⟨y,t,rfl,_,h2⟩:=h
    exact RepL.cons r h2
  | _ :: ds,_,i + 1,h=>by
    unfold RepL at h
    obtain ⟨y,t,rfl,h1,h2⟩:=h
    exact RepL.cons h1 (RepL.set r i h2)
theorem QeE (hu:X.A.units + 1 < cLine):QcA X (tP3 X.K yK):=by
  intro pins s σ H o i v ov iv u Q I ro ri rv h
  obtain ⟨ρ,B,hp,dO,di,dv,hp',W,r1,r2,r3,e,k⟩:=h
  cases dO with
  | ref n =>
    obtain ⟨ob,hp1,e1,e2⟩:=Qe e
    obtain ⟨e3,rfl⟩:=Zo e1
    obtain ⟨a,rfl,i1,rob⟩:=RepV.refW W r1 e3
    cases ob with
    | ins _ _=>cases e2
    | lst ds =>
      obtain ⟨j,hp2,e4,e5⟩:=Qe e2
      obtain ⟨rfl,rfl⟩:=yp e4
      obtain ⟨xs,h1,l1⟩:=rob
      cases q:ixN ds.length j with
      | none=>simp only [q] at e5;cases e5
      | some m =>
        simp only [q] at e5
        cases e5
        obtain ⟨g,W'⟩:=yg W i1 h1 (RepL.set r3 m l1)
        exact QaR pins s σ H _ _ v ov iv u Q I ro ri rv ⟨a,xs,j,m,rfl,r2.intI,h1,by rw [<- l1.length];exact q,k ρ B _ g W'⟩
    | dic kvs =>
      obtain ⟨ky,hp2,e4,e5⟩:=Qe e2
      obtain ⟨hk,rfl⟩:=jS e4
      obtain ⟨_,hp3,e6,e7⟩:=Qe e5
      obtain ⟨hl,rfl⟩:=QB e6
      cases e7
      obtain ⟨xs,h1,rk⟩:=rob.dic
      obtain ⟨g,W'⟩:=Qbf W i1 h1 (rk.put ky r3)
      exact Qah hu pins s σ H _ _ v ov iv u Q I ro ri rv ⟨a,xs,ky,rfl,yI hk r2,h1,by rw [<- rk.len];exact Nat.lt_of_lt_of_le (of_decide_eq_true hl) yr,k ρ B _ g W'⟩
  | non=>cases e
  | bl _=>cases e
  | int _=>cases e
  | str _=>cases e
  | tup _=>cases e
  | lst _=>cases e
def gSb (f g:DEx):DGx:=fun d env=>do
  let o <- f env
  let i <- g env
  yK o i d
  pure env
theorem V2 {o i:Expr} {fo fi:DEx} (hu:X.A.units + 1 < cLine) (ho:DE X o fo) (hi:DE X i fi)
    (ha:∀ v,assign (.Subscript o i pos) X.env v = (do
      let ov <- holding [v] (eval o X.env)
      let iv <- holding [v,ov] (eval i X.env)
      standAt pos
      holding [v,ov,iv] (setItem ov iv v)
      release [v,ov,iv] []):=by intro _;rfl):PG X (.Subscript o i pos) (tDG X.K (gSb fo fi)):=by
  intro pins s σ H v u Q I r h
  refine Qd3 ho hi (QeE hu) ha pins s σ H v u Q I r ?_
  obtain ⟨Z,env,ρ,B,hp,d,env',hp',S,rd,e,k⟩:=h
  obtain ⟨x,hp1,e1,e⟩:=Qe e
  obtain ⟨y,hp2,e2,e⟩:=Qe e
  obtain ⟨z,hp3,e3,e⟩:=Qe e
  obtain ⟨rfl,rfl⟩:=Qg e
  refine tD.run S e1 fun vx ρ1 B1 H1 g1 S1 r1=>tD.run S1 e2 fun vy ρ2 B2 H2 g2 S2 r2=>?_
  exact ⟨ρ2,B2,hp2,x,y,d,hp3,S2.wo,RepV.grow S1.wo.rb g2 _ _ r1,r2,RepV.grow S.wo.rb (g1.trans g2) _ _ rd,e3,fun ρ3 B3 H3 g3 W3=>k _ ρ3 B3 H3 ((g1.trans (g2.trans g3)).gs S.wo.rb) (S2.grow g3 W3)⟩
def qq:String -> DV -> M Unit
  | "list", .lst _=>pure ()
  | "str", .str _=>pure ()
  | T,.ref n=>do
    match <- Zi n with
    | .lst _=>QA (T == "list")
    | .dic _=>QA (T == "dict")
    | _=>failure
  | _,_=>failure
theorem Qbd {T:String} {d:DV} {hp hp':Hs} {K:PySem.W.Frag} {ρ:List Addr} {B:Addr -> Prop} {H:Hp} {v:V} {u:Unit} (W:WOk K ρ B hp H) (r:RepV K ρ B H d v) (h:qq T d hp = some (u,hp')):hp = hp' /\ tyV K T v H:=by
  unfold qq at h
  split at h
  . obtain ⟨_,rfl⟩:=Qg h
    obtain ⟨a,xs,rfl,_,sq,_⟩:=r.lstI
    exact ⟨rfl,.inl ⟨rfl,xs,sq⟩⟩
  . obtain ⟨_,rfl⟩:=Qg h
    obtain rfl:=r.strI
    exact ⟨rfl,rfl⟩
  . obtain ⟨o,hp1,e1,e2⟩:=Qe h
    obtain ⟨e3,rfl⟩:=Zo e1
    obtain ⟨a,rfl,_,ro⟩:=RepV.refW W r e3
    cases o with
    | lst ds =>
      obtain ⟨hT,rfl⟩:=QB e2
      obtain ⟨xs,h1,_⟩:=ro
      exact ⟨rfl,.inl ⟨by simpa using hT,xs,SqL.of h1⟩⟩
    | dic kvs =>
      obtain ⟨hT,rfl⟩:=QB e2
      obtain ⟨xs,h1,_⟩:=ro
      exact ⟨rfl,.inr (.inr (.inl ⟨by simpa using hT,.inl ⟨xs,h1⟩⟩))⟩
    | ins _ _=>cases e2
  . cases h
def tPm (K:PySem.W.Frag) (m:DV -> List DV -> M DV):V -> List V -> Hp -> VK -> Prop:=fun x vs H Q=>∃ ρ B hp dx ds d hp',WOk K ρ B hp H /\ RepV K ρ B H dx x /\ RepL K ρ B H ds vs /\ m dx ds hp = some (d,hp') /\ Fol K ρ B H d hp' Q
def JC (T:String) (m:DV -> List DV -> M DV) (f:DEx) (a:DAx):DEx:=fun env=>do
  let x <- f env
  qq T x
  let ds <- a env
  m x ds
theorem Jq {T id:String} {name:Str} {o:Expr} {es:List Expr} {fo:DEx} {fs:DAx} {m:DV -> List DV -> M DV} {apos cpos:Pos} (hm:MtR X id (tPm X.K m)) (pa:PlainAttrs T) (slot:Slot T name id) (hty:typeOf (.builtin id) = pure (.type "method_descriptor")) (ho:DE X o fo) (ha:DA X (e :: es) fs)
    (hbase:attributeBase o name X.env (eval o X.env) = eval o X.env:=by rfl)
    (hfew:((backTo cpos (starEach (e :: es) X.env)).all (fun x=>!x.1) && (backToKw cpos (keywordEach [] X.env)).all (fun x=>x.1.isSome)
      && decide ((e :: es).length + ([]:List Keyword).length + (if ([]:List Keyword).isEmpty then 0 else 1) < 30)) = true:=by rfl)
    (hline:(apos.endLine == cpos.line) = true:=by rfl) (hs:starEach (e :: es) X.env = (false,eval e X.env) :: starEach es X.env:=by rfl) (hplain:(backTo cpos (starEach es X.env)).any (·.1) = false:=by rfl) :
    DE X (.Call (.Attribute o name apos) (e :: es) [] cpos) (JC T m fo fs) :=
  L2.PE.imp (Qc9 pa slot hty hm ho ha hbase hfew hline hs hplain) fun σ H Q ⟨Z,env,ρ,B,hp,d,hp',S,e,k⟩=>by
    obtain ⟨x,hp1,e1,ea⟩:=Qe e
    obtain ⟨_,hp2,e2,eb⟩:=Qe ea
    obtain ⟨ds,hp3,e3,ec⟩:=Qe eb
    refine tD.run S e1 fun v ρ1 B1 H1 g1 S1 r1=>?_
    obtain ⟨z,ty⟩:=Qbd S1.wo r1 e2
    rw [<- z] at e3
    exact ⟨ty,tDA.run S1 e3 fun vs ρ2 B2 H2 g2 S2 r2=>⟨ρ2,B2,hp3,x,ds,d,hp',S2.wo,RepV.grow S1.wo.rb g2 _ _ r1,r2,ec,k.after (g1.trans g2)⟩⟩
def onL (x:DV) (k:Nat -> List DV -> M DV):M DV:=match x with
  | .ref n=>do
    match <- Zi n with
    | .lst ds=>k n ds
    | _=>failure
  | _=>failure
def onD (x:DV) (k:Nat -> List (Key × DV) -> M DV):M DV:=match x with
  | .ref n=>do
    match <- Zi n with
    | .dic ds=>k n ds
    | _=>failure
  | _=>failure
theorem yf {x d:DV} {k:Nat -> List DV -> M DV} {hp hp':Hs} (h:onL x k hp = some (d,hp')):∃ n ds,x = .ref n /\ hp[n]? = some (.lst ds) /\ k n ds hp = some (d,hp'):=by
  cases x with
  | ref n =>
    obtain ⟨o,hp1,e1,e2⟩:=Qe h
    obtain ⟨e3,rfl⟩:=Zo e1
    cases o with
    | lst ds=>exact ⟨n,ds,rfl,e3,e2⟩
    | dic _=>cases e2
    | ins _ _=>cases e2
  | _=>cases h
def Zs (x:DV):List DV -> M DV
  | [d]=>onL x fun n ds=>do QA (decide (ds.length < lim));jX n (.lst (ds ++ [d]));pure .non
  | _=>failure
theorem JN:MtR X "list.append" (tPm X.K Zs):=by
  intro pins s σ H x vs v us Q I rx rv h
  obtain ⟨ρ,B,hp,dx,es,d,hp',W,r1,r2,e,k⟩:=h
  unfold Zs at e
  split at e
  . rename_i y
    obtain ⟨n,ds,rfl,h0,e⟩:=yf e
    obtain ⟨_,hp1,e1,e2⟩:=Qe e
    obtain ⟨hl,rfl⟩:=QB e1
    cases e2
    obtain ⟨a,rfl,i1,xs,h1,l1⟩:=RepV.refW W r1 h0
    obtain ⟨w,rfl,rw'⟩:=r2.oneI
    obtain ⟨g,W'⟩:=yg W i1 h1 (RepL.append l1 (RepL.one rw'))
    exact j6 pins s σ H _ _ v us Q I rx rv ⟨a,xs,w,rfl,rfl,h1,by rw [<- l1.length];exact Nat.lt_of_lt_of_le (of_decide_eq_true hl) yr,k _ ρ B _ g W' jF⟩
  . cases e
def Y4 (x:DV):List DV -> M DV
  | [.int i,d]=>onL x fun n ds=>do QA (decide (ds.length < lim) && X7 i);jX n (.lst (ds.take (QeU ds.length i) ++ d :: ds.drop (QeU ds.length i)));pure .non
  | _=>failure
def yY (x:DV):List DV -> M DV
  | [y]=>onD x fun n kvs=>do
    let k <- qD y
    let d <- qP (XC kvs k)
    jX n (.dic (vZ kvs k))
    pure d
  | [y,z]=>onD x fun n kvs=>do
    let k <- qD y
    match XC kvs k with
    | some d=>do jX n (.dic (vZ kvs k));pure d
    | none=>pure z
  | _=>failure
def yB (x:DV):List DV -> M DV
  | [y]=>onD x fun n kvs=>do
    let k <- qD y
    pure ((XC kvs k).getD .non)
  | [y,z]=>onD x fun n kvs=>do
    let k <- qD y
    pure ((XC kvs k).getD z)
  | _=>failure
end
end D
namespace L2
open PySem PySem.Spec PyProof.Rows
theorem Inv.kfresh {X:Cx} {pins:List (Addr × Obj)} {σ:St} {H:Hp} {s:Shared} (I:Inv X pins σ H s):X.K.lookup s.heap.objs.size = none:=by
  cases q:X.K.lookup s.heap.objs.size with
  | none=>rfl
  | some o=>exact absurd (Heap.lt_size (I.kIn _ o q)) (Nat.lt_irrefl _)
theorem gf {X:Cx} {pos:Pos}:PE X (.Dict [] [] pos) (fun _ H Q=>∀ p,H p = none -> X.K.lookup p = none -> Q (.ref p) (upd H p (.dK []))):=fun pins s σ H Q I h =>
  wpAny_Dict_empty ⟨.ref s.heap.objs.size,_,I.laid (a:=s.heap.objs.size) (o:=.dK []) (t':=s.toks) (fun _ _ q=>Heap.get?_push_of_some _ q) (Nat.le_refl _) (QaT s.heap I.big),rfl,h _ (I.hok.fresh (Nat.le_refl _)) I.kfresh⟩
end L2
namespace D
open PySem PySem.Spec PyProof.Rows L2
section
variable {X:Cx} {e a b c:Expr} {f fa fb fc:DEx} {ca cb:DTx} {pos:Pos}
def evP:List (DEx × DEx) -> En -> M (List (Key × DV))
  | [],_=>pure []
  | (f,g) :: r,env=>do
    let x <- f env
    let k <- qD x
    let y <- g env
    let ps <- evP r env
    pure ((k,y) :: ps)
def Qep (kvs more:List (Key × DV)):List (Key × DV):=more.foldl (fun acc kv=>Yl acc kv.1 kv.2) kvs
def yM (ps:List (DEx × DEx)):DEx:=fun env=>do
  let kvs <- evP ps env
  QA (decide (kvs.length <= 15))
  Y9 (.dic (Qep [] kvs))
def Xl:DEx:=fun _=>Y9 (.dic [])
theorem x8:DE X (.Dict [] [] pos) Xl:=L2.PE.imp gf fun σ H Q ⟨Z,env,ρ,B,hp,d,hp',S,e,k⟩=>by
  cases e
  intro p hn hk
  have g:Gr X.K ρ B H (ρ ++ [p]) (zr B p) (upd H p (.dK [])):=Gr.wnew hn hk
  refine k _ _ _ _ g (S.wo.wnew hn hk (RepK.orep (xs:=[]) .nil QR)) ?_
  unfold RepV
  exact ⟨p,rfl,by rw [<- S.wo.len];simp⟩
abbrev NX:=Nat -> M (Option DV)
def Qal (K:PySem.W.Frag) (ρ:List Addr) (B:Addr -> Prop) (H:Hp) (nxt:NX) (J:It):Prop :=
  ∀ ρ1 B1 hp1 H1, Gs K ρ B H ρ1 B1 H1 -> WOk K ρ1 B1 hp1 H1 -> ∀ (i : Nat) (o : Option DV) (hp2 : Hs), nxt i hp1 = some (o, hp2) -> hp2 = hp1 /\ match o with
    | none=>J.stop i H1
    | some d=>J.go i H1 /\ ∀ x H',J.yld i H1 x H' -> RepV K ρ1 B1 H' d x /\ (H' = H1 ∨ ∃ p o,H1 p = none /\ H' = upd H1 p o)
abbrev DXx:=En -> M NX
def tDX (K:PySem.W.Frag) (f:DXx):TI:=fun σ H R=>∃ Z env ρ B hp nxt hp',SOk K Z env σ ρ B hp H /\ f env hp = some (nxt,hp') /\ ∀ J ρ' B' H',Gr K ρ B H ρ' B' H' -> WOk K ρ' B' hp' H' -> Qal K ρ' B' H' nxt J -> R J H'
def DX (X:Cx) (tg iter:Expr) (f:DXx):Prop:=PI X tg iter (tDX X.K f)
def nxD (ds:List DV):NX:=fun i=>if i <= ds.length then pure ds[i]? else failure
def nxW (n:Nat):NX:=fun i=>do
  match <- Zi n with
  | .lst ds=>pure ds[i]?
  | _=>failure
theorem Qbz {K:PySem.W.Frag} {ρ:List Addr} {B:Addr -> Prop} {H:Hp} {ds:List DV} {J:It} (h:vK K ρ B H ds J):Qal K ρ B H (nxD ds) J:=fun ρ1 B1 hp1 H1 g W i o hp2 e=>by
  unfold nxD at e
  by_cases hi:i <= ds.length
  . rw [if_pos hi] at e
    obtain ⟨rfl,rfl⟩:=Qg e
    obtain ⟨h1,h2⟩:=h ρ1 B1 H1 g W.rb W.bt
    refine ⟨rfl,?_⟩
    cases q:ds[i]? with
    | none =>
      have:i = ds.length:=by have:=List.getElem?_eq_none_iff.mp q;omega
      subst this
      exact h2
    | some d=>exact h1 i d q
  . rw [if_neg hi] at e;cases e
theorem QdF {K:PySem.W.Frag} {ρ:List Addr} {B:Addr -> Prop} {H:Hp} {n:Nat} {a:Addr} (ha:ρ[n]? = some a) (kf:∀ H1:Hp,∀ xs ys,H1 a = some (.lst xs) -> SqL K H1 a ys -> ys = xs):Qal K ρ B H (nxW n) (Itl K a):=fun ρ1 B1 hp1 H1 g W i o hp2 e=>by
  obtain ⟨ob,hp3,e1,e2⟩:=Qe e
  obtain ⟨e3,rfl⟩:=Zo e1
  have ha1:=uH g.pre ha
  cases ob with
  | dic _=>cases e2
  | ins _ _=>cases e2
  | lst ds =>
    obtain ⟨rfl,rfl⟩:=Qg e2
    obtain ⟨xs,h1,l1⟩:=W.obj n a _ ha1 e3
    refine ⟨rfl,?_⟩
    cases q:ds[i]? with
    | none=>exact ⟨xs,SqL.of h1,by rw [<- l1.length];exact List.getElem?_eq_none_iff.mp q⟩
    | some d =>
      obtain ⟨x,hx,rx⟩:=l1.get q
      refine ⟨⟨xs,x,SqL.of h1,hx⟩,fun y H' ⟨eH,hy⟩=>?_⟩
      subst eH
      have:=hy xs (SqL.of h1)
      rw [hx] at this;cases this
      exact ⟨rx,.inl rfl⟩
theorem Qa5 {K:PySem.W.Frag} {a:Addr} (hk:K.lookup a = none) (H:Hp) (xs ys:List V) (h:H a = some (.lst xs)) (h':SqL K H a ys):ys = xs:=by
  rcases h' with (h' | ⟨o,h'⟩) | ⟨o,_,_,h',_⟩
  . rw [h] at h';cases h';rfl
  . rw [h] at h';cases h'
  . rw [hk] at h';cases h'
def xOf (f:DIx):DXx:=fun env=>do let ds <- f env;pure (nxD ds)
def xLs (f:DEx):DXx:=fun env=>do
  match <- f env with
  | .lst ds=>pure (nxD ds)
  | .ref n=>do
    match <- Zi n with
    | .lst _=>pure (nxW n)
    | _=>failure
  | _=>failure
variable {tg iter:Expr}
theorem Qbp {g:DIx} (h:DI X tg iter g):DX X tg iter (xOf g):=L2.PI.imp h fun σ H R ⟨Z,env,ρ,B,hp,nxt,hp',S,e,k⟩=>by
  obtain ⟨ds,hp1,e1,e2⟩:=Qe e
  obtain ⟨rfl,rfl⟩:=Qg e2
  exact ⟨Z,env,ρ,B,hp,ds,hp1,S,e1,fun J ρ' B' H' g W it=>k J ρ' B' H' g W (Qbz it)⟩
theorem Xa (h:DE X iter f):DX X tg iter (xLs f):=L2.PI.imp (QcH (L2.PE.kf h)) fun σ H R ⟨Z,env,ρ,B,hp,nxt,hp',S,e,k⟩=>by
  obtain ⟨d,hp1,e1,e2⟩:=Qe e
  refine tD.run S e1 fun v ρ1 B1 H1 g1 S1 r1 kf=>?_
  cases d with
  | lst ds =>
    obtain ⟨rfl,rfl⟩:=Qg e2
    obtain ⟨a,xs,rfl,nb,sq,rl⟩:=r1.lstI
    exact ⟨a,rfl,⟨xs,sq⟩,k _ ρ1 B1 H1 g1 S1.wo (Qbz (Qb3 nb sq rl))⟩
  | ref n =>
    obtain ⟨o,hp2,e3,e4⟩:=Qe (show (Zi n >>= fun o=>(match o with | .lst _=>pure (nxW n) | _=>failure:M NX)) hp1 = some (nxt,hp') from e2)
    obtain ⟨e5,e6⟩:=Zo e3
    cases o with
    | lst ds =>
      obtain ⟨rfl,z⟩:=Qg e4
      rw [<- z,<- e6] at k
      obtain ⟨a,rfl,i1,xs,h1,_⟩:=RepV.refW S1.wo r1 e5
      exact ⟨a,rfl,⟨xs,SqL.of h1⟩,k _ ρ1 B1 H1 g1 S1.wo (QdF i1 (Qa5 (kf a _ h1)))⟩
    | dic _=>cases e4
    | ins _ _=>cases e4
  | non=>cases e2
  | bl _=>cases e2
  | int _=>cases e2
  | str _=>cases e2
  | tup _=>cases e2
def zS (nxt:NX) (b:DV -> DSx):Nat -> Nat -> DSx
  | 0,_,_=>failure
  | m + 1,i,env=>do
    match <- nxt i with
    | none=>pure (.nx,env)
    | some d=>do
      let r <- b d env
      match r.1 with
      | .nx=>zS nxt b m (i + 1) r.2
      | .ct=>zS nxt b m (i + 1) r.2
      | .bk=>pure (.nx,r.2)
      | .rt x=>pure (.rt x,r.2)
def YO (f:DXx) (g:DGx) (body:DSx):DSx:=fun env=>do let nxt <- f env;zS nxt (fun d env=>do let env' <- g d env;body env') 100000 0 env
theorem q8 {body:List Stmt} {fi:DXx} {g:DGx} {sb:DSx} (hp:PassesOwn (model X.prog X.w) X.A X.env X.xe) (hc:X.calm = true) (hi:DX X tg iter fi) (hg:PG X tg (tDG X.K g)) (hb:DSs X body sb)
    (hs:∀ x,foldedSetIterable iter X.env x = pure x:=by intro _;rfl):DS X (.For tg iter body [] pos) (YO fi g sb) :=
  (QaF hp hc hi hg hb hs).imp fun D σ H ⟨Z,env,ρ,B,hp,fl,env',hp',S,e,k⟩=>by
    obtain ⟨nxt,hp1,e1,e2⟩:=Qe e
    refine ⟨Z,env,ρ,B,hp,nxt,hp1,S,e1,fun J ρ1 B1 H1 g1 W1 it=>?_⟩
    have k1:=k.after (g1.gs S.wo.rb)
    refine ⟨fun i m σ H=>∃ env ρ B hp,SOk X.K Z env σ ρ B hp H /\ Gs X.K ρ1 B1 H1 ρ B H /\ zS nxt (fun d env=>do let env' <- g d env;sb env') m i env hp = some ((fl,env'),hp'),
      ⟨100000,env,ρ1,B1,hp1,S.grow g1 W1,Gs.refl,e2⟩,?_⟩
    rintro i m σ H ⟨env2,ρ2,B2,hp2,S2,g2,e3⟩
    cases m with
    | zero=>cases e3
    | succ m =>
      obtain ⟨o,hpo,eo,e3⟩:=Qe e3
      obtain ⟨rfl,ito⟩:=it ρ2 B2 hp2 H g2 S2.wo i o hpo eo
      cases o with
      | none =>
        obtain ⟨z,rfl⟩:=Qg e3;cases z
        exact .inl ⟨ito,k1 σ ρ2 B2 H g2 S2⟩
      | some d =>
        obtain ⟨go,yl⟩:=ito
        obtain ⟨⟨f1,env4⟩,hp4,e4,e5⟩:=Qe e3
        obtain ⟨env3,hp3,e6,e7⟩:=Qe e4
        refine .inr ⟨go,fun σ' H'=>∃ env ρ B hp,SOk X.K Z env σ' ρ B hp H' /\ Gs X.K ρ1 B1 H1 ρ B H' /\ zS nxt (fun d env=>do let env' <- g d env;sb env') m (i + 1) env hp = some ((fl,env'),hp'),
          fun σ' H' q=>⟨m,Nat.lt_succ_self m,q⟩,fun x H' y=>?_⟩
        obtain ⟨rx,hx⟩:=yl x H' y
        have S3:SOk X.K Z env2 σ ρ2 B2 hpo H' /\ Gs X.K ρ2 B2 H ρ2 B2 H':=by
          rcases hx with rfl | ⟨p,o,hn,rfl⟩
          . exact ⟨S2,Gs.refl⟩
          . exact ⟨S2.grow (Gr.laid hn) (S2.wo.laid hn),vq S2.wo.rb hn⟩
        refine ⟨Z,env2,ρ2,B2,hpo,d,env3,hp3,S3.1,rx,e6,fun σ5 ρ5 B5 H5 g5 S5=>⟨Z,env3,ρ5,B5,hp3,f1,env4,hp4,S5,e7,fun σ6 ρ6 B6 H6 g6 S6=>?_⟩⟩
        have G6:=g2.trans (S3.2.trans (g5.trans g6))
        cases f1 with
        | nx=>exact ⟨env4,ρ6,B6,hp4,S6,G6,e5⟩
        | ct=>exact ⟨env4,ρ6,B6,hp4,S6,G6,e5⟩
        | bk=>obtain ⟨z,rfl⟩:=Qg e5;cases z;exact k1 σ6 ρ6 B6 H6 G6 S6
        | rt d=>obtain ⟨z,rfl⟩:=Qg e5;cases z;exact k1 σ6 ρ6 B6 H6 G6 S6
def Yr (nxt:NX) (g:DV -> M Bool) (f:DV -> M DV):Nat -> Nat -> M (List DV)
  | 0,_=>failure
  | m + 1,i=>do
    match <- nxt i with
    | none=>pure []
    | some d=>do
      if <- g d then
        let y <- f d
        let ys <- Yr nxt g f m (i + 1)
        pure (y :: ys)
      else Yr nxt g f m (i + 1)
def Js (nw:Bool) (src:DXx) (idx:List Nat) (t:DTx) (f:DEx):DEx:=fun env=>do
  let nxt <- src env
  let out <- Yr nxt (fun d=>t (cE idx env d)) (fun d=>f (cE idx env d)) lim 0
  if nw then Y9 (.lst out) else pure (.lst out)
variable {elt:Expr} {x:Str} {px:Pos} {ifs:List Expr} {scope:Scope} {cl:List (Str × Addr)} {caps:List Str} {idx:List Nat} {src:DXx} {te:DTx} {nw:Bool}
theorem yo {K:PySem.W.Frag} {σ:St} {H:Hp} {Q:VK} (h:tD K (Js nw src idx te f) σ H Q):u3 K (tDX K src) (tDT K te) (tD K f) idx σ H Q:=by
  obtain ⟨Z,env,ρ,B,hp,d,hp',S,e,k⟩:=h
  obtain ⟨nxt,hp1,e1,e2⟩:=Qe e
  obtain ⟨out,hp3,e5,e6⟩:=Qe e2
  refine ⟨Z,env,ρ,B,hp,nxt,hp1,S,e1,fun J ρ1 B1 H1 g1 W1 it D hD hK=>?_⟩
  have g1s:=g1.gs S.wo.rb
  refine ⟨fun i m ys H2=>H2 D = some (.lst ys) /\ i + m = lim /\ ∃ ρ2 B2 hp2 don rst,Gr K ρ1 B1 H1 ρ2 B2 H2 /\ WOk K ρ2 B2 hp2 H2 /\ B2 D /\ D ∉ ρ2 /\ RepL K ρ2 B2 H2 don ys /\ don.length <= i /\
    Yr nxt (fun d=>te (cE idx env d)) (fun d=>f (cE idx env d)) m i hp2 = some (rst,hp3) /\ don ++ rst = out,?_,?_⟩
  . exact ⟨lim,QR,Nat.zero_add _,ρ1,zr B1 D,hp1,[],out,Gr.banned hD hK,W1.banned hD hK,.inr rfl,fun z=>W1.bt D (W1.rb D z) hD,RepL.nil,Nat.le_refl _,e5,rfl⟩
  . rintro i m ys H2 ⟨hDs,him,ρ2,B2,hp2,don,rst,g2,W2,bD,nD,rd,dn,e7,e8⟩
    refine ⟨hDs,?_⟩
    cases m with
    | zero=>cases e7
    | succ m =>
      obtain ⟨o,hpo,eo,e7⟩:=Qe e7
      obtain ⟨rfl,ito⟩:=it ρ2 B2 hp2 H2 (g2.gs W1.rb) W2 i o hpo eo
      cases o with
      | some d0 =>
        obtain ⟨go,yl⟩:=ito
        obtain ⟨b,hp4,e9,e10⟩:=Qe e7
        refine .inr ⟨go,fun x H3 y=>?_⟩
        obtain ⟨rx,hx⟩:=yl x H3 y
        have S3:Gr K ρ2 B2 H2 ρ2 B2 H3 /\ WOk K ρ2 B2 hpo H3:=by
          rcases hx with rfl | ⟨p,o,hn,rfl⟩
          . exact ⟨Gr.refl,W2⟩
          . exact ⟨Gr.laid hn,W2.laid hn⟩
        have g3:=g2.trans S3.1
        have C3:=cσ_ok (idx:=idx) S (g1s.trans (g3.gs W1.rb)) S3.2 rx
        refine tDT.run C3 e9 fun ρ4 B4 H4 g4 S4=>?_
        have hD4:H4 D = some (.lst ys):=g4.keep D _ nD (S3.1.keep D _ nD hDs)
        have nD4:D ∉ ρ4:=fun z=>(g4.rnew D z).elim nD fun q=>by rw [S3.1.keep D _ nD hDs] at q;cases q
        cases b with
        | false =>
          exact Ud ⟨m,Nat.lt_succ_self m,hD4,by omega,ρ4,B4,hp4,don,rst,g3.trans g4,S4.wo,g4.ban D bD,nD4,RepL.grow W2.rb (S3.1.trans g4) _ _ rd,by omega,e10,e8⟩
        | true =>
          obtain ⟨z,hp5,e11,e12⟩:=Qe e10
          obtain ⟨zs,hp6,e13,e14⟩:=Qe e12
          obtain ⟨rfl,rfl⟩:=Qg e14
          refine UM (tD.run S4 e11 fun v ρ5 B5 H5 g5 S5 r5=>?_)
          have hD5:H5 D = some (.lst ys):=g5.keep D _ nD4 hD4
          have nD5:D ∉ ρ5:=fun z=>(g5.rnew D z).elim nD4 fun q=>by rw [hD4] at q;cases q
          have bD5:B5 D:=g5.ban D (g4.ban D bD)
          have G5:=g3.trans (g4.trans g5)
          have rd5:=RepL.grow W2.rb (S3.1.trans (g4.trans g5)) _ _ rd
          have trk:∀ b,(upd H5 D (.lst (ys ++ [v]))) b = none -> H5 b = none:=fun b q=>by
            by_cases e:b = D
            . subst e;rw [QR] at q;cases q
            . rw [QE e] at q;exact q
          have g6:Gs K ρ5 B5 H5 ρ5 B5 (upd H5 D (.lst (ys ++ [v]))):=⟨List.prefix_rfl,fun _ h=>.inl h,fun b o nb h=>by rw [QE (show b ≠ D from fun z=>nb (by rw [z];exact bD5))];exact h,trk⟩
          refine ⟨hD5,?_,m,Nat.lt_succ_self m,QR,by omega,ρ5,B5,hp5,don ++ [z],zs,?_,?_,bD5,nD5,RepL.gs g6 _ _ (RepL.append rd5 (RepL.one r5)),by simp;omega,e13,by rw [<- e8];simp⟩
          . have h1:=rd5.length
            have h2:lim < sizeLine:=by decide
            omega
          . exact ⟨G5.pre,G5.ban,G5.new,G5.rnew,fun b o nb h=>by rw [QE (show b ≠ D from fun q=>by rw [q,hD] at h;cases h)];exact G5.keep b o nb h,fun b q=>G5.trk b (trk b q)⟩
          . exact ⟨S5.wo.len,S5.wo.nd,fun j b o q1 q2=>ORep.gs g6 (QE (show b ≠ D from fun z=>nD5 (by rw [<- z];exact List.mem_of_getElem? q1))) (S5.wo.obj j b o q1 q2),S5.wo.rb,fun b z q=>S5.wo.bt b z (trk b q),S5.wo.bk⟩
      | none =>
        obtain ⟨z,z'⟩:=Qg e7
        subst z
        subst z'
        refine .inl ⟨ito,?_⟩
        rw [List.append_nil] at e8
        subst e8
        cases nw with
        | false =>
          obtain ⟨rfl,rfl⟩:=Qg (show (pure (.lst don):M DV) hpo = some (d,hp') from e6)
          have gU:Gs K ρ2 B2 H2 ρ2 (fun b=>B2 b /\ b ≠ D) H2:=⟨List.prefix_rfl,fun _ h=>.inl h.1,fun _ _ _ h=>h,fun _ h=>h⟩
          refine k (.ref D) ρ2 (fun b=>B2 b /\ b ≠ D) H2 (g1.trans ⟨g2.pre,fun b z=>⟨g2.ban b z,fun q=>W1.bt b z (q ▸ hD)⟩,fun b z=>g2.new b z.1,g2.rnew,g2.keep,g2.trk⟩)
            ⟨W2.len,W2.nd,fun j b o q1 q2=>ORep.gs gU rfl (W2.obj j b o q1 q2),fun b z=>⟨W2.rb b z,fun q=>nD (q ▸ z)⟩,fun b z=>W2.bt b z.1,fun b z=>W2.bk b z.1⟩ (xQ (fun z=>z.2 rfl) (SqL.of hDs) (RepL.gs gU _ _ rd))
        | true =>
          cases (show some (DV.ref hpo.length,hpo ++ [OV.lst don]) = some (d,hp') from e6)
          have gU:Gs K ρ2 B2 H2 (ρ2 ++ [D]) B2 H2:=⟨List.prefix_append _ _,fun _ h=>.inl h,fun _ _ _ h=>h,fun _ h=>h⟩
          refine k (.ref D) (ρ2 ++ [D]) B2 H2 (g1.trans ⟨g2.pre.trans (List.prefix_append _ _),g2.ban,g2.new,fun a z=>(List.mem_append.mp z).elim (g2.rnew a) fun q=>.inr (by rw [List.mem_singleton.mp q];exact hD),g2.keep,g2.trk⟩)
            ⟨by simp [W2.len],List.nodup_append.mpr ⟨W2.nd,by simp,fun a ha b hb=>by rw [List.mem_singleton.mp hb];exact fun z=>nD (z ▸ ha)⟩,fun j b o q1 q2=>?_,fun b z=>(List.mem_append.mp z).elim (W2.rb b) fun q=>by rw [List.mem_singleton.mp q];exact bD,W2.bt,W2.bk⟩ ?_
          . by_cases hi:j < ρ2.length
            . rw [List.getElem?_append_left hi] at q1
              rw [List.getElem?_append_left (by rw [<- W2.len];exact hi)] at q2
              exact ORep.gs gU rfl (W2.obj j b o q1 q2)
            . rw [List.getElem?_append_right (by omega)] at q1
              rw [List.getElem?_append_right (by rw [<- W2.len];omega)] at q2
              have hi0:j - ρ2.length = 0:=by
                have:=(List.getElem?_eq_some_iff.mp q1).1
                simp at this;omega
              rw [hi0] at q1
              rw [<- W2.len,hi0] at q2
              simp at q1 q2
              subst q1 q2
              exact ⟨ys,hDs,RepL.gs gU _ _ rd⟩
          . unfold RepV
            exact ⟨D,rfl,by rw [<- W2.len];simp⟩
theorem Yv (S:Gv X x scope cl caps idx) (hc:X.calm = true) (hi:DX X (.Name x px) iter src)
    (ht:∀ C s₀ H₀ ex,DTs (Xn X scope cl C (x :: caps) s₀ H₀ ex) ifs te) (he:∀ C s₀ H₀ ex,DE (Xn X scope cl C (x :: caps) s₀ H₀ ex) elt f)
    (hs:∀ x,foldedSetIterable iter X.env x = pure x:=by intro _;rfl):DE X (.ListComp elt [⟨.Name x px,iter,ifs,0⟩] scope pos) (Js nw src idx te f) :=
  L2.PE.imp (QcO (tt:=tDT X.K te) (te:=tD X.K f) S hc hi ht he hs) fun _ _ _ h=>yo h
theorem Qam (i:Nat) {y:Str} {py spos:Pos} (hN:X.N.Nodup) (S:Gv X x scope cl caps idx) (hc:X.calm = true) (hi:DX X (.Name x px) iter src)
    (ht:∀ C s₀ H₀ ex,DTs (Xn X scope cl C (x :: caps) s₀ H₀ ex) ifs te) (he:∀ C s₀ H₀ ex,DE (Xn X scope cl C (x :: caps) s₀ H₀ ex) elt f)
    (hy:X.N[i]? = some y:=by rfl) (hx:Loc X.env.scope y:=by first | exact Or.inl rfl | exact Or.inr rfl)
    (hsw:swapsWith (.ListComp elt [⟨.Name x px,iter,ifs,0⟩] scope pos) (some (.Name y py)) spos.line X.env = pure true:=by with_unfolding_all rfl)
    (hf:X.fn y = true ∨ X.env.scope.names.lookup y = some .local:=by first | exact .inl rfl | exact .inr rfl | assumption)
    (hs:∀ x,foldedSetIterable iter X.env x = pure x:=by intro _;rfl):DS X (.Assign [.Name y py] (.ListComp elt [⟨.Name x px,iter,ifs,0⟩] scope pos) spos) (QP i (Js nw src idx te f)) :=
  L2.PS.imp (QcR (tt:=tDT X.K te) (te:=tD X.K f) S hc hi ht he hN hy hx hsw hf hs) fun _ _ _ h=>Gk (fun _ _ _ q=>yo q) h
end
end D
namespace D
open PySem PySem.Spec PyProof.Rows L2
def WP {α:Type} (m:M α) (hp:Hs) (Q:α -> Hs -> Prop):Prop:=∃ x hp',m hp = some (x,hp') /\ Q x hp'
section
variable {α β:Type} {m:M α} {k:α -> M β} {hp:Hs} {Q:α -> Hs -> Prop} {R:β -> Hs -> Prop}
theorem WP_pure {x:α}:WP (pure x) hp Q ↔ Q x hp:=⟨fun ⟨y,h,e,q⟩=>by obtain ⟨rfl,rfl⟩:=Qg e;exact q,fun q=>⟨x,hp,rfl,q⟩⟩
theorem xV:WP (m >>= k) hp R ↔ WP m hp fun x h=>WP (k x) h R:=⟨fun ⟨y,h,e,q⟩=>by obtain ⟨x,h1,e1,e2⟩:=Qe e;exact ⟨x,h1,e1,y,h,e2,q⟩,fun ⟨x,h1,e1,y,h,e2,q⟩=>⟨y,h,(Qf e1).trans e2,q⟩⟩
theorem WP.mono {Q':α -> Hs -> Prop} (h:WP m hp Q) (hq:∀ x h,Q x h -> Q' x h):WP m hp Q':=let ⟨x,h1,e,q⟩:=h;⟨x,h1,e,hq x h1 q⟩
theorem WP.of {x:α} {hp':Hs} (e:m hp = some (x,hp')) (q:Q x hp'):WP m hp Q:=⟨x,hp',e,q⟩
theorem WP.eq {x:α} (e:m = pure x) (q:Q x hp):WP m hp Q:=e ▸ WP_pure.mpr q
end
section
variable {hp:Hs} {env:En} {Q:Fl × En -> Hs -> Prop}
theorem Qfj {b:DV -> DSx} (I:Nat -> En -> Hs -> Prop) (ds:List DV) (h0:I 0 env hp) (hs:∀ (i:Nat) d,ds[i]? = some d -> ∀ env hp,I i env hp -> WP (b d env) hp fun r h=>match r.1 with
    | .nx=>I (i + 1) r.2 h
    | .ct=>I (i + 1) r.2 h
    | .bk=>Q (.nx,r.2) h
    | .rt x=>Q (.rt x,r.2) h) (he:∀ env hp,I ds.length env hp -> Q (.nx,env) hp):WP (XG b ds env) hp Q:=by
  suffices h:∀ (m i:Nat) env hp,m + i = ds.length -> I i env hp -> WP (XG b (ds.drop i) env) hp Q by simpa using h ds.length 0 env hp rfl h0
  intro m
  induction m with
  | zero =>
    intro i env hp e hI
    have:i = ds.length:=by omega
    subst this
    rw [List.drop_length]
    exact WP_pure.mpr (he env hp hI)
  | succ m ih =>
    intro i env hp e hI
    have hlt:i < ds.length:=by omega
    rw [List.drop_eq_getElem_cons hlt,XG,xV]
    refine (hs i ds[i] (List.getElem?_eq_getElem hlt) env hp hI).mono fun r h q=>?_
    obtain ⟨fl,env1⟩:=r
    cases fl with
    | nx=>exact ih (i + 1) env1 h (by omega) q
    | ct=>exact ih (i + 1) env1 h (by omega) q
    | bk=>exact WP_pure.mpr q
    | rt x=>exact WP_pure.mpr q
theorem xT {nxt:NX} {b:DV -> DSx} (ds:List DV) (I:Nat -> En -> Hs -> Prop) (hl:ds.length < 100000) (hn:∀ (i:Nat) env hp,i <= ds.length -> I i env hp -> nxt i hp = some (ds[i]?,hp)) (h0:I 0 env hp) (hs:∀ (i:Nat) d,ds[i]? = some d -> ∀ env hp,I i env hp -> WP (b d env) hp fun r h=>match r.1 with
    | .nx=>I (i + 1) r.2 h
    | .ct=>I (i + 1) r.2 h
    | .bk=>Q (.nx,r.2) h
    | .rt x=>Q (.rt x,r.2) h) (he:∀ env hp,I ds.length env hp -> Q (.nx,env) hp):WP (zS nxt b 100000 0 env) hp Q:=by
  suffices h:∀ (m i n:Nat) env hp,m + i = ds.length -> m < n -> I i env hp -> WP (zS nxt b n i env) hp Q from h ds.length 0 100000 env hp rfl hl h0
  intro m
  induction m with
  | zero =>
    intro i n env hp e hn' hI
    have:i = ds.length:=by omega
    subst this
    obtain ⟨n,rfl⟩:∃ k,n = k + 1:=⟨n - 1,by omega⟩
    rw [zS,xV]
    refine WP.of (hn _ env hp (Nat.le_refl _) hI) ?_
    rw [show ds[ds.length]? = none by simp]
    exact WP_pure.mpr (he env hp hI)
  | succ m ih =>
    intro i n env hp e hn' hI
    have hlt:i < ds.length:=by omega
    obtain ⟨n,rfl⟩:∃ k,n = k + 1:=⟨n - 1,by omega⟩
    rw [zS,xV]
    refine WP.of (hn i env hp (by omega) hI) ?_
    simp only [List.getElem?_eq_getElem hlt]
    rw [xV]
    refine (hs i ds[i] (List.getElem?_eq_getElem hlt) env hp hI).mono fun r h q=>?_
    obtain ⟨fl,env1⟩:=r
    cases fl with
    | nx=>exact ih (i + 1) n env1 h (by omega) (by omega) q
    | ct=>exact ih (i + 1) n env1 h (by omega) (by omega) q
    | bk=>exact WP_pure.mpr q
    | rt x=>exact WP_pure.mpr q
theorem vF (ds:List DV) (i:Nat) (h:i <= ds.length) (hp:Hs):nxD ds i hp = some (ds[i]?,hp):=by unfold nxD;rw [if_pos h];rfl
theorem UG {n:Nat} {ds:List DV} {hp:Hs} (h:hp[n]? = some (.lst ds)) (i:Nat):nxW n i hp = some (ds[i]?,hp):=by
  unfold nxW
  have:Zi n hp = some (.lst ds,hp):=by unfold Zi;rw [h]
  rw [Qf this];rfl
theorem Qas {b:DV -> DSx} (ds:List DV) (I:Nat -> En -> Hs -> Prop) (hl:ds.length < 100000) (h0:I 0 env hp) (hs:∀ (i:Nat) d,ds[i]? = some d -> ∀ env hp,I i env hp -> WP (b d env) hp fun r h=>match r.1 with
    | .nx=>I (i + 1) r.2 h
    | .ct=>I (i + 1) r.2 h
    | .bk=>Q (.nx,r.2) h
    | .rt x=>Q (.rt x,r.2) h) (he:∀ env hp,I ds.length env hp -> Q (.nx,env) hp):WP (zS (nxD ds) b 100000 0 env) hp Q :=
  xT ds I hl (fun i env hp h _=>vF ds i h hp) h0 hs he
end
theorem vS (n:Nat) (hp:Hs) (i:Int):drf (n + 1) hp (.int i) = some (.int i):=rfl
theorem kU (n:Nat) (hp:Hs) (b:Bool):drf (n + 1) hp (.bl b) = some (.bl b):=rfl
theorem ze {α:Type} {f:α -> Option α}:∀ {xs:List α},(∀ x ∈ xs,f x = some x) -> xs.mapM f = some xs
  | [],_=>rfl
  | x :: xs,h=>by
    rw [List.mapM_cons,h x (by simp),ze fun y hy=>h y (List.mem_cons_of_mem _ hy)];rfl
theorem u8 {d d':DV} {hp:Hs} (h:drf 40 hp d = some d'):GN d hp = some (d',hp):=by unfold GN;rw [h];rfl
theorem Kb {x y x' y':DV} {hp:Hs} (hx:drf 40 hp x = some x') (hy:drf 40 hp y = some y') (s1:okP x' = true) (s2:okP y' = true):xI x y hp = some (PyData.eqv (toP x') (toP y'),hp):=by
  unfold xI
  simp only [okP,Bool.and_eq_true] at s1 s2
  rw [Qf (u8 hx),Qf (u8 hy)]
  simp only [s1.2,s2.2,Bool.and_self,QA,if_true,pure_bind]
  rfl
theorem Gh (i j:Int) (hp:Hs):xI (.int i) (.int j) hp = some (i == j,hp):=Kb (vS 39 hp i) (vS 39 hp j) (xK i) (xK j)
theorem QaN (a b:Option Int) (hp:Hs):xI (opt a) (opt b) hp = some (decide (a = b),hp):=by
  have e:∀ c:Option Int,drf 40 hp (opt c) = some (opt c):=fun c=>by cases c <;> rfl
  have s:∀ c:Option Int,okP (opt c) = true:=fun c=>by cases c <;> rfl
  rw [Kb (e a) (e b) (s a) (s b)]
  cases a with
  | none=>cases b <;> simp [opt,toP,PyData.eqv]
  | some i =>
    cases b with
    | none=>simp [opt,toP,PyData.eqv]
    | some j=>simp only [opt,toP,PyData.eqv,Option.some.injEq];congr 1
end D
namespace D
open PySem PySem.Spec PyProof.Rows L2
theorem QY {n:Nat} {o:OV} {hp:Hs} (h:hp[n]? = some o):Zi n hp = some (o,hp):=by unfold Zi;rw [h]
theorem zy {α:Type} {m:M α} {x:α} (h:m = pure x) (hp:Hs):m hp = some (x,hp):=by rw [h];rfl
theorem Qbi {c:DTx} {f g:DSx} {env:En} {b:Bool} {hp hp1:Hs} (h:c env hp = some (b,hp1)):sIf c f g env hp = if b = true then f env hp1 else g env hp1:=by
  unfold sIf
  rw [Qf h]
  cases b <;> rfl
theorem Zg {f:DEx} {env:En} {b:Bool} {hp hp1:Hs} (h:f env hp = some (.bl b,hp1)):eB f env hp = some (b,hp1):=by
  unfold eB
  rw [Qf h];rfl
theorem Qu {g:DV -> DV -> M DV} {f f':DEx} {env:En} {x y d:DV} {hp hp1 hp2 hp3:Hs} (h:f env hp = some (x,hp1)) (h':f' env hp1 = some (y,hp2)) (hg:g x y hp2 = some (d,hp3)):Qh g f f' env hp = some (d,hp3):=by
  unfold Qh
  rw [Qf h,Qf h',hg]
theorem km {F:List DV -> M DV} {f f':DEx} {env:En} {x y d:DV} {hp hp1 hp2 hp3:Hs} (h:f env hp = some (x,hp1)) (h':f' env hp1 = some (y,hp2)) (hF:F [x,y] hp2 = some (d,hp3)):Qt 2 F (Qb f (Qb f' Qk)) env hp = some (d,hp3):=by
  have e0:Qb f' Qk env hp1 = some ([y],hp2):=by unfold Qb;rw [Qf h'];rfl
  have:Qb f (Qb f' Qk) env hp = some ([x,y],hp2):=by unfold Qb at e0 ⊢;rw [Qf h,Qf e0];rfl
  unfold Qt
  rw [Qf this];exact hF
theorem Q5 {f:DEx} {env:En} {d:DV} {hp hp1:Hs} (h:f env hp = some (d,hp1)):Q9 f env hp = some ((.rt d,env),hp1):=by
  unfold Q9
  rw [Qf h];rfl
theorem Gf {f g:DSx} {env env1:En} {d:DV} {hp hp1:Hs} (h:f env hp = some ((.rt d,env1),hp1)):Qy f g env hp = some ((.rt d,env1),hp1):=by
  unfold Qy
  rw [Qf h];rfl
theorem JI {f:DEx} {env:En} {d:DV} {hp hp1:Hs} (h:f env hp = some (d,hp1)):Zu f env hp = some ((.nx,env),hp1):=by
  unfold Zu
  rw [Qf h];rfl
theorem Q3 {n:Nat} {body:DSx} {ds:List DV} {d:DV} {env:En} {hp hp1:Hs} (h:body (ds.map .val ++ List.replicate (n - ds.length) .un) hp = some ((.rt d,env),hp1)):Zl n body ds hp = some (d,hp1):=by
  unfold Zl
  rw [Qf h];rfl
theorem Z6 {c:DTx} {env:En} {b:Bool} {hp hp1:Hs} (h:c env hp = some (b,hp1)):XD c env hp = some (!b,hp1):=by
  unfold XD
  rw [Qf h];rfl
theorem Ky {f g:DEx} {env:En} {b:Bool} {hp hp1:Hs} (h:f env hp = some (.bl b,hp1)):Yf f g env hp = if b = true then g env hp1 else some (.bl false,hp1):=by
  unfold Yf
  rw [Qf h]
  cases b <;> rfl
end D
namespace D
open PySem PySem.Spec PyProof.Rows L2
abbrev ClsN (K:PySem.W.Frag) (c:Str) (C:Addr):Prop:=PySem.W.nsIn K mainGlobals c = some (some (.ref C))
theorem ClsN.uniq {K:PySem.W.Frag} {c:Str} {C C':Addr} (h:ClsN K c C) (h':ClsN K c C'):C = C':=by
  have e:=h.symm.trans h';cases e;rfl
structure X9 (K:PySem.W.Frag) (c f:Str):Prop where
  ex:∃ C,ClsN K c C /\ Cls K C /\ NoAttr K C f
structure Xq (P:Program) (w:World) (K:PySem.W.Frag) (mg:Str -> Option Value) (base:Heap) (c m:Str) (k n:Nat) (F:List DV -> M DV):Prop where
  ex:∃ (C f:Addr) (fd:FuncData) (ps:List Str),ClsN K c C /\ Cls K C /\ jY K C m f /\ FnOk P w K mg base CX0 k f fd ps (spD K n F) /\ Binds K fd ps []
structure QcX (P:Program) (w:World) (K:PySem.W.Frag) (mg:Str -> Option Value) (base:Heap) (c:Str) (k n:Nat) (F:List DV -> M DV):Prop where
  ex:∃ (C f:Addr) (fd:FuncData) (ps:List Str),ClsN K c C /\ mg c = some (.ref C) /\ Mk K C f /\ FnOk P w K mg base CX0 k f fd ps (spD K n F) /\ Binds K fd ps []
section
variable {K:PySem.W.Frag} {ρ:List Addr} {B:Addr -> Prop} {H:Hp} {hp:Hs}
abbrev RepF (K:PySem.W.Frag) (ρ:List Addr) (B:Addr -> Prop) (H:Hp):List (Str × DV) -> List (Str × V) -> Prop:=Paired fun p q=>p.1 = q.1 /\ RepV K ρ B H p.2 q.2
theorem uR:∀ {fs:List (Str × DV)} {xs:List (Str × V)},xs.map (·.1) = fs.map (·.1) -> RepL K ρ B H (fs.map (·.2)) (xs.map (·.2)) -> RepF K ρ B H fs xs
  | [],[],_,_=>.nil
  | [],_ :: _,e,_=>by simp at e
  | _ :: _,[],e,_=>by simp at e
  | p :: fs,q :: xs,e,r=>by
    simp only [List.map_cons,List.cons.injEq] at e
    simp only [List.map_cons] at r
    unfold RepL at r
    obtain ⟨x,t,e2,h1,h2⟩:=r
    simp only [List.cons.injEq] at e2
    obtain ⟨rfl,rfl⟩:=e2
    exact .cons ⟨e.1.symm,h1⟩ (uR e.2 h2)
theorem RepF.to {fs:List (Str × DV)} {xs:List (Str × V)} (r:RepF K ρ B H fs xs):xs.map (·.1) = fs.map (·.1) /\ RepL K ρ B H (fs.map (·.2)) (xs.map (·.2)):=by
  induction r with
  | nil=>exact ⟨rfl,RepL.nil⟩
  | cons h _ ih=>exact ⟨by simp [ih.1,h.1],by simpa using RepL.cons h.2 ih.2⟩
theorem RepF.look {fs:List (Str × DV)} {xs:List (Str × V)} (r:RepF K ρ B H fs xs) (f:Str):(fs.lookup f = none /\ xs.lookup f = none) ∨ ∃ d v,fs.lookup f = some d /\ xs.lookup f = some v /\ RepV K ρ B H d v:=by
  induction r with
  | nil=>exact .inl ⟨rfl,rfl⟩
  | @cons p q _ _ h _ ih =>
    obtain ⟨p1,p2⟩:=p
    obtain ⟨q1,q2⟩:=q
    obtain ⟨h1,h2⟩:=h
    have h1:p1 = q1:=h1
    subst h1
    cases e:f == p1 with
    | true=>exact .inr ⟨p2,q2,by simp [List.lookup,e],by simp [List.lookup,e],h2⟩
    | false=>simpa [List.lookup,e] using ih
def qF (f:Str) (d:DV):List (Str × DV) -> List (Str × DV)
  | []=>[(f,d)]
  | (g,x) :: r=>if g = f then (g,d) :: r else (g,x) :: qF f d r
theorem RepF.put {fs:List (Str × DV)} {xs:List (Str × V)} (r:RepF K ρ B H fs xs) (f:Str) {d:DV} {v:V} (rd:RepV K ρ B H d v):RepF K ρ B H (qF f d fs) (Yn f v xs):=by
  induction r with
  | nil=>exact .cons ⟨rfl,rd⟩ .nil
  | @cons p q _ _ h t ih =>
    obtain ⟨p1,p2⟩:=p
    obtain ⟨q1,q2⟩:=q
    obtain ⟨h1,h2⟩:=h
    have h1:p1 = q1:=h1
    subst h1
    unfold qF Yn
    by_cases e:p1 = f
    . rw [if_pos e,if_pos e];exact .cons ⟨rfl,rd⟩ t
    . rw [if_neg e,if_neg e];exact .cons ⟨rfl,h2⟩ ih
theorem RepF.len {fs:List (Str × DV)} {xs:List (Str × V)} (r:RepF K ρ B H fs xs):fs.length = xs.length:=Paired.length r
theorem RepF.gs {ρ':List Addr} {B':Addr -> Prop} {H':Hp} {fs:List (Str × DV)} {xs:List (Str × V)} (g:Gs K ρ B H ρ' B' H') (r:RepF K ρ B H fs xs):RepF K ρ' B' H' fs xs:=L2.Paired.mapP r fun _ _ h=>⟨h.1,RepV.gs g _ _ h.2⟩
theorem ORep.ins {a:Addr} {c:Str} {fs:List (Str × DV)} (h:ORep K ρ B H a (.ins c fs)):∃ C dx xs,ClsN K c C /\ H a = some (.ins C dx xs) /\ RepF K ρ B H fs xs:=by
  obtain ⟨C,dx,xs,nc,e,ek,rl⟩:=h
  exact ⟨C,dx,xs,nc,e,uR ek rl⟩
theorem RepF.orep {a C dx:Addr} {c:Str} {fs:List (Str × DV)} {xs:List (Str × V)} (nc:ClsN K c C) (r:RepF K ρ B H fs xs) (e:H a = some (.ins C dx xs)):ORep K ρ B H a (.ins c fs):=⟨C,dx,xs,nc,e,r.to.1,r.to.2⟩
theorem Qae {n:Nat} {a C dx:Addr} {c:Str} {xs xs':List (Str × V)} {fs':List (Str × DV)} (W:WOk K ρ B hp H) (i:ρ[n]? = some a) (nc:ClsN K c C) (e:H a = some (.ins C dx xs)) (r:RepF K ρ B H fs' xs'):Gr K ρ B H ρ B (upd H a (.ins C dx xs')) /\ WOk K ρ B (hp.set n (.ins c fs')) (upd H a (.ins C dx xs')):=by
  have g:Gr K ρ B H ρ B (upd H a (.ins C dx xs')):=Gr.wset i e
  exact ⟨g,W.wset (o':=.ins C dx xs') (v:=.ins c fs') i e ((r.gs (g.gs W.rb)).orep nc QR)⟩
end
def onI {α:Type} (c:Str) (x:DV) (k:Nat -> List (Str × DV) -> M α):M α:=match x with
  | .ref n=>do
    match <- Zi n with
    | .ins c' fs=>do QA (decide (c' = c));k n fs
    | _=>failure
  | _=>failure
theorem js {α:Type} {c:Str} {x:DV} {d:α} {k:Nat -> List (Str × DV) -> M α} {hp hp':Hs} (h:onI c x k hp = some (d,hp')):∃ n fs,x = .ref n /\ hp[n]? = some (.ins c fs) /\ k n fs hp = some (d,hp'):=by
  cases x with
  | ref n =>
    obtain ⟨o,hp1,e1,e2⟩:=Qe (show (Zi n >>= fun o=>(match o with | .ins c' fs=>do QA (decide (c' = c));k n fs | _=>failure:M α)) hp = some (d,hp') from h)
    obtain ⟨e3,rfl⟩:=Zo e1
    cases o with
    | ins c' fs =>
      obtain ⟨_,hp2,e4,e5⟩:=Qe e2
      obtain ⟨hl,rfl⟩:=QB e4
      obtain rfl:=of_decide_eq_true hl
      exact ⟨n,fs,rfl,e3,e5⟩
    | lst _=>cases e2
    | dic _=>cases e2
  | non=>cases h
  | bl _=>cases h
  | int _=>cases h
  | str _=>cases h
  | tup _=>cases h
  | lst _=>cases h
def yW (c f:Str) (x:DV):M DV:=onI c x fun _ fs=>qP (fs.lookup f)
def Vr (c f:Str) (x d:DV):M Unit:=onI c x fun n fs=>do QA (decide (fs.length < 1000));jX n (.ins c (qF f d fs))
def qx (c f:Str) (g:DEx):DEx:=fun env=>do let x <- g env;yW c f x
def Ye (c f:Str) (fo fv:DEx):DSx:=fun env=>do let y <- fv env;let x <- fo env;Vr c f x y;pure (.nx,env)
def zE (c f:Str) (op:DV -> DV -> M DV) (fo fv:DEx):DSx:=fun env=>do let x <- fo env;let v <- yW c f x;let y <- fv env;let z <- op v y;Vr c f x z;pure (.nx,env)
def zo:DV -> DV -> M DV
  | .int i,.int j=>pure (.int (i + j))
  | _,_=>failure
def ve:DV -> DV -> M DV
  | .int i,.int j=>pure (.int (i - j))
  | _,_=>failure
def Zt (c m:Str) (n:Nat) (F:List DV -> M DV) (fo:DEx) (fa:DAx):DEx:=fun env=>do
  let x <- fo env
  onI c x fun _ fs=>QA (fs.lookup m).isNone
  let ds <- fa env
  QA (decide (ds.length + 1 = n))
  F (x :: ds)
def qQ (c:Str) (n:Nat) (F:List DV -> M DV) (fa:DAx):DEx:=fun env=>do
  let ds <- fa env
  QA (decide (ds.length + 1 = n))
  let x <- Y9 (.ins c [])
  let r <- F (x :: ds)
  match r with
  | .non=>pure x
  | _=>failure
section
variable {X:Cx} {o e value:Expr} {c f m:Str} {pos pos' tpos apos:Pos} {fo fv:DEx}
theorem KO {K:PySem.W.Frag} {ρ:List Addr} {B:Addr -> Prop} {H:Hp} {hp hp':Hs} {x d:DV} {v:V} (W:WOk K ρ B hp H) (r:RepV K ρ B H x v) (h:yW c f x hp = some (d,hp')):hp = hp' /\ ∃ a C dx xs u,v = .ref a /\ ClsN K c C /\ H a = some (.ins C dx xs) /\ xs.lookup f = some u /\ RepV K ρ B H d u:=by
  obtain ⟨n,fs,rfl,e1,e2⟩:=js h
  obtain ⟨hl,rfl⟩:=jR e2
  obtain ⟨a,rfl,i,ro⟩:=RepV.refW W r e1
  obtain ⟨C,dx,xs,nc,e,rf⟩:=ro.ins
  rcases rf.look f with ⟨z,_⟩ | ⟨d',u,z,zu,ru⟩
  . rw [hl] at z;cases z
  . rw [hl] at z;cases z
    exact ⟨rfl,a,C,dx,xs,u,rfl,nc,e,zu,ru⟩
theorem Ke {K:PySem.W.Frag} {ρ:List Addr} {B:Addr -> Prop} {H:Hp} {hp hp':Hs} {x d:DV} {v y:V} {z:Unit} (W:WOk K ρ B hp H) (r:RepV K ρ B H x v) (rd:RepV K ρ B H d y) (h:Vr c f x d hp = some (z,hp')):∃ a C dx xs,v = .ref a /\ ClsN K c C /\ H a = some (.ins C dx xs) /\ xs.length < 1000 /\ Gr K ρ B H ρ B (upd H a (.ins C dx (Yn f y xs))) /\ WOk K ρ B hp' (upd H a (.ins C dx (Yn f y xs))):=by
  obtain ⟨n,fs,rfl,e1,e2⟩:=js h
  obtain ⟨_,hp1,e3,e4⟩:=Qe e2
  obtain ⟨hl,rfl⟩:=QB e3
  cases e4
  obtain ⟨a,rfl,i,ro⟩:=RepV.refW W r e1
  obtain ⟨C,dx,xs,nc,e,rf⟩:=ro.ins
  obtain ⟨g,W'⟩:=Qae W i nc e (rf.put f rd)
  exact ⟨a,C,dx,xs,rfl,nc,e,by rw [<- rf.len];exact of_decide_eq_true hl,g,W'⟩
theorem zX (hk:X9 X.K c f) (ho:DE X o fo) (hb:attributeBase o f X.env (eval o X.env) = eval o X.env:=by rfl):DE X (.Attribute o f pos) (qx c f fo) :=
  L2.PE.imp (Qdw ho hb) fun σ H Q ⟨Z,env,ρ,B,hp,d,hp',S,e,k⟩=>by
    obtain ⟨x,hp1,e1,e2⟩:=Qe e
    refine tD.run S e1 fun v ρ1 B1 H1 g1 S1 r1=>?_
    obtain ⟨rfl,a,C,dx,xs,u,rfl,nc,ea,hl,ru⟩:=KO S1.wo r1 e2
    obtain ⟨C',nc',cl,na⟩:=hk.ex
    obtain rfl:=nc.uniq nc'
    exact ⟨a,C,dx,xs,u,rfl,ea,cl,na,hl,k u ρ1 B1 H1 g1 S1.wo ru⟩
theorem jM (hk:X9 X.K c f) (ho:DE X o fo) (hv:DE X value fv) (hs:swapsWith value (some (.Attribute o f pos')) pos.line X.env = pure false:=by rfl):DS X (.Assign [.Attribute o f pos'] value pos) (Ye c f fo fv) :=
  L2.PS.imp (Qd1 ho hv hs) fun D σ H ⟨Z,env,ρ,B,hp,fl,env',hp',S,e,k⟩=>by
    obtain ⟨y,hp1,e1,e⟩:=Qe e
    obtain ⟨x,hp2,e2,e⟩:=Qe e
    obtain ⟨z,hp3,e3,e⟩:=Qe e
    obtain ⟨q,rfl⟩:=Qg e
    cases q
    refine tD.run S e1 fun u ρ1 B1 H1 g1 S1 r1=>tD.run S1 e2 fun v ρ2 B2 H2 g2 S2 r2=>?_
    obtain ⟨a,C,dx,xs,rfl,nc,ea,hl,g,W⟩:=Ke S2.wo r2 (RepV.grow S1.wo.rb g2 _ _ r1) e3
    obtain ⟨C',nc',cl,na⟩:=hk.ex
    obtain rfl:=nc.uniq nc'
    exact ⟨a,C,dx,xs,rfl,ea,cl,na,hl,k σ ρ2 B2 _ ((g1.trans (g2.trans g)).gs S.wo.rb) (S2.grow g W)⟩
theorem VS (hk:X9 X.K c f) (ho:DE X o fo) (hv:DE X value fv):DS X (.AugAssign (.Attribute o f tpos) .Add value pos) (zE c f zo fo fv) :=
  L2.PS.imp (gw ho hv QdI) fun D σ H ⟨Z,env,ρ,B,hp,fl,env',hp',S,e,k⟩=>by
    obtain ⟨x,hp1,e1,e⟩:=Qe e
    obtain ⟨v,hp2,e2,e⟩:=Qe e
    obtain ⟨y,hp3,e3,e⟩:=Qe e
    obtain ⟨z,hp4,e4,e⟩:=Qe e
    obtain ⟨_,hp5,e5,e⟩:=Qe e
    obtain ⟨q,rfl⟩:=Qg e
    cases q
    refine tD.run S e1 fun vx ρ1 B1 H1 g1 S1 r1=>?_
    obtain ⟨rfl,a,C,dx,xs,u,rfl,nc,ea,hl,ru⟩:=KO S1.wo r1 e2
    obtain ⟨C',nc',cl,na⟩:=hk.ex
    obtain rfl:=nc.uniq nc'
    refine ⟨a,C,dx,xs,u,rfl,ea,cl,na,hl,tD.run S1 e3 fun w ρ2 B2 H2 g2 S2 r2=>?_⟩
    have ru2:=RepV.grow S1.wo.rb g2 _ _ ru
    have r12:=RepV.grow S1.wo.rb g2 _ _ r1
    unfold zo at e4
    split at e4
    . obtain ⟨rfl,rfl⟩:=Qg e4
      refine ⟨_,_,ru2.intI,r2.intI,?_⟩
      obtain ⟨a',C2,dx',xs',q1,nc2,ea',hl',g,W⟩:=Ke S2.wo r12 ZG e5
      cases q1
      obtain rfl:=nc2.uniq nc
      exact ⟨dx',xs',ea',hl',k σ ρ2 B2 _ ((g1.trans (g2.trans g)).gs S.wo.rb) (S2.grow g W)⟩
    . cases e4
theorem kH {C:Addr} {n:Nat} {F:List DV -> M DV} {fa:DAx} {σ:St} {H:Hp} {Q:VK} (nc:ClsN X.K c C) (h:tD X.K (Zt c m n F fo fa) σ H Q):kK C m (spD X.K n F) [] E0 (tD X.K fo) (tDA X.K fa) σ H Q:=by
  obtain ⟨Z,env,ρ,B,hp,d,hp',S,e,k⟩:=h
  obtain ⟨x,hp1,e1,e⟩:=Qe e
  obtain ⟨_,hp2,e2,e⟩:=Qe e
  obtain ⟨ds,hp3,e3,e⟩:=Qe e
  obtain ⟨_,hp4,e4,ef⟩:=Qe e
  obtain ⟨hl,rfl⟩:=QB e4
  refine tD.run S e1 fun v ρ1 B1 H1 g1 S1 r1=>?_
  obtain ⟨i,fs,rfl,w1,w2⟩:=js e2
  obtain ⟨hn,rfl⟩:=QB w2
  obtain ⟨a,rfl,_,ro⟩:=RepV.refW S1.wo r1 w1
  obtain ⟨C',dx,xs,nc',ea,rf⟩:=ro.ins
  obtain rfl:=nc'.uniq nc
  have hx:xs.lookup m = none:=by
    rcases rf.look m with ⟨_,z⟩ | ⟨_,_,z,_,_⟩
    . exact z
    . rw [z] at hn;cases hn
  refine ⟨a,dx,xs,rfl,ea,hx,tDA.run S1 e3 fun vs ρ2 B2 H2 g2 S2 r2=>?_⟩
  refine ⟨?_,ρ2,B2,hp3,_,d,hp',S2.wo,?_,ef,k.after (g1.trans g2)⟩
  . rw [List.append_nil,List.length_cons,<- r2.length];exact of_decide_eq_true hl
  . rw [List.append_nil];exact RepL.cons (RepV.grow S1.wo.rb g2 _ _ r1) r2
theorem z0 {k j n:Nat} {F:List DV -> M DV} {es:List Expr} {fa:DAx} {pl:Sem Bool} (h:Xq X.prog X.w X.K X.mg X.base c m j n F) (hr:Room k X.A) (hj:j <= k) (hx:Ym CX0 X E0) (ho:DE X o fo) (ha:DA X (e :: es) fa)
    (hst:starEach (e :: es) X.env = (false,eval e X.env) :: starEach es X.env:=by rfl) (hpl:(backTo pos (starEach es X.env)).any (·.1) = false:=by rfl)
    (ht:eval (.Call (.Attribute o m apos) (e :: es) [] pos) X.env = (do
      let ov <- eval o X.env
      standAt apos.atName
      let (f,first) <- holding [ov] (getMethod ov m pl)
      callWith pos f first (backTo pos (starEach (e :: es) X.env)) (backToKw pos (keywordEach [] X.env))):=by rfl):DE X (.Call (.Attribute o m apos) (e :: es) [] pos) (Zt c m n F fo fa):=by
  obtain ⟨C,g,fd,ps,nc,cl,hm,F',hb⟩:=h.ex
  exact L2.PE.imp (QcU (pl:=pl) ho cl hm F' (hr.mono hj) hb .nil hx ha hst hpl ht) fun σ H Q q=>kH nc q
theorem Ji {k j n:Nat} {F:List DV -> M DV} {pl:Sem Bool} (h:Xq X.prog X.w X.K X.mg X.base c m j n F) (hr:Room k X.A) (hj:j <= k) (hx:Ym CX0 X E0) (ho:DE X o fo)
    (ht:eval (.Call (.Attribute o m apos) [] [] pos) X.env = (do
      let ov <- eval o X.env
      standAt apos.atName
      let (f,first) <- holding [ov] (getMethod ov m pl)
      callWith pos f first (backTo pos (starEach [] X.env)) (backToKw pos (keywordEach [] X.env))):=by rfl):DE X (.Call (.Attribute o m apos) [] [] pos) (Zt c m n F fo Qk):=by
  obtain ⟨C,g,fd,ps,nc,cl,hm,F',hb⟩:=h.ex
  refine L2.PE.imp (Qa7 (pl:=pl) ho cl hm F' (hr.mono hj) hb .nil hx ht) fun σ H Q q=>?_
  obtain ⟨Z,env,ρ,B,hp,d,hp',S,e,k⟩:=q
  obtain ⟨x,hp1,e1,e⟩:=Qe e
  obtain ⟨_,hp2,e2,e⟩:=Qe e
  obtain ⟨ds,hp3,e3,e⟩:=Qe e
  obtain ⟨_,hp4,e4,ef⟩:=Qe e
  obtain ⟨hl,rfl⟩:=QB e4
  obtain ⟨rfl,rfl⟩:=Qg e3
  refine tD.run S e1 fun v ρ1 B1 H1 g1 S1 r1=>?_
  obtain ⟨i,fs,rfl,w1,w2⟩:=js e2
  obtain ⟨hn,rfl⟩:=QB w2
  obtain ⟨a,rfl,_,ro⟩:=RepV.refW S1.wo r1 w1
  obtain ⟨C',dx,xs,nc',ea,rf⟩:=ro.ins
  obtain rfl:=nc'.uniq nc
  have hx:xs.lookup m = none:=by
    rcases rf.look m with ⟨_,z⟩ | ⟨_,_,z,_,_⟩
    . exact z
    . rw [z] at hn;cases hn
  exact ⟨a,dx,xs,rfl,ea,hx,of_decide_eq_true hl,ρ1,B1,hp1,_,d,hp',S1.wo,RepL.cons r1 RepL.nil,ef,k.after g1⟩
theorem kr {k:Nat} {C g:Addr} {fd:FuncData} {ps:List Str} {sp:Sp} {pins:List (Addr × Obj)} {σ:St} {H:Hp} {s:Shared} {Q:VK} {us:List Value} {vs:List V} (M:Mk X.K C g) (F:FnOk X.prog X.w X.K X.mg X.base CX0 k g fd ps sp) (hr:Room (k + 1) X.A) (hb:Binds X.K fd ps [])
    (hx:Ym CX0 X E0) (I:Inv X pins σ H s) (r:Vals vs us)
    (h:∀ x dx,H x = none -> H dx = none -> dx ≠ x -> X.K.lookup x = none -> sp (.ref x :: vs) (upd (upd H dx (.own x)) x (.ins C dx [])) (fun v H2=>v = .non /\ Q (.ref x) H2) E0) :
    wpAny (model X.prog X.w) X.A (call (.ref C) us) (EP X pins σ Q) X.xe s:=by
  have kf:X.K.lookup (s.heap.objs.size + 1) = none:=by
    cases q:X.K.lookup (s.heap.objs.size + 1) with
    | none=>rfl
    | some o=>exact absurd (Heap.lt_size (I.kIn _ _ q)) (Nat.not_lt.mpr (Nat.le_succ _))
  have hq:=h _ _ (I.hok.fresh (Nat.le_succ _)) (I.hok.fresh (Nat.le_refl _)) (Nat.ne_of_lt (Nat.lt_succ_self _)) kf
  have J:=Inv.made (C:=C) I
  have rr:Vals (V.ref (s.heap.objs.size + 1) :: vs) (Value.ref (s.heap.objs.size + 1) :: us):=.cons rfl r
  have ll:((Value.ref (s.heap.objs.size + 1) :: us) ++ []).length = ps.length:=by
    rw [List.append_nil,<- rr.length];exact F.len _ _ _ _ hq
  have bb:=hb _ (Value.ref (s.heap.objs.size + 1) :: us) J.kIn ll
  rw [List.append_nil] at bb
  refine wpAny_call (Qbl (f:=g) I.kIn M.makes M.init (beq_iff_eq.mp M.fn) (codeAny_mono (F.run _ X.stack _ _ ⟨Value.ref (s.heap.objs.size + 1) :: us,[]⟩ _ _ _ E0 (hr.make C us []) (J.env0.make C us []) bb rr hq) fun q s' z=>?_))
  cases q with
  | error e=>exact hx pins σ _ _ e s' J z
  | ok fl =>
    cases fl with
    | ret u =>
      obtain ⟨v,H',I3,rv,ev,q3⟩:=J.after z
      subst ev
      exact ⟨rv,⟨V.ref (s.heap.objs.size + 1),H',I3,rfl,q3⟩⟩
    | next=>exact z.elim
    | brk=>exact z.elim
    | cont=>exact z.elim
theorem Qai {C:Addr} {n:Nat} {F:List DV -> M DV} {vs:List V} {K:PySem.W.Frag} {ρ:List Addr} {B:Addr -> Prop} {hp hp':Hs} {H:Hp} {ds:List DV} {d:DV} {Q:VK} (nc:ClsN K c C) (hl:ds.length + 1 = n) (W:WOk K ρ B hp H) (r:RepL K ρ B H ds vs)
    (e:(do let x <- Y9 (.ins c []);let r <- F (x :: ds);match r with | .non=>pure x | _=>failure:M DV) hp = some (d,hp')) (k:Fol K ρ B H d hp' Q) :
    ∀ x dx,H x = none -> H dx = none -> dx ≠ x -> K.lookup x = none -> spD K n F (.ref x :: vs) (upd (upd H dx (.own x)) x (.ins C dx [])) (fun v H2=>v = .non /\ Q (.ref x) H2) E0:=by
  intro x dx hx hdx ne kf
  have e1:F (.ref hp.length :: ds) (hp ++ [.ins c []]) = some (.non,hp') /\ d = .ref hp.length:=by
    obtain ⟨y,hp1,a1,a2⟩:=Qe e
    cases a1
    obtain ⟨y,hp2,a3,a4⟩:=Qe a2
    cases y with
    | non=>obtain ⟨rfl,rfl⟩:=Qg a4;exact ⟨a3,rfl⟩
    | bl _=>cases a4
    | int _=>cases a4
    | str _=>cases a4
    | tup _=>cases a4
    | lst _=>cases a4
    | ref _=>cases a4
  obtain ⟨e1,rfl⟩:=e1
  have hx':upd H dx (.own x) x = none:=by rw [QE (Ne.symm ne)];exact hx
  have g0:Gr K ρ B H ρ B (upd H dx (.own x)):=Gr.laid hdx
  have g1:Gr K ρ B (upd H dx (.own x)) (ρ ++ [x]) (zr B x) (upd (upd H dx (.own x)) x (.ins C dx [])):=Gr.wnew hx' kf
  have W1:WOk K (ρ ++ [x]) (zr B x) (hp ++ [.ins c []]) (upd (upd H dx (.own x)) x (.ins C dx [])):=(W.laid hdx).wnew hx' kf (RepF.orep nc .nil QR)
  have rx:RepV K (ρ ++ [x]) (zr B x) (upd (upd H dx (.own x)) x (.ins C dx [])) (.ref hp.length) (.ref x):=by
    unfold RepV
    exact ⟨x,rfl,by rw [<- W.len];simp⟩
  refine ⟨?_,ρ ++ [x],zr B x,hp ++ [.ins c []],.ref hp.length :: ds,.non,hp',W1,RepL.cons rx (RepL.grow W.rb (g0.trans g1) _ _ r),e1,fun v ρ' B' H' g' W' r'=>?_⟩
  . rw [List.length_cons,<- r.length];exact hl
  . exact ⟨r'.nonI,k _ ρ' B' H' ((g0.trans g1).trans g') W' (RepV.grow W1.rb g' _ _ rx)⟩
theorem Qcq {k j n:Nat} {F:List DV -> M DV} {es:List Expr} {fa:DAx} {p:Pos} (h:QcX X.prog X.w X.K X.mg X.base c j n F) (hr:Room k X.A) (hj:j + 1 <= k) (hx:Ym CX0 X E0) (ha:DA X (e :: es) fa) (hg:Gl X c:=by rfl)
    (hdb:(c == ("__debug__" : Str)) = false:=by decide) (he:starEach (e :: es) X.env = (false,eval e X.env) :: starEach es X.env:=by rfl) (hpl:(backTo pos (starEach es X.env)).any (·.1) = false:=by rfl):DE X (.Call (.Name c p) (e :: es) [] pos) (qQ c n F fa):=by
  obtain ⟨C,g,fd,ps,nc,hm,M,F',hb⟩:=h.ex
  intro pins s σ H Q I q
  obtain ⟨Z,env,ρ,B,hp,d,hp',S,e,k⟩:=q
  obtain ⟨ds,hp1,e1,e2⟩:=Qe e
  obtain ⟨_,hp2,e3,e4⟩:=Qe e2
  obtain ⟨hl,rfl⟩:=QB e3
  refine wpAny_Call_Name_kw (UX I hg hm ?_ hdb)
  refine PySem.W.callWith_K (h₀:=X.base) I.ok.mod.kin M.kp (thn (ha pos pins s σ H _ I (tDA.run S e1 fun vs ρ1 B1 H1 g1 S1 r1=>Qai (Q:=Q) nc (of_decide_eq_true hl) S1.wo r1 e4 (k.after g1))) fun us s1 ⟨vs,H1,I1,r,q⟩=>⟨I1.kIn,?_⟩) he hpl
  exact kr M F' (hr.mono hj) hb hx I1 r q
end
theorem QaB {P:Program} {w:World} {K:PySem.W.Frag} {mg:Str -> Option Value} {base:Heap} {x qual:Str} {stm:Stmt} {g:Addr} {fd:FuncData} {N ps:List Str} {k:Nat} {body:DSx} (F:Fun K x qual stm g fd) (Sc:QG N ps (Qm stm))
    (h:∀ (cdv:Value) (A:Around) (outer:List Env) (s:Shared) (H:Hp) (E:XK),Room k (A.deeper (envOfC qual (Qm stm) s.heap.objs.size g cdv)) -> DSs (yP CX0 P w K mg base N qual (Qm stm) g cdv A outer s H E).nox (QC stm) body) :
    FnOk P w K mg base CX0 (k + 1) g fd ps (spD K ps.length (Zl N.length body)):=by
  refine F.ok Sc (fun vs H Q E h=>h.1) (fun cdv A outer s H vs Q E hr sp=>?_)
  obtain ⟨hn,ρ,B,hp,ds,d,hp',W,r,e,k⟩:=sp
  obtain ⟨⟨fl,env'⟩,hp1,e1,e2⟩:=Qe e
  refine ⟨_,h cdv A outer s H E hr,⟨ρ,B,H⟩,_,ρ,B,hp,fl,env',hp1,jL W r,e1,fun σ' ρ' B' H' g' S'=>?_⟩
  cases fl with
  | nx=>obtain ⟨rfl,rfl⟩:=Qg e2;exact k .non ρ' B' H' S'.gr S'.wo jF
  | rt x=>obtain ⟨rfl,rfl⟩:=Qg e2;exact fun v rv=>k v ρ' B' H' S'.gr S'.wo rv
  | bk=>cases e2
  | ct=>cases e2
theorem XN {P:Program} {w:World} {K:PySem.W.Frag} {mg:Str -> Option Value} {base:Heap} {c m qual:Str} {stm:Stmt} {C g:Addr} {fd:FuncData} {N ps:List Str} {k:Nat} {body:DSx} (nc:ClsN K c C) (cl:Cls K C) (me:jY K C m g) (F:Fun K m qual stm g fd) (Sc:QG N ps (Qm stm))
    (hb:∀ (kV doc pm:Value) (an:Option Addr) (cdv ct:Value) (us:List Value),us.length = ps.length -> bindArgs (PySem.W.fnOf m qual (QF stm) (QC stm) (Qm stm) .none kV doc pm an cdv ct) ⟨us,[]⟩ = pure (ps.zip us))
    (h:∀ (cdv:Value) (A:Around) (outer:List Env) (s:Shared) (H:Hp) (E:XK),Room k (A.deeper (envOfC qual (Qm stm) s.heap.objs.size g cdv)) -> DSs (yP CX0 P w K mg base N qual (Qm stm) g cdv A outer s H E).nox (QC stm) body) :
    Xq P w K mg base c m (k + 1) ps.length (Zl N.length body):=⟨C,g,fd,ps,nc,cl,me,QaB F Sc h,F.binds hb⟩
theorem QaW {P:Program} {w:World} {K:PySem.W.Frag} {mg:Str -> Option Value} {base:Heap} {c qual:Str} {stm:Stmt} {C g:Addr} {fd:FuncData} {N ps:List Str} {k:Nat} {body:DSx} (nc:ClsN K c C) (hm:mg c = some (.ref C)) (me:Mk K C g) (F:Fun K "__init__" qual stm g fd) (Sc:QG N ps (Qm stm))
    (hb:∀ (kV doc pm:Value) (an:Option Addr) (cdv ct:Value) (us:List Value),us.length = ps.length -> bindArgs (PySem.W.fnOf "__init__" qual (QF stm) (QC stm) (Qm stm) .none kV doc pm an cdv ct) ⟨us,[]⟩ = pure (ps.zip us))
    (h:∀ (cdv:Value) (A:Around) (outer:List Env) (s:Shared) (H:Hp) (E:XK),Room k (A.deeper (envOfC qual (Qm stm) s.heap.objs.size g cdv)) -> DSs (yP CX0 P w K mg base N qual (Qm stm) g cdv A outer s H E).nox (QC stm) body) :
    QcX P w K mg base c (k + 1) ps.length (Zl N.length body):=⟨C,g,fd,ps,nc,hm,me,QaB F Sc h,F.binds hb⟩
section
variable {X:Cx}
def Qde:DSx:=fun _=>failure
theorem QbR {st:Stmt}:DS X st Qde:=L2.PS.imp QaZ fun D σ H ⟨Z,env,ρ,B,hp,fl,env',hp',S,e,k⟩=>by cases e
def xY (i:Nat) (op:DV -> DV -> M DV) (fe:DEx):DSx:=fun env=>do let v <- Qc i env;let y <- fe env;let z <- op v y;pure (.nx,env.set i (.val z))
theorem Qcp {i:Nat} {op:DV -> DV -> M DV} {g:Int -> Int -> Int} {fe:DEx} {D:yZ} {σ:St} {H:Hp} (ho:∀ v y z hp hp',op v y hp = some (z,hp') -> ∃ a b,v = .int a /\ y = .int b /\ z = .int (g a b) /\ hp = hp') (h:tDS X.K (xY i op fe) D σ H):QeV i (tD X.K fe) (ipI g) D σ H:=by
  obtain ⟨Z,env,ρ,B,hp,fl,env',hp',S,e,k⟩:=h
  obtain ⟨v,hp1,e1,e⟩:=Qe e
  obtain ⟨y,hp2,e2,e⟩:=Qe e
  obtain ⟨z,hp3,e3,e⟩:=Qe e
  obtain ⟨q,rfl⟩:=Qg e
  cases q
  obtain ⟨a,b,rfl,rfl,rfl,rfl⟩:=ho _ _ _ _ _ e3
  have hv:env[i]? = some (.val (.int a)) /\ hp = hp1:=by
    unfold Qc at e1
    cases q:env[i]? with
    | none=>rw [q] at e1;cases e1
    | some sl =>
      rw [q] at e1
      cases sl with
      | val d=>obtain ⟨h1,h2⟩:=Qg e1;exact ⟨by rw [h1],h2⟩
      | un=>cases e1
      | acc _=>cases e1
  obtain ⟨hv,rfl⟩:=hv
  obtain ⟨x,hx,rx⟩:=S.slot i _ hv
  refine ⟨x,hx,tD.run S e2 fun w ρ1 B1 H1 g1 S1 r1=>⟨a,b,rx.intI,r1.intI,k _ ρ1 B1 H1 (g1.gs S.wo.rb) (S1.set ZG)⟩⟩
theorem gG {v y z:DV} {hp hp':Hs} (h:zo v y hp = some (z,hp')):∃ a b,v = .int a /\ y = .int b /\ z = .int (a + b) /\ hp = hp':=by
  unfold zo at h
  split at h
  . obtain ⟨rfl,rfl⟩:=Qg h;exact ⟨_,_,rfl,rfl,rfl,rfl⟩
  . cases h
theorem gJ (i:Nat) {x:Str} {e:Expr} {fe:DEx} {pos pos':Pos} (hN:X.N.Nodup) (he:DE X e fe) (hi:X.N[i]? = some x:=by rfl) (hx:Loc X.env.scope x:=by first | exact Or.inl rfl | exact Or.inr rfl) (hf:X.fn x = true ∨ X.env.scope.names.lookup x = some .local:=by first | exact .inl rfl | exact .inr rfl | assumption):DS X (.AugAssign (.Name x pos') .Add e pos) (xY i zo fe) :=
  L2.PS.imp (Qdr hN hi hx he Qdo hf) fun D σ H q=>Qcp (fun _ _ _ _ _ h=>gG h) q
end
end D
namespace D
open PySem PySem.Spec PyProof.Rows L2
theorem X2 {α β:Type} (m:M α) (k:α -> M β) (hp:Hs):(m >>= k) hp = (m hp).bind fun p=>k p.1 p.2:=by
  show (StateT.bind m k hp) = _
  unfold StateT.bind
  cases m hp with
  | none=>rfl
  | some p=>obtain ⟨a,h⟩:=p;rfl
theorem Y2 {α β:Type} (f:α -> β) (m:M α) (hp:Hs):(f <$> m) hp = (m hp).map fun p=>(f p.1,p.2):=by
  show (StateT.map f m hp) = _
  unfold StateT.map
  cases m hp with
  | none=>rfl
  | some p=>obtain ⟨a,h⟩:=p;rfl
theorem XO {α:Type} (a:α) (hp:Hs):(pure a:M α) hp = some (a,hp):=rfl
theorem X0 {α:Type} (hp:Hs):(failure:M α) hp = none:=rfl
theorem JV (b:Bool) (hp:Hs):QA b hp = if b = true then some ((),hp) else none:=by cases b <;> rfl
theorem YS (n:Nat) (hp:Hs):Zi n hp = (hp[n]?).map fun o=>(o,hp):=by unfold Zi;cases hp[n]? <;> rfl
theorem qf (n:Nat) (o:OV) (hp:Hs):jX n o hp = some ((),hp.set n o):=rfl
theorem YR (o:OV) (hp:Hs):Y9 o hp = some (.ref hp.length,hp ++ [o]):=rfl
theorem Z3 (hp:Hs) (k:Nat) (X:OV) (h:(hp[k]?).isSome = true):(hp.set k X)[k]? = some X:=by
  have:k < hp.length:=by
    rcases Nat.lt_or_ge k hp.length with q | q
    . exact q
    . rw [List.getElem?_eq_none q] at h;cases h
  rw [List.getElem?_set_self this]
theorem JX (hp:Hs) (k n:Nat) (X:OV) (h:k ≠ n):(hp.set k X)[n]? = hp[n]?:=List.getElem?_set_ne h
theorem Jr (hp:Hs) (X:OV):(hp ++ [X])[hp.length]? = some X:=by simp
end D
namespace D
open PySem PySem.Spec PyProof.Rows L2
mutual
def KRep (K:PySem.W.Frag):DV -> V -> Prop
  | .non,v=>v = .non
  | .bl b,v=>v = .bl b
  | .int i,v=>v = .int i
  | .str x,v=>v = .str x
  | .tup ds,v=>∃ (a:Addr) (o:Obj) (its:Array Value) (n:Nat) (xs:List V),v = .ref a /\ K.lookup a = some o /\ o.cls = .type "tuple" /\ o.data = .seq its n /\ its.size <= sizeLine /\ Vals xs its.toList /\ KRepL K ds xs
  | _,_=>False
def KRepL (K:PySem.W.Frag):List DV -> List V -> Prop
  | [],xs=>xs = []
  | d :: ds,xs=>∃ x r,xs = x :: r /\ KRep K d x /\ KRepL K ds r
end
mutual
theorem KRep.rep {K:PySem.W.Frag} {ρ:List Addr} {B:Addr -> Prop} {H:Hp} (hb:∀ a,B a -> K.lookup a = none):∀ (d:DV) (v:V),KRep K d v -> RepV K ρ B H d v
  | .non,_,h=>by unfold KRep at h;unfold RepV;exact h
  | .bl _,_,h=>by unfold KRep at h;unfold RepV;exact h
  | .int _,_,h=>by unfold KRep at h;unfold RepV;exact h
  | .str _,_,h=>by unfold KRep at h;unfold RepV;exact h
  | .lst _,_,h=>by unfold KRep at h;exact h.elim
  | .ref _,_,h=>by unfold KRep at h;exact h.elim
  | .tup ds,_,h=>by
    unfold KRep at h;unfold RepV
    obtain ⟨a,o,its,n,xs,rfl,h1,h2,h3,h4,h5,h6⟩:=h
    exact ⟨a,xs,rfl,fun z=>(by rw [hb a z] at h1;cases h1),.inr ⟨o,its,n,h1,h2,h3,h4,h5⟩,KRepL.rep hb ds xs h6⟩
theorem KRepL.rep {K:PySem.W.Frag} {ρ:List Addr} {B:Addr -> Prop} {H:Hp} (hb:∀ a,B a -> K.lookup a = none):∀ (ds:List DV) (xs:List V),KRepL K ds xs -> RepL K ρ B H ds xs
  | [],_,h=>by unfold KRepL at h;unfold RepL;exact h
  | d :: ds,_,h=>by
    unfold KRepL at h;unfold RepL
    obtain ⟨x,r,e,h1,h2⟩:=h
    exact ⟨x,r,e,KRep.rep hb d x h1,KRepL.rep hb ds r h2⟩
end
theorem GZ {K:PySem.W.Frag} {ds:List DV} {a:Addr} {od:Option Addr} {its:Array Value} {n:Nat} {sl:Array (Option Value)} {xs:List V} (h:K.lookup a = some ⟨.type "tuple", od,.seq its n,sl⟩) (hs:its.size <= sizeLine) (hv:Vals xs its.toList) (hl:KRepL K ds xs):KRep K (.tup ds) (.ref a):=by
  unfold KRep;exact ⟨a,_,its,n,xs,rfl,h,rfl,rfl,hs,hv,hl⟩
theorem Qad {K:PySem.W.Frag}:KRep K .non .non:=by unfold KRep;rfl
theorem QdM {K:PySem.W.Frag} {i:Int}:KRep K (.int i) (.int i):=by unfold KRep;rfl
theorem Ue {K:PySem.W.Frag}:KRepL K [] []:=by unfold KRepL;rfl
theorem qM {K:PySem.W.Frag} {d:DV} {ds:List DV} {x:V} {r:List V} (h:KRep K d x) (h':KRepL K ds r):KRepL K (d :: ds) (x :: r):=by unfold KRepL;exact ⟨x,r,rfl,h,h'⟩
theorem QbK {X:Cx} {x:Str} {ds:List DV} {a:Addr} {pos:Pos} (hg:Gl X x) (hm:X.mg x = some (.ref a)) (hk:KRep X.K (.tup ds) (.ref a)) (hd:(x == ("__debug__" : Str)) = false:=by decide):DE X (.Name x pos) (eC (.tup ds)) :=
  (gb (v:=.ref a) hg hm rfl hd).imp fun σ H Q ⟨Z,env,ρ,B,hp,d',hp',S,e,k⟩=>by
    obtain ⟨rfl,rfl⟩:=Qg e
    exact k _ ρ B H Gr.refl S.wo (KRep.rep S.wo.bk _ _ hk)
end D
namespace D
open PySem PySem.Spec PyProof.Rows L2
theorem Uh {b:DV -> DSx} {d:DV} {ds:List DV} {env env1:En} {hp hp1:Hs} (h:b d env hp = some ((.nx,env1),hp1)):XG b (d :: ds) env hp = XG b ds env1 hp1:=by
  rw [XG,Qf h]
theorem yt (hp:Hs) (x:OV) (t:Hs):(hp ++ x :: t)[hp.length]? = some x:=by simp
theorem GL (hp:Hs) (x y:OV) (t:Hs):(hp ++ x :: t).set hp.length y = hp ++ y :: t:=by
  rw [List.set_append_right _ _ (Nat.le_refl _)];simp
theorem uP {hp:Hs} {n:Nat} {x:OV} (h:hp[n]? = some x):hp.set n x = hp:=by
  obtain ⟨hl,rfl⟩:=List.getElem?_eq_some_iff.mp h
  exact List.set_getElem_self hl
theorem ur {n i:Nat} {d:DV} (h:(QN 0 n)[i]? = some d):i < n /\ d = .int (i:Int):=by
  obtain ⟨h1,h2⟩:=Y0 h
  exact ⟨h1,by rw [h2];simp⟩
theorem YN {n:Nat} (h:n <= 1000000):X7 (n:Int) = true:=K8 (by omega) (by omega)
theorem ub {n i:Nat} (h:i < n):ixN n (i:Int) = some i:=by unfold ixN;rw [if_pos (by omega),if_pos (by omega)];simp
theorem YZ {f:DXx} {g:DGx} {body:DSx} {env:En} {hp hp1:Hs} {ds:List DV} {r:(Fl × En) × Hs} (h:f env hp = some (nxD ds,hp1)) (h':zS (nxD ds) (fun d env=>do let env' <- g d env;body env') 100000 0 env hp1 = some r):YO f g body env hp = some r:=by
  unfold YO
  rw [Qf h];exact h'
theorem J7 {f:DIx} {g:DGx} {body:DSx} {env:En} {hp hp1:Hs} {ds:List DV} {r:(Fl × En) × Hs} (h:f env hp = some (ds,hp1)) (h':XG (fun d env=>do let env' <- g d env;body env') ds env hp1 = some r):jP f g body env hp = some r:=by
  unfold jP
  rw [Qf h];exact h'
theorem Qcy {m:Nat} (h:m <= 1000000) (hp:Hs):GR [.int (m:Int)] hp = some (QN 0 m,hp):=by
  have e:GR [.int (m:Int)] = pure (QN 0 (m:Int).toNat):=by
    simp only [GR,YN h,QA,if_true,pure_bind]
  rw [e,Int.toNat_natCast];rfl
theorem xM {f:DAx} {env:En} {hp hp1:Hs} {m:Nat} (h:f env hp = some ([.int (m:Int)],hp1)) (hm:m <= 1000000):Vn f env hp = some (QN 0 m,hp1):=by
  unfold Vn
  rw [Qf h];exact Qcy hm hp1
theorem XM {f:DEx} {env:En} {hp hp1:Hs} {ds:List DV} (h:f env hp = some (.lst ds,hp1)):xLs f env hp = some (nxD ds,hp1):=by
  unfold xLs
  rw [Qf h];rfl
end D
namespace D
open PySem PySem.Spec PyProof.Rows L2
section
variable {X:Cx}
def Jl (x:DV):List DV -> M DV
  | [y]=>onL x fun n ds=>onL y fun _ es=>do QA (decide (ds.length + es.length <= lim));jX n (.lst (ds ++ es));pure .non
  | _=>failure
theorem YK:MtR X "list.extend" (tPm X.K Jl):=by
  intro pins s σ H x vs v us Q I rx rv h
  obtain ⟨ρ,B,hp,dx,es,d,hp',W,r1,r2,e,k⟩:=h
  unfold Jl at e
  split at e
  . rename_i y
    obtain ⟨n,ds,rfl,h0,e⟩:=yf e
    obtain ⟨m,zs,rfl,h0',e⟩:=yf e
    obtain ⟨_,hp1,e1,e2⟩:=Qe e
    obtain ⟨hl,rfl⟩:=QB e1
    cases e2
    obtain ⟨a,rfl,i1,xs,h1,l1⟩:=RepV.refW W r1 h0
    obtain ⟨w,rfl,rw'⟩:=r2.oneI
    obtain ⟨b,rfl,i2,ys,h2,l2⟩:=RepV.refW W rw' h0'
    obtain ⟨g,W'⟩:=yg W i1 h1 (RepL.append l1 l2)
    exact gL pins s σ H _ _ v us Q I rx rv ⟨a,b,xs,ys,rfl,rfl,h1,h2,by rw [<- l1.length,<- l2.length];exact Nat.le_trans (of_decide_eq_true hl) yr,k _ ρ B _ g W' jF⟩
  . cases e
end
end D
namespace L2
open PySem PySem.Spec PyProof.Rows
abbrev Xo (h:Heap) (z p o:Addr) (f:Value) (b:Bool):Prop:=h.get? z = some { cls:=Value.type "zip", data:=Data.fields #[f,Value.bool b,Value.bool false,Value.ref p,Value.ref o] }
structure ZU (h:Heap) (z p o i j a b:Addr) (n:Nat):Prop where
  zz:∃ f fl,Xo h z p o f fl /\ (f = .none ∨ ∃ T:Nat,f = rawInt T)
  pp:IsPair h p (.ref i) (.ref j)
  oo:∃ x y,IsPair h o x y
  ii:h.IsTupleIter i a n
  jj:h.IsTupleIter j b n
section
variable {prog:Program} {w:World} {A:Around} {E:Value -> Shared -> Prop} {s:Shared}
theorem KP {a:Addr} {Q:Option Obj -> Shared -> Prop} (h:Q (s.heap.get? a) s):wpAny (model prog w) A (loadIfAlive a) Q E s:=by
  intro Γ p hΓ
  unfold loadIfAlive
  rw [Sem.wp_loadIfAlive]
  exact wpAny_pure (M:=model prog w) (A:=A) (E:=E) h Γ p hΓ
theorem uK {z p o:Addr} {f:Value} {fl:Bool} {Q:Bool -> Shared -> Prop} (zz:Xo s.heap z p o f fl) (hf:f = .none ∨ ∃ T:Nat,f = rawInt T) (q1:Q true s) (q2:∀ g,Xo g z p o f true -> Heap.ExtBut z s.heap g -> g.objs.size = s.heap.objs.size -> Q false { s with heap:=g }) :
    wpAny (model prog w) A (Builtin.SmallTypes.ownedTupleIsFree (.ref z)) Q E s:=by
  unfold Builtin.SmallTypes.ownedTupleIsFree
  rcases hf with rfl | ⟨T,rfl⟩
  . exact wpAny_bind (wpAny_field zz rfl (x:=.none) rfl (wpAny_pure q1))
  . refine wpAny_bind (wpAny_field zz rfl (x:=rawInt T) rfl ?_)
    show wpAny _ _ (loadIfAlive (T:Int).toNat >>= _) _ _ _
    refine wpAny_bind (KP ?_)
    cases hT:s.heap.get? (T:Int).toNat with
    | none=>exact wpAny_pure q1
    | some ob =>
      show wpAny _ _ (field (.ref z) 1 >>= _) _ _ _
      refine wpAny_bind (wpAny_field zz rfl (x:=.bool fl) rfl ?_)
      cases fl with
      | true=>exact wpAny_pure (q2 _ zz (fun _ _ _ e=>e) rfl)
      | false =>
        show wpAny _ _ (setField (.ref z) 1 (.bool true) >>= _) _ _ _
        exact wpAny_bind (wpAny_setField_rec zz (by simp) fun g z1 k1=>wpAny_pure (q2 g z1 k1.extBut k1.1))
theorem ud {z p o i j a b:Addr} {n:Nat} {xs ys:Array Value} {x y:Value} {Q:Value -> Shared -> Prop} (D:ZA z p o i j a b) (S:ZU s.heap z p o i j a b n) (ha:s.heap.IsTuple a xs) (hb:s.heap.IsTuple b ys) (hx:xs[n]? = some x) (hy:ys[n]? = some y)
    (k:∀ g,ZU g z p o i j a b (n + 1) -> IsPair g s.heap.objs.size x y -> g.objs.size = s.heap.objs.size + 1 -> (∀ c u,c ≠ z -> c ≠ o -> c ≠ i -> c ≠ j -> s.heap.get? c = some u -> g.get? c = some u) -> Q (.ref s.heap.objs.size) { s with heap:=g }) :
    wpAny (model prog w) A (Builtin.«zip.__next__» ⟨[.ref z],[]⟩) (fun fin s'=>∃ v,fin = .done (.ret v) /\ Q v s') E s:=by
  obtain ⟨⟨f,fl,zz,hf⟩,pp,⟨u1,u2,oo⟩,ii,jj⟩:=S
  have ht:∀ {g g':Heap} {q c:Addr} {vs:Array Value},Heap.SameBut q g g' -> c ≠ q -> g.IsTuple c vs -> g'.IsTuple c vs:=fun {g g' q c vs} sb hc ⟨ob,e,r⟩=>⟨ob,sb.extBut _ _ hc e,r⟩
  show wpAny _ _ (field (.ref z) 2 >>= _) _ _ _
  refine wpAny_bind (wpAny_field zz rfl (x:=.bool false) rfl ?_)
  show wpAny _ _ (field (.ref z) 3 >>= _) _ _ _
  refine wpAny_bind (wpAny_field zz rfl (x:=.ref p) rfl ?_)
  refine wpAny_bind (wpAny_seqItems pp rfl ?_)
  show wpAny _ _ (Builtin.SmallTypes.ownedTupleIsFree (.ref z) >>= _) _ _ _
  refine wpAny_bind (uK zz hf ?_ ?_)
  . simp only [if_true]
    refine wpAny_bind (wpAny_rule ?_)
    refine wpAny_bind (wpAny_field zz rfl (x:=.ref o) rfl ?_)
    refine wpAny_bind (wpAny_setField_rec zz (by simp) fun g1 z1 k1=>?_)
    replace z1:Xo g1 z p o .ellipsis fl:=z1
    refine wpAny_bind ?_
    simp only [List.zipIdx_cons,List.zipIdx_nil,List.forIn_cons,List.forIn_nil]
    refine wpAny_bind (wpAny_bind (wpAny_onRaise ?_))
    show wpAny _ _ (Builtin.SmallTypes.nextOf (.ref i) >>= _) _ _ _
    refine wpAny_bind (zj (ii.extBut k1.extBut D.iz) (ht k1 D.az ha) hx fun g2 i2 k2=>wpAny_pure ?_)
    have o2:IsPair g2 o u1 u2:=k2.extBut _ _ D.oi (k1.extBut _ _ D.oz oo)
    refine wpAny_bind (wpAny_seqItems o2 rfl ?_)
    refine wpAny_bind (wpAny_updateSeq_pair o2 fun g3 o3 k3=>?_)
    replace o3:IsPair g3 o x u2:=o3
    refine wpAny_bind (wpAny_letGo (wpAny_pure ?_))
    refine wpAny_bind (wpAny_bind (wpAny_onRaise ?_))
    show wpAny _ _ (Builtin.SmallTypes.nextOf (.ref j) >>= _) _ _ _
    refine wpAny_bind (zj (((jj.extBut k1.extBut D.jz).extBut k2.extBut D.ij.symm).extBut k3.extBut D.oj.symm) (ht k3 D.bo (ht k2 D.bi (ht k1 D.bz hb))) hy fun g4 j4 k4=>wpAny_pure ?_)
    have o4:IsPair g4 o x u2:=k4.extBut _ _ D.oj o3
    refine wpAny_bind (wpAny_seqItems o4 rfl ?_)
    refine wpAny_bind (wpAny_updateSeq_pair o4 fun g5 o5 k5=>?_)
    replace o5:IsPair g5 o x y:=o5
    refine wpAny_bind (wpAny_letGo (wpAny_pure (wpAny_pure ?_)))
    refine wpAny_bind (wpAny_seqItems o5 rfl ?_)
    refine wpAny_bind (wpAny_newTuple ?_)
    have sz:g5.objs.size = s.heap.objs.size:=by rw [k5.1,k4.1,k3.1,k2.1,k1.1]
    have z5:Xo g5 z p o .ellipsis fl:=k5.extBut _ _ D.oz.symm (k4.extBut _ _ D.jz.symm (k3.extBut _ _ D.oz.symm (k2.extBut _ _ D.iz.symm z1)))
    have kk:∀ c u,c ≠ z -> c ≠ o -> c ≠ i -> c ≠ j -> s.heap.get? c = some u -> g5.get? c = some u:=fun c u c1 c2 c3 c4 e=>k5.extBut _ _ c2 (k4.extBut _ _ c4 (k3.extBut _ _ c2 (k2.extBut _ _ c3 (k1.extBut _ _ c1 e))))
    have i5:g5.IsTupleIter i a (n + 1):=((i2.extBut k3.extBut D.oi.symm).extBut k4.extBut D.ij).extBut k5.extBut D.oi.symm
    have j5:g5.IsTupleIter j b (n + 1):=j4.extBut k5.extBut D.oj.symm
    have zl:z < g5.objs.size:=Heap.lt_size z5
    show wpAny _ _ (Builtin.SmallTypes.ownedTupleHandOut (.ref z) (.ref g5.objs.size) >>= _) _ _ _
    refine wpAny_bind ?_
    unfold Builtin.SmallTypes.ownedTupleHandOut
    have z6:Xo (g5.push { cls:=.type "tuple", data:=.seq #[x,y] }) z p o .ellipsis fl:=Heap.get?_push_of_some _ z5
    refine wpAny_bind (wpAny_setField_rec z6 (by simp) fun g7 z7 k7=>?_)
    replace z7:Xo g7 z p o (rawInt g5.objs.size) fl:=z7
    refine wpAny_setField_rec z7 (by simp) fun g8 z8 k8=>?_
    replace z8:Xo g8 z p o (rawInt g5.objs.size) false:=z8
    have up:∀ c u,c ≠ z -> g5.get? c = some u -> g8.get? c = some u:=fun c u c1 e=>k8.extBut _ _ c1 (k7.extBut _ _ c1 (Heap.get?_push_of_some _ e))
    have t8:IsPair g8 g5.objs.size x y:=k8.extBut _ _ (Nat.ne_of_gt zl) (k7.extBut _ _ (Nat.ne_of_gt zl) (Heap.get?_push_size _ rfl))
    have s8:g8.objs.size = g5.objs.size + 1:=by rw [k8.1,k7.1,Heap.size_push]
    refine wpAny_pure ⟨_,rfl,?_⟩
    show Q (.ref g5.objs.size) _
    rw [sz] at z8 t8 s8
    rw [sz]
    exact k g8 ⟨⟨_,_,z8,.inr ⟨_,rfl⟩⟩,up _ _ D.pz (kk _ _ D.pz D.po D.pi D.pj pp),⟨x,y,up _ _ D.oz o5⟩,i5.at fun u e=>up _ u D.iz e,j5.at fun u e=>up _ u D.jz e⟩ t8 s8 fun c u c1 c2 c3 c4 e=>up c u c1 (kk c u c1 c2 c3 c4 e)
  . intro g1 z1 k1 sz1
    simp only [Bool.false_eq_true,if_false]
    refine wpAny_bind ?_
    have ia1:g1.IsTuple a xs:=let ⟨ob,e,r⟩:=ha;⟨ob,k1 _ _ D.az e,r⟩
    have ib1:g1.IsTuple b ys:=let ⟨ob,e,r⟩:=hb;⟨ob,k1 _ _ D.bz e,r⟩
    simp only [List.forIn_toArray,List.forIn_cons,List.forIn_nil]
    refine wpAny_bind (wpAny_bind (wpAny_holding ?_))
    show wpAny _ _ (Builtin.SmallTypes.nextOf (.ref i) >>= _) _ _ _
    refine wpAny_bind (zj (s:={ s with heap:=g1 }) (ii.extBut k1 D.iz) ia1 hx fun g2 i2 k2=>wpAny_pure (wpAny_pure ?_))
    refine wpAny_bind (wpAny_bind (wpAny_holding ?_))
    show wpAny _ _ (Builtin.SmallTypes.nextOf (.ref j) >>= _) _ _ _
    refine wpAny_bind (zj (s:={ s with heap:=g2 }) ((jj.extBut k1 D.jz).extBut k2.extBut D.ij.symm) (ht k2 D.bi ib1) hy fun g3 j3 k3=>wpAny_pure (wpAny_pure ?_))
    refine wpAny_pure ?_
    refine wpAny_bind (wpAny_newTuple ?_ (show (2:Nat) <= sizeLine by decide))
    have sz:g3.objs.size = s.heap.objs.size:=by rw [k3.1,k2.1,sz1]
    have kk:∀ c u,c ≠ z -> c ≠ i -> c ≠ j -> s.heap.get? c = some u -> (g3.push { cls:=.type "tuple", data:=.seq #[x,y] }).get? c = some u:=fun c u c1 c3 c4 e=>Heap.get?_push_of_some _ (k3.extBut _ _ c4 (k2.extBut _ _ c3 (k1 _ _ c1 e)))
    have z3:Xo (g3.push { cls:=.type "tuple", data:=.seq #[x,y] }) z p o f true:=Heap.get?_push_of_some _ (k3.extBut _ _ D.jz.symm (k2.extBut _ _ D.iz.symm z1))
    refine wpAny_pure ⟨_,rfl,?_⟩
    show Q (.ref g3.objs.size) _
    rw [sz]
    refine k _ ⟨⟨f,true,z3,hf⟩,kk _ _ D.pz D.pi D.pj pp,⟨u1,u2,kk _ _ D.oz D.oi D.oj oo⟩,(i2.extBut k3.extBut D.ij).at fun u e=>Heap.get?_push_of_some _ e,j3.at fun u e=>Heap.get?_push_of_some _ e⟩ ?_ (by rw [Heap.size_push,sz]) fun c u c1 _ c3 c4 e=>kk c u c1 c3 c4 e
    rw [<- sz];exact Heap.get?_push_size _ rfl
theorem ue {z p o i j a b:Addr} {n:Nat} {xs ys:Array Value} {Q:PySem.Fin -> Shared -> Prop} (hh:A.handled = none) (D:ZA z p o i j a b) (S:ZU s.heap z p o i j a b n) (ha:s.heap.IsTuple a xs) (hb:s.heap.IsTuple b ys) (he:xs[n]? = none ∨ ys[n]? = none)
    (k:∀ g x,(∀ c u,c ≠ z -> c ≠ o -> c ≠ i -> c ≠ j -> s.heap.get? c = some u -> g.get? c = some u) -> (∃ u,g.get? x = some u /\ u.cls = .type "StopIteration") -> E (.ref x) { s with heap:=g }) :
    wpAny (model prog w) A (Builtin.«zip.__next__» ⟨[.ref z],[]⟩) Q E s:=by
  obtain ⟨⟨f,fl,zz,hf⟩,pp,⟨u1,u2,oo⟩,ii,jj⟩:=S
  have ht:∀ {g g':Heap} {q c:Addr} {vs:Array Value},Heap.SameBut q g g' -> c ≠ q -> g.IsTuple c vs -> g'.IsTuple c vs:=fun {g g' q c vs} sb hc ⟨ob,e,r⟩=>⟨ob,sb.extBut _ _ hc e,r⟩
  show wpAny _ _ (field (.ref z) 2 >>= _) _ _ _
  refine wpAny_bind (wpAny_field zz rfl (x:=.bool false) rfl ?_)
  show wpAny _ _ (field (.ref z) 3 >>= _) _ _ _
  refine wpAny_bind (wpAny_field zz rfl (x:=.ref p) rfl ?_)
  refine wpAny_bind (wpAny_seqItems pp rfl ?_)
  show wpAny _ _ (Builtin.SmallTypes.ownedTupleIsFree (.ref z) >>= _) _ _ _
  refine wpAny_bind (uK zz hf ?_ ?_)
  . simp only [if_true]
    refine wpAny_bind (wpAny_rule ?_)
    refine wpAny_bind (wpAny_field zz rfl (x:=.ref o) rfl ?_)
    refine wpAny_bind (wpAny_setField_rec zz (by simp) fun g1 z1 k1=>?_)
    replace z1:Xo g1 z p o .ellipsis fl:=z1
    refine wpAny_bind ?_
    simp only [List.zipIdx_cons,List.zipIdx_nil,List.forIn_cons,List.forIn_nil]
    refine wpAny_bind (wpAny_bind (wpAny_onRaise ?_))
    show wpAny _ _ (Builtin.SmallTypes.nextOf (.ref i) >>= _) _ _ _
    cases hx:xs[n]? with
    | none =>
      refine wpAny_bind (Uc hh (ii.extBut k1.extBut D.iz) (ht k1 D.az ha) hx fun g2 x k2 h2=>?_)
      obtain ⟨oe,h3,h4⟩:=h2
      have z2:Xo g2 z p o .ellipsis fl:=k2 _ _ D.iz.symm z1
      have xz:x ≠ z:=fun q=>by subst q;rw [z2] at h3;cases h3;simp at h4
      exact wpAny_setField_rec z2 (by simp) fun g3 _ k3=>k g3 x (fun c u c1 _ c3 _ e=>k3.extBut _ _ c1 (k2 _ _ c3 (k1.extBut _ _ c1 e))) ⟨oe,k3.extBut _ _ xz h3,h4⟩
    | some x0 =>
      have hy:ys[n]? = none:=by rcases he with h | h;rw [hx] at h;cases h;exact h
      refine wpAny_bind (zj (ii.extBut k1.extBut D.iz) (ht k1 D.az ha) hx fun g2 i2 k2=>wpAny_pure ?_)
      have o2:IsPair g2 o u1 u2:=k2.extBut _ _ D.oi (k1.extBut _ _ D.oz oo)
      refine wpAny_bind (wpAny_seqItems o2 rfl ?_)
      refine wpAny_bind (wpAny_updateSeq_pair o2 fun g3 o3 k3=>?_)
      refine wpAny_bind (wpAny_letGo (wpAny_pure ?_))
      refine wpAny_bind (wpAny_bind (wpAny_onRaise ?_))
      show wpAny _ _ (Builtin.SmallTypes.nextOf (.ref j) >>= _) _ _ _
      refine wpAny_bind (Uc hh (((jj.extBut k1.extBut D.jz).extBut k2.extBut D.ij.symm).extBut k3.extBut D.oj.symm) (ht k3 D.bo (ht k2 D.bi (ht k1 D.bz hb))) hy fun g4 x k4 h2=>?_)
      obtain ⟨oe,h3,h4⟩:=h2
      have z4:Xo g4 z p o .ellipsis fl:=k4 _ _ D.jz.symm (k3.extBut _ _ D.oz.symm (k2.extBut _ _ D.iz.symm z1))
      have xz:x ≠ z:=fun q=>by subst q;rw [z4] at h3;cases h3;simp at h4
      exact wpAny_setField_rec z4 (by simp) fun g5 _ k5=>k g5 x (fun c u c1 c2 c3 c4 e=>k5.extBut _ _ c1 (k4 _ _ c4 (k3.extBut _ _ c2 (k2.extBut _ _ c3 (k1.extBut _ _ c1 e))))) ⟨oe,k5.extBut _ _ xz h3,h4⟩
  . intro g1 z1 k1 sz1
    simp only [Bool.false_eq_true,if_false]
    refine wpAny_bind ?_
    have ia1:g1.IsTuple a xs:=let ⟨ob,e,r⟩:=ha;⟨ob,k1 _ _ D.az e,r⟩
    have ib1:g1.IsTuple b ys:=let ⟨ob,e,r⟩:=hb;⟨ob,k1 _ _ D.bz e,r⟩
    simp only [List.forIn_toArray,List.forIn_cons,List.forIn_nil]
    refine wpAny_bind (wpAny_bind (wpAny_holding ?_))
    show wpAny _ _ (Builtin.SmallTypes.nextOf (.ref i) >>= _) _ _ _
    cases hx:xs[n]? with
    | none =>
      exact wpAny_bind (Uc (s:={ s with heap:=g1 }) hh (ii.extBut k1 D.iz) ia1 hx fun g2 x k2 h2=>k g2 x (fun c u c1 _ c3 _ e=>k2 _ _ c3 (k1 _ _ c1 e)) h2)
    | some x0 =>
      have hy:ys[n]? = none:=by rcases he with h | h;rw [hx] at h;cases h;exact h
      refine wpAny_bind (zj (s:={ s with heap:=g1 }) (ii.extBut k1 D.iz) ia1 hx fun g2 i2 k2=>wpAny_pure (wpAny_pure ?_))
      refine wpAny_bind (wpAny_bind (wpAny_holding ?_))
      show wpAny _ _ (Builtin.SmallTypes.nextOf (.ref j) >>= _) _ _ _
      exact wpAny_bind (Uc (s:={ s with heap:=g2 }) hh ((jj.extBut k1 D.jz).extBut k2.extBut D.ij.symm) (ht k2 D.bi ib1) hy fun g3 x k3 h2=>k g3 x (fun c u c1 _ c3 c4 e=>k3 _ _ c4 (k2.extBut _ _ c3 (k1 _ _ c1 e))) h2)
end
theorem ZU.at {h h':Heap} {z p o i j a b:Addr} {n:Nat} (S:ZU h z p o i j a b n) (k:∀ c ∈ [z,p,o,i,j],∀ u,h.get? c = some u -> h'.get? c = some u):ZU h' z p o i j a b n:=by
  obtain ⟨⟨f,fl,zz,hf⟩,pp,⟨u1,u2,oo⟩,ii,jj⟩:=S
  exact ⟨⟨f,fl,k z (by simp) _ zz,hf⟩,k p (by simp) _ pp,⟨u1,u2,k o (by simp) _ oo⟩,ii.at fun u e=>k i (by simp) u e,jj.at fun u e=>k j (by simp) u e⟩
theorem kB {P:Program} {w:World} {K:PySem.W.Frag} {xn:Str} {pos:Pos} {z p o i j a b:Addr} (D:ZA z p o i j a b):gB P w K (.Name xn pos) (Itz K a b) [z,p,o,i,j] z (fun n h=>ZU h z p o i j a b n) where
  mem:=by simp
  obj:=fun n h S c hc=>by
    obtain ⟨⟨f,fl,zz,hf⟩,pp,⟨u1,u2,oo⟩,⟨oi,ei,ci,di⟩,⟨oj,ej,cj,dj⟩⟩:=S
    simp only [List.mem_cons,List.not_mem_nil,or_false] at hc
    rcases hc with rfl | rfl | rfl | rfl | rfl
    . exact ⟨_,zz,fun v q=>by have q':Data.fields _ = Data.cell v:=q;cases q'⟩
    . exact ⟨_,pp,fun v q=>by have q':Data.seq _ _ = Data.cell v:=q;cases q'⟩
    . exact ⟨_,oo,fun v q=>by have q':Data.seq _ _ = Data.cell v:=q;cases q'⟩
    . exact ⟨oi,ei,fun v q=>by rw [di] at q;cases q⟩
    . exact ⟨oj,ej,fun v q=>by rw [dj] at q;cases q⟩
  keep:=fun n h h' S k=>S.at k
  item:=by
    intro X hP hw hK hc n pins s σ H E I hf S hg
    subst hP hw hK
    obtain ⟨xs,ys,x,y,qa,qb,hx,hy⟩:=hg
    obtain ⟨ia,ra,pa,_⟩:=I.tuple qa
    obtain ⟨ib,rb,pb,_⟩:=I.tuple qb
    obtain ⟨u,hu,ru⟩:=ra.get hx
    obtain ⟨v,hv,rv⟩:=rb.get hy
    obtain ⟨f0,fl0,zz0,hf0⟩:=S.zz
    have hT:s.TypeIs (.ref z) "zip" := ⟨_,zz0,rfl⟩
    unfold pyNext
    refine wpAny_bind (wpAny_attempt (wpAny_callSpecial?_slot (name:=Str.ofString "__next__") hT F.slot_zip_next (wpAny_call_entry F.slot_zip_next hT F.entry_zip_next
      (ud D S (show s.heap.IsTuple a ia.toArray from pa) (show s.heap.IsTuple b ib.toArray from pb) (by simpa using hu) (by simpa using hv) fun g' S' tp sz kp=>wpAny_pure ?_) (F.args_zip_next_1 _))))
    refine ⟨_,rfl,wpAny_pure ?_⟩
    have kp':∀ c q,c ∉ [z,p,o,i,j] -> s.heap.get? c = some q -> g'.get? c = some q:=fun c q hc e=>by
      simp only [List.mem_cons,List.not_mem_nil,or_false,not_or] at hc
      exact kp c q hc.1 hc.2.2.1 hc.2.2.2.1 hc.2.2.2.2 e
    have ne:∀ c ∈ [z,p,o,i,j],c ≠ s.heap.objs.size:=fun c hc e=>by
      obtain ⟨_,pp,⟨u1,u2,oo⟩,⟨oi,ei,_⟩,⟨oj,ej,_⟩⟩:=S
      simp only [List.mem_cons,List.not_mem_nil,or_false] at hc
      rcases hc with rfl | rfl | rfl | rfl | rfl
      . exact Nat.ne_of_lt (Heap.lt_size zz0) e
      . exact Nat.ne_of_lt (Heap.lt_size pp) e
      . exact Nat.ne_of_lt (Heap.lt_size oo) e
      . exact Nat.ne_of_lt (Heap.lt_size ei) e
      . exact Nat.ne_of_lt (Heap.lt_size ej) e
    refine ⟨.ref s.heap.objs.size,upd H s.heap.objs.size (.tup [x,y]),I.turnNew (t':=s.toks) hf kp' (us:=[u,v]) (.cons ru (.cons rv .nil)) (show 2 <= sizeLine by decide) ⟨_,tp,rfl,_,rfl⟩,rfl,
      ⟨_,x,y,I.hok.fresh (Nat.le_refl _),fun xs' h=>by rw [I.tuple_inj h qa];exact hx,fun ys' h=>by rw [I.tuple_inj h qb];exact hy,rfl,rfl⟩,S',fun c hc=>?_⟩
    rw [QE (ne c hc)];exact (hf c hc).1
  done:=by
    intro X hP hw hK hc n pins s σ H E I hf S hg
    subst hP hw hK
    obtain ⟨xs,ys,qa,qb,hs⟩:=hg
    obtain ⟨ia,ra,pa,_⟩:=I.tuple qa
    obtain ⟨ib,rb,pb,_⟩:=I.tuple qb
    have l1:=ra.length
    have l2:=rb.length
    obtain ⟨f0,fl0,zz0,hf0⟩:=S.zz
    have hT:s.TypeIs (.ref z) "zip" := ⟨_,zz0,rfl⟩
    unfold pyNext
    refine wpAny_bind (wpAny_attempt (wpAny_callSpecial?_slot (name:=Str.ofString "__next__") hT F.slot_zip_next (wpAny_call_entry F.slot_zip_next hT F.entry_zip_next
      (ue (I.ok.hd hc) D S (show s.heap.IsTuple a ia.toArray from pa) (show s.heap.IsTuple b ib.toArray from pb) (by rcases hs with q | q;exact .inl (by simp;omega);exact .inr (by simp;omega)) fun g x kp hx=>?_) (F.args_zip_next_1 _))))
    obtain ⟨ox,h1,h2⟩:=hx
    refine wpAny_bind (wpAny_isInstance (T := "StopIteration") (b:=true) ⟨ox,h1,h2⟩ isSubtype_stop ?_)
    refine wpAny_pure ⟨rfl,I.turnL (t':=s.toks) hf fun c q hc e=>?_⟩
    simp only [List.mem_cons,List.not_mem_nil,or_false,not_or] at hc
    exact kp c q hc.1 hc.2.2.1 hc.2.2.2.1 hc.2.2.2.2 e
  self:=fun _ _ _ _ _ S h=>by
    obtain ⟨f0,fl0,zz0,hf0⟩:=S.zz
    have hT:Shared.TypeIs _ (Value.ref z) "zip" := ⟨_,zz0,rfl⟩
    refine wpAny_pyIter_slot hT F.slot_zip_iter (wpAny_call_entry F.slot_zip_iter hT F.entry_zip_iter ?_ (F.args_zip_iter_1 _))
    exact wpAny_pure ⟨_,rfl, "zip", _,hT,(F.slot_zip_next).1,h⟩
section
variable {X:Cx} {xn:Str} {p2:Pos}
theorem Qcs {pins:List (Addr × Obj)} {σ:L2.St} {H:Hp} {s:Shared} {R:It -> Hp -> Prop} {E:Value -> Shared -> Prop} {a b:Addr} {xs ys:List V} (I:Inv X pins σ H s) (qa:SqT X.K H a xs) (qb:SqT X.K H b ys) (q:R (Itz X.K a b) H) :
    wpAny (model X.prog X.w) X.A (call (.type "zip") [.ref a,.ref b]) (fun v s1=>wpAny (model X.prog X.w) X.A (pyIter v) (PIE X pins σ (.Name xn p2) R) E s1) E s:=by
  obtain ⟨ia,ra,pa,_⟩:=I.tuple qa
  obtain ⟨ib,rb,pb,_⟩:=I.tuple qb
  refine callType_new F.called_zip (by decide) (F.typeCall_zip_2 _ _) (F.newCall_zip_2 _ _) (fun obj=>F.args_object_init_3 obj _ _) F.entry_zip_new (vO a b ia.toArray ib.toArray) ⟨show s.heap.IsTuple a ia.toArray from pa,show s.heap.IsTuple b ib.toArray from pb,?_⟩
  have z1:(zt1 s.heap a).objs.size = s.heap.objs.size + 1:=Heap.size_push ..
  have z2:(zt2 s.heap a b).objs.size = s.heap.objs.size + 2:=by rw [Heap.size_push,z1]
  have z3:(zt3 s.heap a b).objs.size = s.heap.objs.size + 3:=by rw [Heap.size_push,z2]
  have z4:(zt4 s.heap a b).objs.size = s.heap.objs.size + 4:=by rw [Heap.size_push,z3]
  have g5:(zt5 s.heap a b).get? (zt4 s.heap a b).objs.size = some _:=Heap.get?_push_size _ rfl
  have g4:(zt5 s.heap a b).get? (zt3 s.heap a b).objs.size = some _:=Heap.get?_push_of_some _ (Heap.get?_push_size _ rfl)
  have g3:(zt5 s.heap a b).get? (zt2 s.heap a b).objs.size = some _:=Heap.get?_push_of_some _ (Heap.get?_push_of_some _ (Heap.get?_push_size _ rfl))
  have g2:(zt5 s.heap a b).get? (zt1 s.heap a).objs.size = some _:=Heap.get?_push_of_some _ (Heap.get?_push_of_some _ (Heap.get?_push_of_some _ (Heap.get?_push_size _ rfl)))
  have g1:(zt5 s.heap a b).get? s.heap.objs.size = some _:=Heap.get?_push_of_some _ (Heap.get?_push_of_some _ (Heap.get?_push_of_some _ (Heap.get?_push_of_some _ (Heap.get?_push_size _ rfl))))
  show _ /\ _
  have kp:∀ c o,s.heap.get? c = some o -> (zt5 s.heap a b).get? c = some o:=fun c o e=>Heap.get?_push_of_some _ (Heap.get?_push_of_some _ (Heap.get?_push_of_some _ (Heap.get?_push_of_some _ (Heap.get?_push_of_some _ e))))
  refine ⟨⟨_,g5,rfl⟩,?_⟩
  rw [z2,z3,z4] at g5
  rw [z1,z2] at g3
  rw [z3] at g4
  rw [z1] at g2
  rw [z4]
  have la:a < s.heap.objs.size:=by obtain ⟨o,e,_⟩:=pa;exact Heap.lt_size e
  have lb:b < s.heap.objs.size:=by obtain ⟨o,e,_⟩:=pb;exact Heap.lt_size e
  have D:ZA (s.heap.objs.size + 4) (s.heap.objs.size + 2) (s.heap.objs.size + 3) s.heap.objs.size (s.heap.objs.size + 1) a b:=by constructor <;> first | exact Nat.ne_of_lt la | exact Nat.ne_of_lt lb | exact Nat.ne_of_lt (Nat.lt_of_lt_of_le la (Nat.le_add_right _ _)) | exact Nat.ne_of_lt (Nat.lt_of_lt_of_le lb (Nat.le_add_right _ _)) | exact Nat.ne_of_lt (by omega) | exact Nat.ne_of_gt (by omega)
  have I1:Inv X pins σ H { s with heap:=zt5 s.heap a b }:=I.kept (t':=s.toks) kp
  have S:ZU (zt5 s.heap a b) (s.heap.objs.size + 4) (s.heap.objs.size + 2) (s.heap.objs.size + 3) s.heap.objs.size (s.heap.objs.size + 1) a b 0:=⟨⟨_,_,g5,.inl rfl⟩,g3,⟨_,_,g4⟩,⟨_,g1,rfl,rfl⟩,⟨_,g2,rfl,rfl⟩⟩
  refine wpAny_pyIter_zip (s:={ s with heap:=zt5 s.heap a b }) g5 ⟨_,[s.heap.objs.size + 4,s.heap.objs.size + 2,s.heap.objs.size + 3,s.heap.objs.size,s.heap.objs.size + 1],_,Itz X.K a b,H,rfl,I1,kB D,S,fun c hc=>?_,q⟩
  have hc':s.heap.objs.size <= c:=by
    simp only [List.mem_cons,List.not_mem_nil,or_false] at hc
    rcases hc with rfl | rfl | rfl | rfl | rfl <;> first | exact Nat.le_refl _ | exact Nat.le_add_right _ _
  exact I.fpOk hc' (I.hok.fresh hc')
theorem QbX {x y:Expr} {ta:TA} {p pos:Pos} (hg:Gl X "zip") (hm:X.mg "zip" = none) (ha:PA X [x,y] ta) (hs:starEach [x,y] X.env = [(false,eval x X.env),(false,eval y X.env)]:=by rfl) (hs2:starEach [y] X.env = [(false,eval y X.env)]:=by rfl) :
    PI X (.Name xn p2) (.Call (.Name "zip" p) [x,y] [] pos) (QeR X.K ta):=by
  intro pins s σ H R I h
  refine Call_ (Xh I hg hm boot_zip (PyProof.Rows.callWith_type1 (thn (ha pos pins s σ H _ I h) fun us s1 ⟨vs,H1,I1,r1,q1⟩=>?_) (by rw [hs,hs2]) (by rw [hs2];rfl)))
  obtain ⟨a,b,xs,ys,e,qa,qb,q⟩:=q1
  subst e
  cases r1 with
  | cons r rr =>
    cases rr with
    | cons r' rr =>
      cases rr
      cases r
      cases r'
      exact Qcs I1 qa qb q
end
end L2
namespace D
open PySem PySem.Spec PyProof.Rows L2
section
variable {X:Cx} {xn:Str} {p2:Pos} {f g:DEx}
theorem QbV {x y:Expr} {p pos:Pos} (hg:Gl X "zip") (hm:X.mg "zip" = none) (hx:DE X x f) (hy:DE X y g) (hs:starEach [x,y] X.env = [(false,eval x X.env),(false,eval y X.env)]:=by rfl) (hs2:starEach [y] X.env = [(false,eval y X.env)]:=by rfl) :
    DI X (.Name xn p2) (.Call (.Name "zip" p) [x,y] [] pos) (Qab f g) :=
  L2.PI.imp (QbX hg hm (zk hx (zk hy pa_nil (by rw [hs2];rfl)) (by rw [hs,hs2])) hs hs2) fun σ H R ⟨Z,env,ρ,B,hp,ds,hp',S,e,k⟩=>by
    obtain ⟨d1,hp1,e1,e⟩:=Qe e
    obtain ⟨xs,hp2,e2,e⟩:=Qe e
    obtain ⟨rfl,rfl⟩:=YA e2
    obtain ⟨d2,hp3,e3,e⟩:=Qe e
    obtain ⟨ys,hp4,e4,e⟩:=Qe e
    obtain ⟨rfl,rfl⟩:=YA e4
    obtain ⟨rfl,rfl⟩:=Qg e
    refine tD.run S e1 fun v ρ1 B1 H1 g1 S1 r1=>tD.run S1 e3 fun u ρ2 B2 H2 g2 S2 r2=>?_
    obtain ⟨a,vs,rfl,na,qa,la⟩:=(RepV.grow S1.wo.rb g2 _ _ r1).tupI
    obtain ⟨b,us,rfl,nb,qb,lb⟩:=r2.tupI
    exact ⟨a,b,vs,us,rfl,qa,qb,k _ ρ2 B2 H2 (g1.trans g2) S2.wo (Qdt na qa la nb qb lb)⟩
end
end D
namespace TR
structure Pg where
  lv:Nat
  ks:List Int
  ps:List Int
  hi:Option Int
  sd:Option Nat
structure Sh where
  room:Nat
  pg:List Pg
  top:Nat
  rd:Int
  wr:Int
inductive Deed where
  | find (k:Int) | put (k w:Int) | cut (k:Int) | stretch (l h:Int)
def Deed.key:Deed -> Int
  | .find k=>k
  | .put k _=>k
  | .cut k=>k
  | .stretch l _=>l
structure Wk where
  deed:Deed
  aim:Int
  goal:Nat
  place:Option Nat
  forks:List (Nat × Nat)
  newp:Option Nat
  worth:Option Int
  pairs:List (Int × Int)
  ended:Bool
inductive Row where
  | non
  | side (n t:Nat)
  | down (n t:Nat)
  | found (n:Nat) (w:Option Int)
  | put (n:Nat) (w:Option Int) (k:Option Nat)
  | cut (n:Nat) (w:Option Int)
  | read (n:Nat) (ps:List (Int × Int)) (t:Option (Nat × Int))
  | told (n:Nat) (k:Option Nat)
  | raised (n t:Nat)
def cLe (ks:List Int) (k:Int):Nat:=(ks.filter fun x=>decide (x <= k)).length
def cLt (ks:List Int) (k:Int):Nat:=(ks.filter fun x=>decide (x < k)).length
def UH (fs:List (Nat × Nat)) (k:Nat):Option Nat:=(fs.find? fun p=>decide (p.1 = k)).map (·.2)
def QfM (fs:List (Nat × Nat)) (k v:Nat):List (Nat × Nat):=if (fs.any fun p=>decide (p.1 = k)) = true then fs.map (fun p=>if p.1 = k then (p.1,v) else p) else fs ++ [(k,v)]
def uS (p:Pg) (k:Int):Bool:=match p.hi with
  | none=>false
  | some h=>decide (h <= k)
def qO (p:Pg) (k:Int):Option Int:=if cLt p.ks k = cLe p.ks k then none else p.ps[cLt p.ks k]?
def Ko (p:Pg) (k w:Int):Pg:={ p with ks:=p.ks.take (cLt p.ks k) ++ k :: p.ks.drop (cLe p.ks k),ps:=p.ps.take (cLt p.ks k) ++ w :: p.ps.drop (cLe p.ks k) }
def without (p:Pg) (k:Int):Pg:={ p with ks:=p.ks.take (cLt p.ks k) ++ p.ks.drop (cLe p.ks k),ps:=p.ps.take (cLt p.ks k) ++ p.ps.drop (cLe p.ks k) }
def uO (p:Pg) (k:Int) (c:Nat):Pg:={ p with ks:=p.ks.take (cLe p.ks k) ++ k :: p.ks.drop (cLe p.ks k),ps:=p.ps.take (cLe p.ks k + 1) ++ (c:Int) :: p.ps.drop (cLe p.ks k + 1) }
def mid (p:Pg):Nat:=p.ks.length / 2
def uu (p:Pg):Nat:=if p.lv = 0 then mid p else mid p + 1
def QeZ (p:Pg):Int:=p.ks.getD (mid p) 0
def jf (p:Pg) (n:Nat):Pg:=⟨p.lv,p.ks.take (mid p),p.ps.take (uu p),some (QeZ p),some n⟩
def jD (p:Pg):Pg:=⟨p.lv,p.ks.drop (uu p),p.ps.drop (uu p),p.hi,p.sd⟩
def ZW (S:Sh) (w:Wk) (n:Nat) (p:Pg):Option Nat × Sh × Wk :=
  if p.ks.length <= S.room then (none,{ S with pg:=S.pg.set n p,wr:=S.wr + 1 },{ w with ended:=true })
  else (some S.pg.length,{ S with pg:=(S.pg ++ [jD p]).set n (jf p S.pg.length),wr:=S.wr + 1 + 1 },{ w with newp:=some S.pg.length,aim:=QeZ p,goal:=p.lv + 1,place:=UH w.forks (p.lv + 1) })
def zi (p:Pg) (l h:Int):List (Int × Int):=(p.ks.zip p.ps).filter fun q=>decide (l <= q.1) && decide (q.1 < h)
def Qdi (S:Sh) (w:Wk) (n:Nat) (p:Pg):Row × Sh × Wk:=match w.deed with
  | .find _=>(.found n (qO p w.aim),S,{ w with worth:=qO p w.aim,ended:=true })
  | .put _ x=>match ZW S { w with worth:=qO p w.aim } n (Ko p w.aim x) with
    | (r,S2,w2)=>(.put n (qO p w.aim) r,S2,w2)
  | .cut _=>(.cut n (qO p w.aim),if (qO p w.aim).isSome = true then { S with pg:=S.pg.set n (without p w.aim),wr:=S.wr + 1 } else S,{ w with worth:=qO p w.aim,ended:=true })
  | .stretch l h=>match p.hi,p.sd with
    | some x,some s=>if h <= x then (.read n (zi p l h) none,S,{ w with pairs:=w.pairs ++ zi p l h,ended:=true })
        else (.read n (zi p l h) (some (s,x)),S,{ w with pairs:=w.pairs ++ zi p l h,aim:=x,place:=some s })
    | _,_=>(.read n (zi p l h) none,S,{ w with pairs:=w.pairs ++ zi p l h,ended:=true })
def Qdh (S:Sh) (w:Wk):Option (Row × Sh × Wk) :=
  if w.ended = true then some (.non,S,w) else
  match S.pg[w.place.getD S.top]? with
  | none=>none
  | some p =>
    if w.place = none /\ p.lv < w.goal then
      match w.newp with
      | none=>none
      | some k=>some (.raised S.top S.pg.length,{ S with rd:=S.rd + 1,pg:=S.pg ++ [⟨p.lv + 1,[w.aim],[(S.top:Int),(k:Int)],none,none⟩],top:=S.pg.length,wr:=S.wr + 1 },{ w with ended:=true })
    else if uS p w.aim = true then
      match p.sd with
      | none=>none
      | some s=>some (.side (w.place.getD S.top) s,{ S with rd:=S.rd + 1 },{ w with place:=some s })
    else if w.goal < p.lv then
      match p.ps[cLe p.ks w.aim]? with
      | none=>none
      | some c=>some (.down (w.place.getD S.top) c.toNat,{ S with rd:=S.rd + 1 },{ w with forks:=QfM w.forks p.lv (w.place.getD S.top),place:=some c.toNat })
    else if 0 < w.goal then
      match w.newp with
      | none=>none
      | some k=>match ZW { S with rd:=S.rd + 1 } w (w.place.getD S.top) (uO p w.aim k) with
        | (r,S2,w2)=>some (.told (w.place.getD S.top) r,S2,w2)
    else some (Qdi { S with rd:=S.rd + 1 } w (w.place.getD S.top) p)
theorem Kk {ks:List Int} (h:ks.Pairwise (· < ·)) (k:Int):ks.take (cLe ks k) = ks.filter (fun x=>decide (x <= k)) /\ ks.drop (cLe ks k) = ks.filter (fun x=>decide (k < x)):=by
  unfold cLe
  induction ks with
  | nil=>simp
  | cons x xs ih =>
    obtain ⟨h1,h2⟩:=List.pairwise_cons.mp h
    by_cases q:x <= k
    . obtain ⟨i1,i2⟩:=ih h2
      have q':¬ k < x:=by omega
      simp [List.filter_cons,q,q',i1,i2]
    . have e:xs.filter (fun y=>decide (y <= k)) = []:=by
        rw [List.filter_eq_nil_iff]
        intro y hy;have:=h1 y hy;simp;omega
      have e2:xs.filter (fun y=>decide (k < y)) = xs:=by
        rw [List.filter_eq_self]
        intro y hy;have:=h1 y hy;simp;omega
      have q':k < x:=by omega
      simp [List.filter_cons,q,q',e,e2]
end TR
namespace TR
abbrev Bg:=Nat -> Option Int
def leB (b:Option Int) (x:Int):Prop:=∀ v,b = some v -> v <= x
def ltB (b:Option Int) (x:Int):Prop:=∀ v,b = some v -> v < x
def ltH (x:Int) (h:Option Int):Prop:=∀ v,h = some v -> x < v
def leBB (b c:Option Int):Prop:=∀ v,b = some v -> ∃ u,c = some u /\ v <= u
theorem leBB.refl (b:Option Int):leBB b b:=fun v h=>⟨v,h,Int.le_refl _⟩
theorem leBB.trans {a b c:Option Int} (h:leBB a b) (g:leBB b c):leBB a c:=fun v e=>by
  obtain ⟨u,e1,l1⟩:=h v e
  obtain ⟨x,e2,l2⟩:=g u e1
  exact ⟨x,e2,by omega⟩
def jx (b:Option Int) (ks:List Int):Nat -> Option Int
  | 0=>b
  | j + 1=>ks[j]?
structure zO (room:Nat) (b:Option Int) (p:Pg):Prop where
  sorted:p.ks.Pairwise (· < ·)
  few:p.ks.length <= room
  parts:p.ps.length = p.ks.length + (if p.lv = 0 then 0 else 1)
  low:∀ k ∈ p.ks,leB b k
  lowF:0 < p.lv -> ∀ k ∈ p.ks,ltB b k
  high:∀ k ∈ p.ks,ltH k p.hi
  wide:∀ h,p.hi = some h -> ltB b h
structure Tree (S:Sh) (bg:Bg):Prop where
  room2:2 <= S.room
  root:∃ r:Pg,S.pg[S.top]? = some r /\ ∀ (n:Nat) (p:Pg),S.pg[n]? = some p -> p.lv <= r.lv
  rbg:bg S.top = none
  page:∀ (n:Nat) (p:Pg),S.pg[n]? = some p -> zO S.room (bg n) p
  link:∀ (n:Nat) (p:Pg),S.pg[n]? = some p -> (p.hi = none /\ p.sd = none) ∨ ∃ (h:Int) (s:Nat) (q:Pg),p.hi = some h /\ p.sd = some s /\ S.pg[s]? = some q /\ q.lv = p.lv /\ bg s = some h
  kid:∀ (n:Nat) (p:Pg),S.pg[n]? = some p -> 0 < p.lv -> ∀ j k,p.ps[j]? = some k -> ∃ (c:Nat) (q:Pg),k = (c:Int) /\ S.pg[c]? = some q /\ q.lv + 1 = p.lv /\ bg c = jx (bg n) p.ks j
  dis:∀ (n m:Nat) (p q:Pg),S.pg[n]? = some p -> S.pg[m]? = some q -> p.lv = q.lv -> n ≠ m -> (∃ h v,p.hi = some h /\ bg m = some v /\ h <= v) ∨ (∃ h v,q.hi = some h /\ bg n = some v /\ h <= v)
  pred:∀ (n:Nat) (p:Pg),S.pg[n]? = some p -> ∀ v,bg n = some v -> ∃ (m:Nat) (q:Pg),S.pg[m]? = some q /\ q.lv = p.lv /\ q.hi = some v
theorem Tree.uniq {S:Sh} {bg:Bg} (T:Tree S bg) {n m:Nat} {p q:Pg} (hn:S.pg[n]? = some p) (hm:S.pg[m]? = some q) (hl:p.lv = q.lv) (hb:bg n = bg m):n = m:=by
  rcases Nat.decEq n m with h | h
  . exfalso
    rcases T.dis n m p q hn hm hl h with ⟨x,v,h1,h2,h3⟩ | ⟨x,v,h1,h2,h3⟩
    . have:=(T.page n p hn).wide x h1 v (hb.trans h2);omega
    . have:=(T.page m q hm).wide x h1 v (hb.symm.trans h2);omega
  . exact h
structure Grow (S:Sh) (bg:Bg) (S':Sh) (bg':Bg):Prop where
  old:∀ (n:Nat) (p:Pg),S.pg[n]? = some p -> bg' n = bg n /\ ∃ p':Pg,S'.pg[n]? = some p' /\ p'.lv = p.lv
theorem Grow.refl {S:Sh} {bg:Bg}:Grow S bg S bg:=⟨fun n p h=>⟨rfl,p,h,rfl⟩⟩
theorem Grow.trans {S S' S'':Sh} {bg bg' bg'':Bg} (a:Grow S bg S' bg') (b:Grow S' bg' S'' bg''):Grow S bg S'' bg'':=⟨fun n p h=>by
  obtain ⟨e1,p1,h1,l1⟩:=a.old n p h
  obtain ⟨e2,p2,h2,l2⟩:=b.old n p1 h1
  exact ⟨e2.trans e1,p2,h2,l2.trans l1⟩⟩
def Untold (S:Sh) (k:Nat):Prop:=∀ (n:Nat) (p:Pg),S.pg[n]? = some p -> 0 < p.lv -> (k:Int) ∉ p.ps
structure WOk (S:Sh) (bg:Bg) (w:Wk):Prop where
  at_:∀ n:Nat,w.place = some n -> ∃ p:Pg,S.pg[n]? = some p /\ w.goal <= p.lv /\ leB (bg n) w.aim
  none_:w.place = none -> ∀ l f,UH w.forks l = some f -> l < w.goal
  kept:∀ l f,UH w.forks l = some f -> ∃ p:Pg,S.pg[f]? = some p /\ p.lv = l
  above:∀ (n:Nat) (p:Pg),w.place = some n -> S.pg[n]? = some p -> ∀ l f,UH w.forks l = some f -> p.lv < l -> leBB (bg f) (bg n)
  chain:∀ l f l' f',UH w.forks l = some f -> UH w.forks l' = some f' -> w.goal <= l -> l < l' -> leBB (bg f') (bg f)
  gap:∀ (n:Nat) (p:Pg),w.place = some n -> S.pg[n]? = some p -> w.goal < p.lv -> ∀ l f,UH w.forks l = some f -> l < w.goal ∨ p.lv < l
  full:∀ (n:Nat) (p:Pg),w.place = some n -> S.pg[n]? = some p -> ∀ l' f',UH w.forks l' = some f' -> ∀ l,p.lv < l -> l <= l' -> ∃ f,UH w.forks l = some f
  tell:0 < w.goal -> ∃ (k:Nat) (q:Pg),w.newp = some k /\ S.pg[k]? = some q /\ q.lv + 1 = w.goal /\ bg k = some w.aim
theorem WOk.grow {S S':Sh} {bg bg':Bg} {w:Wk} (W:WOk S bg w) (g:Grow S bg S' bg'):WOk S' bg' w where
  at_:=fun n h=>by
    obtain ⟨p,h1,h2,h3⟩:=W.at_ n h
    obtain ⟨e,p',h4,h5⟩:=g.old n p h1
    exact ⟨p',h4,by omega,by rw [e];exact h3⟩
  none_:=W.none_
  kept:=fun l f h=>by
    obtain ⟨p,h1,h2⟩:=W.kept l f h
    obtain ⟨e,p',h4,h5⟩:=g.old f p h1
    exact ⟨p',h4,by omega⟩
  above:=fun n p' hp hn l f hf hl=>by
    obtain ⟨p,h1,_⟩:=W.at_ n hp
    obtain ⟨e,p2,h4,h5⟩:=g.old n p h1
    rw [h4] at hn;cases hn
    obtain ⟨pf,h6,_⟩:=W.kept l f hf
    rw [e,(g.old f pf h6).1]
    exact W.above n p hp h1 l f hf (by omega)
  chain:=fun l f l' f' h h' a b=>by
    obtain ⟨p,h1,_⟩:=W.kept l f h
    obtain ⟨p',h1',_⟩:=W.kept l' f' h'
    rw [(g.old f p h1).1,(g.old f' p' h1').1]
    exact W.chain l f l' f' h h' a b
  gap:=fun n p' hp hn a l f hf=>by
    obtain ⟨p,h1,_⟩:=W.at_ n hp
    obtain ⟨e,p2,h4,h5⟩:=g.old n p h1
    rw [h4] at hn;cases hn
    rw [h5]
    exact W.gap n p hp h1 (by omega) l f hf
  full:=fun n p' hp hn l' f' hf l a b=>by
    obtain ⟨p,h1,_⟩:=W.at_ n hp
    obtain ⟨e,p2,h4,h5⟩:=g.old n p h1
    rw [h4] at hn;cases hn
    exact W.full n p hp h1 l' f' hf l (by omega) b
  tell:=fun h=>by
    obtain ⟨k,q,h1,h2,h3,h4⟩:=W.tell h
    obtain ⟨e,p',h5,h6⟩:=g.old k q h2
    exact ⟨k,p',h1,h5,by omega,by rw [e];exact h4⟩
theorem WOk.fresh {S:Sh} {bg:Bg} {w:Wk} (h1:w.place = none) (h2:w.forks = []) (h3:w.goal = 0):WOk S bg w where
  at_:=fun n h=>by rw [h1] at h;cases h
  none_:=fun _ l f h=>by rw [h2] at h;cases h
  kept:=fun l f h=>by rw [h2] at h;cases h
  above:=fun n p h=>by rw [h1] at h;cases h
  chain:=fun l f l' f' h=>by rw [h2] at h;cases h
  gap:=fun n p h=>by rw [h1] at h;cases h
  full:=fun n p h=>by rw [h1] at h;cases h
  tell:=fun h=>by omega
theorem Jd {α:Type} {xs:List α} {n m:Nat} {x y:α} (h:(xs.set n x)[m]? = some y):(m = n /\ y = x /\ n < xs.length) ∨ (m ≠ n /\ xs[m]? = some y):=by
  by_cases e:m = n
  . subst e
    by_cases hl:m < xs.length
    . rw [List.getElem?_set_self hl] at h;cases h;exact .inl ⟨rfl,rfl,hl⟩
    . rw [List.getElem?_eq_none (by simpa using hl)] at h;cases h
  . rw [List.getElem?_set_ne (Ne.symm e)] at h;exact .inr ⟨e,h⟩
theorem Qcz {α:Type} {xs:List α} {n m:Nat} {x y:α} (h:xs[m]? = some y):(xs.set n x)[m]? = some (if m = n then x else y):=by
  have hl:=(List.getElem?_eq_some_iff.mp h).1
  by_cases e:m = n
  . subst e;rw [List.getElem?_set_self hl,if_pos rfl]
  . rw [List.getElem?_set_ne (Ne.symm e),h,if_neg e]
theorem Tree.write {S:Sh} {bg:Bg} (T:Tree S bg) {n:Nat} {p p':Pg} {x y:Int} (hn:S.pg[n]? = some p) (hl:p'.lv = p.lv) (hh:p'.hi = p.hi) (hs:p'.sd = p.sd) (ok:zO S.room (bg n) p')
    (hk:0 < p.lv -> ∀ j k,p'.ps[j]? = some k -> ∃ (c:Nat) (q:Pg),k = (c:Int) /\ S.pg[c]? = some q /\ q.lv + 1 = p.lv /\ bg c = jx (bg n) p'.ks j) :
    Tree { S with pg:=S.pg.set n p',rd:=x,wr:=y } bg /\ Grow S bg { S with pg:=S.pg.set n p',rd:=x,wr:=y } bg:=by
  have old:∀ (m:Nat) (q:Pg),S.pg[m]? = some q -> ∃ q':Pg,(S.pg.set n p')[m]? = some q' /\ q'.lv = q.lv /\ q'.hi = q.hi /\ q'.sd = q.sd:=fun m q h=>by
    refine ⟨_,Qcz h,?_⟩
    by_cases e:m = n
    . subst e;rw [hn] at h;cases h;simp [hl,hh,hs]
    . simp [e]
  have new:∀ (m:Nat) (q':Pg),(S.pg.set n p')[m]? = some q' -> ∃ q:Pg,S.pg[m]? = some q /\ q'.lv = q.lv /\ q'.hi = q.hi /\ q'.sd = q.sd:=fun m q' h=>by
    rcases Jd h with ⟨rfl,rfl,_⟩ | ⟨_,h⟩
    . exact ⟨p,hn,hl,hh,hs⟩
    . exact ⟨q',h,rfl,rfl,rfl⟩
  refine ⟨⟨T.room2,?_,T.rbg,fun m q h=>?_,fun m q h=>?_,fun m q h h0 j k hj=>?_,fun a b q r ha hb hab e=>?_,fun m q h v hv=>?_⟩,⟨fun m q h=>⟨rfl,by obtain ⟨q',h1,h2,_⟩:=old m q h;exact ⟨q',h1,h2⟩⟩⟩⟩
  . obtain ⟨r,h1,h2⟩:=T.root
    obtain ⟨r',h3,h4,_⟩:=old _ _ h1
    exact ⟨r',h3,fun m q h=>by obtain ⟨q0,h5,h6,_⟩:=new m q h;rw [h6,h4];exact h2 m q0 h5⟩
  . rcases Jd h with ⟨rfl,rfl,_⟩ | ⟨_,h⟩
    . exact ok
    . exact T.page m q h
  . obtain ⟨q0,h1,h2,h3,h4⟩:=new m q h
    rcases T.link m q0 h1 with ⟨a,b⟩ | ⟨x,s,r,a,b,c,d,e⟩
    . exact .inl ⟨h3.trans a,h4.trans b⟩
    . obtain ⟨r',c1,c2,_⟩:=old s r c
      exact .inr ⟨x,s,r',h3.trans a,h4.trans b,c1,by rw [c2,d,h2],e⟩
  . rcases Jd h with ⟨rfl,rfl,_⟩ | ⟨_,h⟩
    . obtain ⟨c,r,h1,h2,h3,h4⟩:=hk (by omega) j k hj
      obtain ⟨r',c1,c2,_⟩:=old c r h2
      exact ⟨c,r',h1,c1,by omega,h4⟩
    . obtain ⟨c,r,h1,h2,h3,h4⟩:=T.kid m q h h0 j k hj
      obtain ⟨r',c1,c2,_⟩:=old c r h2
      exact ⟨c,r',h1,c1,by omega,h4⟩
  . obtain ⟨q0,h1,h2,h3,_⟩:=new a q ha
    obtain ⟨r0,h5,h6,h7,_⟩:=new b r hb
    rw [h3,h7]
    exact T.dis a b q0 r0 h1 h5 (by omega) e
  . obtain ⟨q0,h1,h2,_⟩:=new m q h
    obtain ⟨a,r,h3,h4,h5⟩:=T.pred m q0 h1 v hv
    obtain ⟨r',c1,c2,c3,_⟩:=old a r h3
    exact ⟨a,r',c1,by omega,c3.trans h5⟩
end TR
namespace TR
theorem Qr {α:Type} {xs:List α} {x:α} {m:Nat} {y:α} (h:(xs ++ [x])[m]? = some y):(m = xs.length /\ y = x) ∨ xs[m]? = some y:=by
  rcases Nat.lt_or_ge m xs.length with q | q
  . rw [List.getElem?_append_left q] at h;exact .inr h
  . rw [List.getElem?_append_right q] at h
    by_cases e:m - xs.length = 0
    . rw [e] at h;simp at h;exact .inl ⟨by omega,h.symm⟩
    . rw [List.getElem?_eq_none (by simp;omega)] at h;cases h
theorem u7 {α:Type} {xs:List α} {x:α} {m:Nat} {y:α} (h:xs[m]? = some y):(xs ++ [x])[m]? = some y:=by
  rw [List.getElem?_append_left (List.getElem?_eq_some_iff.mp h).1];exact h
theorem XI {α:Type} {xs:List α} {m:Nat} {y:α} (h:xs[m]? = some y):m < xs.length:=(List.getElem?_eq_some_iff.mp h).1
section
variable {S:Sh} {bg:Bg} {n:Nat} {p P:Pg}
theorem GE {ks:List Int} (h:ks.Pairwise (· < ·)) {i j:Nat} {x y:Int} (hi:ks[i]? = some x) (hj:ks[j]? = some y) (hij:i < j):x < y:=by
  obtain ⟨a,rfl⟩:=List.getElem?_eq_some_iff.mp hi
  obtain ⟨b,rfl⟩:=List.getElem?_eq_some_iff.mp hj
  exact List.pairwise_iff_getElem.mp h i j a b hij
end
end TR
namespace TR
section
variable {S:Sh} {bg:Bg} {n:Nat} {p:Pg}
end
end TR
namespace TR
structure All (S:Sh) (bg:Bg) (ws:List Wk):Prop where
  ok:∀ (i:Nat) (w:Wk),ws[i]? = some w -> w.ended = false -> WOk S bg w
  unt:∀ (i:Nat) (w:Wk) (k:Nat),ws[i]? = some w -> w.ended = false -> 0 < w.goal -> w.newp = some k -> Untold S k
  diff:∀ (i j:Nat) (w v:Wk) (k:Nat),i ≠ j -> ws[i]? = some w -> ws[j]? = some v -> w.ended = false -> v.ended = false -> 0 < w.goal -> 0 < v.goal -> w.newp = some k -> v.newp ≠ some k
structure Stp (S:Sh) (bg:Bg) (w:Wk) (S':Sh) (bg':Bg) (w':Wk):Prop where
  tree:Tree S' bg'
  grow:Grow S bg S' bg'
  wok:w'.ended = false -> WOk S' bg' w'
  unt:∀ k v,Untold S k -> bg k = some v -> (0 < w.goal -> w.newp ≠ some k) -> Untold S' k
  new:∀ k,w'.ended = false -> 0 < w'.goal -> w'.newp = some k -> Untold S' k /\ ((0 < w.goal /\ w.newp = some k) ∨ S.pg.length <= k)
  room:S'.room = S.room
  len:S'.pg.length <= S.pg.length + 1
theorem All.step {S S':Sh} {bg bg':Bg} {ws:List Wk} {i:Nat} {w w':Wk} (A:All S bg ws) (hi:ws[i]? = some w) (hw:w.ended = false) (st:Stp S bg w S' bg' w'):All S' bg' (ws.set i w') where
  ok:=fun j v hj hv=>by
    rcases Jd hj with ⟨rfl,rfl,_⟩ | ⟨_,h⟩
    . exact st.wok hv
    . exact (A.ok j v h hv).grow st.grow
  unt:=fun j v k hj hv hg hk=>by
    rcases Jd hj with ⟨rfl,rfl,_⟩ | ⟨e,h⟩
    . exact (st.new k hv hg hk).1
    . obtain ⟨k',q,a1,a2,a3,a4⟩:=(A.ok j v h hv).tell hg
      rw [hk] at a1;cases a1
      exact st.unt k _ (A.unt j v k h hv hg hk) a4 fun g0=>(A.diff j i v w k e h hi hv hw hg g0 hk)
  diff:=fun a b u v k e ha hb hu hv gu gv hk hk'=>by
    have key:∀ (c:Nat) (x:Wk),c ≠ i -> ws[c]? = some x -> x.ended = false -> 0 < x.goal -> x.newp = some k -> w'.ended = false -> 0 < w'.goal -> w'.newp = some k -> False:=fun c x hc hx he hg hk he' hg' hk'=>by
      rcases (st.new k he' hg' hk').2 with ⟨g0,n0⟩ | l
      . exact A.diff c i x w k hc hx hi he hw hg g0 hk n0
      . obtain ⟨k',q,a1,a2,_⟩:=(A.ok c x hx he).tell hg
        rw [hk] at a1;cases a1
        have:=XI a2;omega
    rcases Jd ha with ⟨rfl,rfl,_⟩ | ⟨ea,ha2⟩
    . rcases Jd hb with ⟨rfl,rfl,_⟩ | ⟨eb,hb2⟩
      . exact e rfl
      . exact key b v eb hb2 hv gv hk' hu gu hk
    . rcases Jd hb with ⟨rfl,rfl,_⟩ | ⟨eb,hb2⟩
      . exact key a u ea ha2 hu gu hk hv gv hk'
      . exact A.diff a b u v k e ha2 hb2 hu hv gu gv hk hk'
theorem All.put {S:Sh} {bg:Bg} {ws:List Wk} {i:Nat} {w:Wk} (A:All S bg ws) (h1:w.place = none) (h2:w.forks = []) (h3:w.goal = 0):All S bg (ws.set i w) where
  ok:=fun j v hj hv=>by
    rcases Jd hj with ⟨rfl,rfl,_⟩ | ⟨_,h⟩
    . exact WOk.fresh h1 h2 h3
    . exact A.ok j v h hv
  unt:=fun j v k hj hv hg hk=>by
    rcases Jd hj with ⟨rfl,rfl,_⟩ | ⟨_,h⟩
    . omega
    . exact A.unt j v k h hv hg hk
  diff:=fun a b u v k e ha hb hu hv gu gv hk=>by
    rcases Jd ha with ⟨rfl,rfl,_⟩ | ⟨_,ha⟩
    . omega
    . rcases Jd hb with ⟨rfl,rfl,_⟩ | ⟨_,hb⟩
      . omega
      . exact A.diff a b u v k e ha hb hu hv gu gv hk
theorem Tree.rd {S:Sh} {bg:Bg} (T:Tree S bg) (x y:Int):Tree { S with rd:=x,wr:=y } bg:=⟨T.room2,T.root,T.rbg,T.page,T.link,T.kid,T.dis,T.pred⟩
section
variable {S:Sh} {bg:Bg} {n:Nat} {p P:Pg} {w:Wk}
theorem Untold.set {S:Sh} {n:Nat} {p P:Pg} {k:Nat} {x y:Int} (h:Untold S k) (hn:S.pg[n]? = some p) (hl:P.lv = p.lv) (hs:0 < p.lv -> (k:Int) ∈ P.ps -> (k:Int) ∈ p.ps):Untold { S with pg:=S.pg.set n P,rd:=x,wr:=y } k:=fun m q hm h0 hk=>by
  rcases Jd hm with ⟨rfl,rfl,_⟩ | ⟨_,hm⟩
  . exact h m p hn (by omega) (hs (by omega) hk)
  . exact h m q hm h0 hk
end
end TR
namespace TR
section
variable {S:Sh} {bg:Bg} {n:Nat} {p:Pg} {w:Wk}
theorem WOk.rd (W:WOk S bg w) (x y:Int):WOk { S with rd:=x,wr:=y } bg w:=⟨W.at_,W.none_,W.kept,W.above,W.chain,W.gap,W.full,W.tell⟩
end
end TR
namespace TR
def ltO:Option Int -> Option Int -> Bool
  | none,some _=>true
  | some v,some u=>decide (v < u)
  | _,none=>false
theorem j0 {a b c:Option Int} (h:ltO a b = true) (g:ltO b c = true):ltO a c = true:=by
  cases a <;> cases b <;> cases c <;> simp_all [ltO];omega
theorem Ut (a:Option Int):ltO a a = false:=by cases a <;> simp [ltO]
theorem K6 {b:Option Int} {h:Int} (w:ltB b h):ltO b (some h) = true:=by
  cases b with
  | none=>rfl
  | some v=>simpa [ltO] using w v rfl
theorem uX {α:Type} (p q:α -> Bool):∀ l:List α,(∀ x ∈ l,q x = true -> p x = true) -> (l.filter q).length <= (l.filter p).length
  | [],_=>Nat.le_refl _
  | x :: l,h=>by
    have ih:=uX p q l fun y hy=>h y (List.mem_cons_of_mem _ hy)
    have hx:=h x (by simp)
    by_cases a:q x = true
    . simp [List.filter_cons,a,hx a,ih]
    . by_cases b:p x = true
      . simp [List.filter_cons,a,b];omega
      . simp [List.filter_cons,a,b,ih]
theorem Uv {α:Type} (p q:α -> Bool):∀ l:List α,(∀ x ∈ l,q x = true -> p x = true) -> (∃ a ∈ l,p a = true /\ q a = false) -> (l.filter q).length < (l.filter p).length
  | [],_,h=>by obtain ⟨a,h,_⟩:=h;cases h
  | x :: l,h,⟨a,ha,pa,qa⟩=>by
    have le:=uX p q l fun y hy=>h y (List.mem_cons_of_mem _ hy)
    rcases List.mem_cons.mp ha with rfl | ha
    . simp [List.filter_cons,pa,qa];omega
    . have ih:=Uv p q l (fun y hy=>h y (List.mem_cons_of_mem _ hy)) ⟨a,ha,pa,qa⟩
      have hx:=h x (by simp)
      by_cases a:q x = true
      . simp [List.filter_cons,a,hx a];omega
      . by_cases b:p x = true
        . simp [List.filter_cons,a,b];omega
        . simp [List.filter_cons,a,b];omega
inductive Chain (S:Sh):Nat -> List Nat -> Prop
  | last {n:Nat} {p:Pg}:S.pg[n]? = some p -> p.sd = none -> Chain S n [n]
  | next {n:Nat} {p:Pg} {s:Nat} {r:List Nat}:S.pg[n]? = some p -> p.sd = some s -> Chain S s r -> Chain S n (n :: r)
section
variable {S:Sh} {bg:Bg}
theorem uE (T:Tree S bg) {n s:Nat} {p:Pg} (hn:S.pg[n]? = some p) (hs:p.sd = some s):∃ h q,p.hi = some h /\ S.pg[s]? = some q /\ q.lv = p.lv /\ bg s = some h /\ ltO (bg n) (bg s) = true:=by
  rcases T.link n p hn with ⟨_,b⟩ | ⟨h,s',q,a,b,c,d,e⟩
  . rw [hs] at b;cases b
  . rw [hs] at b;cases b
    exact ⟨h,q,a,c,d,e,by rw [e];exact K6 ((T.page n p hn).wide h a)⟩
def mu (S:Sh) (bg:Bg) (n:Nat):Nat:=((List.range S.pg.length).filter fun m=>ltO (bg n) (bg m)).length
theorem Ge (T:Tree S bg):∀ (m n:Nat) (p:Pg),mu S bg n < m -> S.pg[n]? = some p -> ∃ r,Chain S n r
  | 0,_,_,h,_=>by omega
  | m + 1,n,p,h,hn=>by
    cases hs:p.sd with
    | none=>exact ⟨_,.last hn hs⟩
    | some s =>
      obtain ⟨x,q,a1,a2,a3,a4,a5⟩:=uE T hn hs
      have:mu S bg s < mu S bg n:=by
        refine Uv _ _ _ (fun y _ hy=>j0 a5 hy) ⟨s,List.mem_range.mpr (XI a2),a5,Ut _⟩
      obtain ⟨r,hr⟩:=Ge T m s q (by omega) a2
      exact ⟨_,.next hn hs hr⟩
theorem Chain.facts (T:Tree S bg) {n:Nat} {r:List Nat} (c:Chain S n r):∀ p,S.pg[n]? = some p -> (∀ m ∈ r,∃ q,S.pg[m]? = some q /\ q.lv = p.lv) /\ (∀ m ∈ r,m = n ∨ ltO (bg n) (bg m) = true) /\ r.Pairwise (fun a b=>ltO (bg a) (bg b) = true) /\ (∀ m ∈ r,∀ q s,S.pg[m]? = some q -> q.sd = some s -> s ∈ r) /\ n ∈ r:=by
  induction c with
  | @last n p0 hn hs =>
    intro p hp
    rw [hn] at hp;cases hp
    refine ⟨fun m hm=>?_,fun m hm=>?_,by simp,fun m hm q s hq hqs=>?_,by simp⟩
    . rw [List.mem_singleton.mp hm];exact ⟨_,hn,rfl⟩
    . exact .inl (List.mem_singleton.mp hm)
    . rw [List.mem_singleton.mp hm,hn] at hq;cases hq;rw [hs] at hqs;cases hqs
  | @next n p0 s r hn hs c ih =>
    intro p hp
    rw [hn] at hp;cases hp
    obtain ⟨x,q,a1,a2,a3,a4,a5⟩:=uE T hn hs
    obtain ⟨i1,i2,i3,i4,i5⟩:=ih q a2
    have up:∀ m ∈ r,ltO (bg n) (bg m) = true:=fun m hm=>by
      rcases i2 m hm with rfl | h
      . exact a5
      . exact j0 a5 h
    refine ⟨fun m hm=>?_,fun m hm=>?_,List.pairwise_cons.mpr ⟨up,i3⟩,fun m hm q' s' hq hqs=>?_,by simp⟩
    . rcases List.mem_cons.mp hm with rfl | hm
      . exact ⟨_,hn,rfl⟩
      . obtain ⟨z,b1,b2⟩:=i1 m hm
        exact ⟨z,b1,b2.trans a3⟩
    . rcases List.mem_cons.mp hm with rfl | hm
      . exact .inl rfl
      . exact .inr (up m hm)
    . rcases List.mem_cons.mp hm with rfl | hm
      . rw [hn] at hq;cases hq
        rw [hs] at hqs;cases hqs
        exact List.mem_cons_of_mem _ i5
      . exact List.mem_cons_of_mem _ (i4 m hm q' s' hq hqs)
theorem Km {r:List Nat} (h:r.Pairwise (fun a b=>ltO (bg a) (bg b) = true)):r.Nodup :=
  h.imp fun {a b} hab e=>by subst e;rw [Ut] at hab;cases hab
theorem VM (T:Tree S bg) {n:Nat} {r:List Nat} {p:Pg} (c:Chain S n r) (hn:S.pg[n]? = some p) (hb:bg n = none):∀ (k m:Nat) (q:Pg),((List.range S.pg.length).filter fun x=>ltO (bg x) (bg m)).length < k -> S.pg[m]? = some q -> q.lv = p.lv -> m ∈ r
  | 0,_,_,h,_,_=>by omega
  | k + 1,m,q,h,hm,hl=>by
    obtain ⟨f1,f2,f3,f4,f5⟩:=c.facts T p hn
    cases e:bg m with
    | none=>rw [T.uniq hm hn hl (by rw [e,hb])];exact f5
    | some v =>
      obtain ⟨a,z,b1,b2,b3⟩:=T.pred m q hm v e
      have lt:ltO (bg a) (bg m) = true:=by rw [e];exact K6 ((T.page a z b1).wide v b3)
      have:((List.range S.pg.length).filter fun x=>ltO (bg x) (bg a)).length < ((List.range S.pg.length).filter fun x=>ltO (bg x) (bg m)).length :=
        Uv _ _ _ (fun y _ hy=>j0 hy lt) ⟨a,List.mem_range.mpr (XI b1),lt,Ut _⟩
      have ha:=VM T c hn hb k a z (by omega) b1 (by omega)
      rcases T.link a z b1 with ⟨g1,_⟩ | ⟨x,s,y,g1,g2,g3,g4,g5⟩
      . rw [b3] at g1;cases g1
      . rw [b3] at g1;cases g1
        have:s = m:=T.uniq g3 hm (by omega) (by rw [g5,e])
        subst this
        exact f4 a ha z s b1 g2
theorem Qbm (T:Tree S bg) {n:Nat} {p:Pg} (hn:S.pg[n]? = some p) (hb:bg n = none):∃ r,Chain S n r /\ r.Nodup /\ (∀ m,m ∈ r ↔ ∃ q,S.pg[m]? = some q /\ q.lv = p.lv):=by
  obtain ⟨r,c⟩:=Ge T (mu S bg n + 1) n p (by omega) hn
  obtain ⟨f1,f2,f3,f4,f5⟩:=c.facts T p hn
  exact ⟨r,c,Km f3,fun m=>⟨f1 m,fun ⟨q,h1,h2⟩=>VM T c hn hb _ m q (Nat.lt_succ_self _) h1 h2⟩⟩
def lvB (S:Sh) (f:Nat -> Bool) (n:Nat):Bool:=match S.pg[n]? with
  | some p=>f p.lv
  | none=>false
theorem um (T:Tree S bg) {l:Nat} {r:List Nat} (h:r.Nodup) (hm:∀ m,m ∈ r ↔ ∃ q,S.pg[m]? = some q /\ q.lv = l):r.length = ((List.range S.pg.length).filter (lvB S fun x=>decide (x = l))).length:=by
  refine List.Perm.length_eq ((List.perm_ext_iff_of_nodup h (List.nodup_range.filter _)).mpr fun m=>?_)
  rw [hm m,List.mem_filter,List.mem_range]
  constructor
  . rintro ⟨q,h1,h2⟩
    exact ⟨XI h1,by unfold lvB;rw [h1];simpa using h2⟩
  . rintro ⟨h1,h2⟩
    unfold lvB at h2
    rw [List.getElem?_eq_getElem h1] at h2
    exact ⟨_,List.getElem?_eq_getElem h1,by simpa using h2⟩
inductive Lefts (S:Sh) (bg:Bg):Nat -> List Nat -> Prop
  | leaf {n:Nat} {p:Pg}:S.pg[n]? = some p -> p.lv = 0 -> bg n = none -> Lefts S bg n [n]
  | fork {n c:Nat} {p:Pg} {r:List Nat}:S.pg[n]? = some p -> 0 < p.lv -> bg n = none -> p.ps[0]? = some (c:Int) -> Lefts S bg c r -> Lefts S bg n (n :: r)
theorem K7 (T:Tree S bg):∀ (l n:Nat) (p:Pg),p.lv = l -> S.pg[n]? = some p -> bg n = none -> ∃ r,Lefts S bg n r /\ r.length = l + 1
  | 0,n,p,h,hn,hb=>⟨_,.leaf hn h hb,rfl⟩
  | l + 1,n,p,h,hn,hb=>by
    have ok:=T.page n p hn
    have pl:=ok.parts
    rw [if_neg (by omega)] at pl
    have h0:0 < p.ps.length:=by omega
    obtain ⟨c,q,a1,a2,a3,a4⟩:=T.kid n p hn (by omega) 0 _ (List.getElem?_eq_getElem h0)
    obtain ⟨r,b1,b2⟩:=K7 T l c q (by omega) a2 (by rw [a4];exact hb)
    exact ⟨_,.fork hn (by omega) hb (by rw [List.getElem?_eq_getElem h0,a1]) b1,by simp [b2]⟩
theorem Lefts.get {n:Nat} {r:List Nat} (h:Lefts S bg n r):∀ (T:Tree S bg) (p:Pg),S.pg[n]? = some p -> r.length = p.lv + 1 /\ ∀ i c,r[i]? = some c -> ∃ q,S.pg[c]? = some q /\ q.lv + i = p.lv /\ bg c = none:=by
  induction h with
  | @leaf n p0 hn h0 hb =>
    intro T p hp
    rw [hn] at hp;cases hp
    refine ⟨by simp [h0],fun i c hc=>?_⟩
    match i,hc with
    | 0,hc=>cases hc;exact ⟨_,hn,rfl,hb⟩
    | i + 1,hc=>simp at hc
  | @fork n c p0 r hn h0 hb hc l ih =>
    intro T p hp
    rw [hn] at hp;cases hp
    obtain ⟨c',q,a1,a2,a3,a4⟩:=T.kid n p0 hn h0 0 _ hc
    have:c = c':=by omega
    subst this
    obtain ⟨i1,i2⟩:=ih T q a2
    refine ⟨by simp [i1];omega,fun i d hd=>?_⟩
    match i,hd with
    | 0,hd=>cases hd;exact ⟨_,hn,rfl,hb⟩
    | i + 1,hd =>
      obtain ⟨z,b1,b2,b3⟩:=i2 i d (by simpa using hd)
      exact ⟨z,b1,by omega,b3⟩
end
end TR
namespace TR
def fresh (d:Deed):Wk:=⟨d,d.key,0,none,[],none,none,[],false⟩
end TR
namespace D
open PySem PySem.Spec PyProof.Rows L2
def oN:Option Nat -> DV
  | none=>.non
  | some n=>.int n
def pgD (p:TR.Pg):DV:=.tup [.int p.lv,.tup (p.ks.map .int),.tup (p.ps.map .int),opt p.hi,oN p.sd]
def prD (ps:List (Int × Int)):List DV:=ps.map fun p=>.tup [.int p.1,.int p.2]
section
variable (s f q:Nat) (d a g p n w e x:DV)
end
end D
namespace D
open PySem PySem.Spec PyProof.Rows L2
section
variable {c f m:Str} {o e:DEx} {fa:DAx} {env:En} {hp hp1 hp2:Hs} {a n:Nat} {fs:List (Str × DV)} {d v:DV} {ds:List DV} {F:List DV -> M DV}
theorem uA {α:Type} {k:Nat -> List (Str × DV) -> M α} (h:hp[a]? = some (.ins c fs)):onI c (.ref a) k hp = k a fs hp:=by
  show (Zi a >>= _) hp = _
  rw [Qf (QY h)]
  show (QA (decide (c = c)) >>= fun _=>k a fs) hp = _
  rw [decide_eq_true rfl];rfl
theorem Qen (ho:o env hp = some (.ref a,hp1)) (h:hp1[a]? = some (.ins c fs)) (hf:fs.lookup f = some d):qx c f o env hp = some (d,hp1):=by
  unfold qx
  rw [Qf ho]
  unfold yW
  rw [uA h,hf];rfl
theorem Ja (ho:o env hp = some (.ref a,hp)) (h:hp[a]? = some (.ins c fs)) (hm:fs.lookup m = none) (ha:fa env hp = some (ds,hp1)) (hn:ds.length + 1 = n) (hF:F (.ref a :: ds) hp1 = some (d,hp2)):Zt c m n F o fa env hp = some (d,hp2):=by
  unfold Zt
  rw [Qf ho]
  have:onI c (.ref a) (fun _ fs=>QA (fs.lookup m).isNone) hp = some ((),hp):=by rw [uA h,hm];rfl
  rw [Qf this,Qf ha,decide_eq_true hn]
  show (QA true >>= fun _=>F (.ref a :: ds)) hp1 = _
  exact hF
theorem zB:Qk env hp = some ([],hp):=rfl
theorem Zh (h:e env hp = some (v,hp1)):Qb e Qk env hp = some ([v],hp1):=by unfold Qb;rw [Qf h];rfl
theorem ZH {e':DEx} {v':DV} (h:e env hp = some (v,hp1)) (h':e' env hp1 = some (v',hp2)):Qb e (Qb e' Qk) env hp = some ([v,v'],hp2):=by
  have:=Zh h'
  unfold Qb at this ⊢;rw [Qf h,Qf this];rfl
theorem j9 {e' e'':DEx} {v' v'':DV} {hp3:Hs} (h:e env hp = some (v,hp1)) (h':e' env hp1 = some (v',hp2)) (h'':e'' env hp2 = some (v'',hp3)):Qb e (Qb e' (Qb e'' Qk)) env hp = some ([v,v',v''],hp3):=by
  have:=ZH h' h''
  unfold Qb at this ⊢;rw [Qf h,Qf this];rfl
theorem var_at {i:Nat} (h:env[i]? = some (.val d)):Qc i env hp = some (d,hp):=by unfold Qc;rw [h];rfl
theorem QO {k:Nat} (ha:fa env hp = some (ds,hp1)) (hk:ds.length = k) (hF:F ds hp1 = some (d,hp2)):Qt k F fa env hp = some (d,hp2):=by
  unfold Qt;rw [Qf ha,decide_eq_true hk];exact hF
theorem vM {c:DTx} {f g:DSx} (h:c env hp = some (true,hp1)):sIf c f g env hp = f env hp1:=by rw [Qbi h];rfl
theorem JO {c:DTx} {f g:DSx} (h:c env hp = some (false,hp1)):sIf c f g env hp = g env hp1:=by rw [Qbi h];rfl
theorem JQ:ZJ env hp = some ((.nx,env),hp):=rfl
theorem Qc1 {i:Nat} (h:hp[a]? = some (.lst ds)) (hd:ds[i]? = some d):ixG (.ref a) (.int i) hp = some (d,hp):=by
  show (Zi a >>= _) hp = _
  rw [Qf (QY h)]
  show (asI (.int (i:Int)) >>= fun i=>qP (atI ds i)) hp = _
  simp only [asI,pure_bind,UP hd];rfl
end
theorem QdD {xs:List DV} {i:Nat} {d:DV} (h:xs[i]? = some d) (hp:Hs):ixG (.tup xs) (.int i) hp = some (d,hp):=by
  show ixD (.tup xs) (.int i) hp = _
  simp only [ixD,UP h];rfl
end D
namespace D
open PySem PySem.Spec PyProof.Rows L2
section
variable {e e' e'' e3 e4:DEx} {fa:DAx} {env:En} {hp hp1 hp2 hp3 hp4 hp5:Hs} {v v' v'' v3 v4 d:DV} {ds:List DV}
theorem x9 (ha:fa env hp = some (ds,hp1)) (hs:ds.length <= 100000):JD fa env hp = some (.tup ds,hp1):=by
  unfold JD
  rw [Qf ha]
  have:Xs ds = true:=decide_eq_true hs
  rw [this];rfl
theorem uC (h:e env hp = some (v,hp1)) (h':e' env hp1 = some (v',hp2)) (h'':e'' env hp2 = some (v'',hp3)) (h3:e3 env hp3 = some (v3,hp4)):Qb e (Qb e' (Qb e'' (Qb e3 Qk))) env hp = some ([v,v',v'',v3],hp4):=by
  have:=j9 h' h'' h3
  unfold Qb at this ⊢;rw [Qf h,Qf this];rfl
theorem Qda (h:e env hp = some (v,hp1)) (h':e' env hp1 = some (v',hp2)) (h'':e'' env hp2 = some (v'',hp3)) (h3:e3 env hp3 = some (v3,hp4)) (h4:e4 env hp4 = some (v4,hp5)):Qb e (Qb e' (Qb e'' (Qb e3 (Qb e4 Qk)))) env hp = some ([v,v',v'',v3,v4],hp5):=by
  have:=uC h' h'' h3 h4
  unfold Qb at this ⊢;rw [Qf h,Qf this];rfl
end
theorem Yd (zs:List (Int × Int)):(prD zs).length = zs.length:=List.length_map _
theorem uj (zs ys:List (Int × Int)):prD zs ++ prD ys = prD (zs ++ ys):=by simp [prD]
section
variable {c c':DTx} {e e':DEx} {env:En} {hp hp1:Hs} {b:Bool}
theorem zH (h:c env hp = some (false,hp1)):eOr c c' env hp = c' env hp1:=by unfold eOr;rw [Qf h];rfl
theorem Up (h:c env hp = some (true,hp1)):Xw c c' env hp = c' env hp1:=by unfold Xw;rw [Qf h];rfl
theorem GT (h:c env hp = some (false,hp1)):Xw c c' env hp = some (false,hp1):=by unfold Xw;rw [Qf h];rfl
theorem Kg (h:c env hp = some (true,hp1)):eIf c e e' env hp = e env hp1:=by unfold eIf;rw [Qf h];rfl
theorem Gp (h:c env hp = some (false,hp1)):eIf c e e' env hp = e' env hp1:=by unfold eIf;rw [Qf h];rfl
end
end D
namespace D
open PySem PySem.Spec PyProof.Rows L2
section
variable {f g:DEx} {fa:DAx} {env:En} {hp hp1 hp2:Hs} {d x y:DV} {ds:List DV} {F:List DV -> M DV}
theorem JW (h:fa env hp = some (ds,hp1)) (hF:F ds hp1 = some (d,hp2)):QU F fa env hp = some (d,hp2):=by unfold QU;rw [Qf h];exact hF
theorem Qay (ds:List DV) (hp:Hs):Zd [.lst ds] hp = some (.int ds.length,hp):=rfl
theorem jp (ds:List DV) (hp:Hs):Zd [.tup ds] hp = some (.int ds.length,hp):=rfl
theorem Gq {n:Nat} (h:hp[n]? = some (.lst ds)):Zd [.ref n] hp = some (.int ds.length,hp):=by
  show (Zi n >>= _) hp = _
  rw [Qf (QY h)];rfl
theorem neI (i j:Int) (hp:Hs):neG (.int i) (.int j) hp = some (.bl (!(i == j)),hp):=by
  unfold neG;rw [Qf (Gh i j hp)];rfl
theorem QeS (i:Int) (hp:Hs):neG (.int i) (.int i) hp = some (.bl false,hp):=by rw [neI];simp
theorem eqI (i j:Int) (hp:Hs):eqG (.int i) (.int j) hp = some (.bl (i == j),hp):=by
  unfold eqG;rw [Qf (Gh i j hp)];rfl
theorem neO (a b:Option Int) (hp:Hs):neG (opt a) (opt b) hp = some (.bl (!decide (a = b)),hp):=by
  unfold neG;rw [Qf (QaN a b hp)];rfl
theorem Qfc (b:Bool) (hp:Hs):neG (.bl b) (.bl b) hp = some (.bl false,hp):=by
  have e:=Kb (kU 39 hp b) (kU 39 hp b) (Qa1 b) (Qa1 b)
  unfold neG;rw [Qf e];cases b <;> rfl
end
theorem vI {f:DIx} {env:En} {hp hp1:Hs} {ds:List DV} (h:f env hp = some (ds,hp1)):xOf f env hp = some (nxD ds,hp1):=by unfold xOf;rw [Qf h];rfl
theorem Qcu {f:DAx} {env:En} {hp hp1:Hs} {a b:Nat} (h:f env hp = some ([.int (a:Int),.int (b:Int)],hp1)) (ha:a <= 1000000) (hb:b <= 1000000):QcJ f env hp = some (QN a (b - a),hp1):=by
  unfold QcJ
  rw [Qf h]
  have e:vk [.int (a:Int),.int (b:Int)] = pure (QN a ((b:Int) - a).toNat):=by
    simp only [vk,YN ha,YN hb,Bool.and_self,QA,if_true,pure_bind]
  rw [e,show ((b:Int) - a).toNat = b - a by omega];rfl
end D
namespace D
open PySem PySem.Spec PyProof.Rows L2
section
variable {c:DTx} {b:DSx} {n:Nat} {env env1:En} {hp hp1 hp2:Hs}
theorem jE (h:c env hp = some (true,hp1)) (hb:b env hp1 = some ((.nx,env1),hp2)):ZZ c b (n + 1) env hp = ZZ c b n env1 hp2:=by
  rw [ZZ,Qf h]
  simp only [if_true]
  rw [Qf hb]
theorem Uf (h:c env hp = some (false,hp1)):ZZ c b (n + 1) env hp = some ((.nx,env),hp1):=by
  rw [ZZ,Qf h];rfl
end
def nD (r:List Nat):List DV:=r.map fun n:Nat=>DV.int (n:Int)
theorem Je (r:List Nat):(nD r).length = r.length:=List.length_map _
theorem Qaf (r s:List Nat):nD r ++ nD s = nD (r ++ s):=by simp [nD]
theorem jV {r:List Nat} {i n:Nat} (h:r[i]? = some n):(nD r)[i]? = some (.int (n:Int)):=by unfold nD;rw [List.getElem?_map,h];rfl
theorem uN {hp:Hs} {d k:Nat} {kvs:List (Key × DV)} {v:DV} (h:hp[d]? = some (.dic kvs)) (hv:XC kvs (.inl (k:Int)) = some v):yD (.int (k:Int)) (.ref d) hp = some (.bl false,hp):=by
  unfold yD
  have:QbU (.int (k:Int)) (.ref d) hp = some (true,hp):=by
    show (Zi d >>= _) hp = _
    rw [Qf (QY h)]
    show some ((XC kvs (.inl (k:Int))).isSome,hp) = _
    rw [hv];rfl
  rw [Qf this];rfl
theorem Qap {hp:Hs} {d k:Nat} {kvs:List (Key × DV)} {v:DV} (h:hp[d]? = some (.dic kvs)) (hv:XC kvs (.inl (k:Int)) = some v):ixG (.ref d) (.int (k:Int)) hp = some (v,hp):=by
  show (Zi d >>= _) hp = _
  rw [Qf (QY h)]
  show (qP (XC kvs (.inl (k:Int)))) hp = _
  rw [hv];rfl
theorem jN {o e:DEx} {env:En} {hp:Hs} {a:Nat} {ds:List DV} {d:DV} (ho:o env hp = some (.ref a,hp)) (h:hp[a]? = some (.lst ds)) (he:e env hp = some (d,hp)) (hl:ds.length < 100000):JC "list" Zs o (Qb e Qk) env hp = some (.non,hp.set a (.lst (ds ++ [d]))):=by
  unfold JC
  rw [Qf ho]
  have e2:qq "list" (.ref a) hp = some ((),hp):=by
    show (Zi a >>= _) hp = _
    rw [Qf (QY h)];rfl
  rw [Qf e2,Qf (Zh he)]
  show (Zi a >>= _) hp = _
  rw [Qf (QY h)]
  show (QA (decide (ds.length < lim)) >>= fun _=>jX a (.lst (ds ++ [d])) >>= fun _=>pure DV.non) hp = _
  rw [show decide (ds.length < lim) = true from decide_eq_true hl];rfl
theorem QaD {i:Int} {n:Nat} {f g h:DEx} {env:En} {hp:Hs} (h1:f env hp = some (.int 0,hp)) (h2:g env hp = some (.int i,hp)) (h3:h env hp = some (.int (n:Int),hp)) (a:0 <= i) (b:i < n):YU leD ltD f g h env hp = some (.bl true,hp):=by
  unfold YU
  rw [Qf h1,Qf h2]
  show (leD (.int 0) (.int i) >>= _) hp = _
  rw [Xb,decide_eq_true a,pure_bind]
  show (asB (.bl true) >>= _) hp = _
  simp only [asB,pure_bind,if_true]
  rw [Qf h3,Xc,decide_eq_true b];rfl
end D
namespace D
open PySem PySem.Spec PyProof.Rows L2
end D
namespace D
open PySem PySem.Spec PyProof.Rows L2
section
variable {X:Cx} {e:Expr} {f:DEx} {pos:Pos}
end
end D
namespace D
open PySem PySem.Spec PyProof.Rows L2
def Pl:Nat -> DV -> Prop
  | _,.non=>True
  | _,.bl _=>True
  | _,.int _=>True
  | _,.str x=>PyData.strOk x = true
  | n + 1,.tup ds=>∀ d ∈ ds,Pl n d
  | n + 1,.lst ds=>∀ d ∈ ds,Pl n d
  | _,_=>False
theorem UL:∀ (n:Nat) (d:DV) (k:Nat) (hp:Hs),Pl n d -> drf (n + k + 1) hp d = some d
  | n,.non,k,hp,_=>rfl
  | n,.bl _,k,hp,_=>rfl
  | n,.int _,k,hp,_=>rfl
  | n,.str _,k,hp,_=>rfl
  | 0,.tup ds,k,hp,h=>h.elim
  | 0,.lst ds,k,hp,h=>h.elim
  | 0,.ref _,k,hp,h=>h.elim
  | n + 1,.ref _,k,hp,h=>h.elim
  | n + 1,.tup ds,k,hp,h=>by
    show (ds.mapM (drf (n + 1 + k) hp)).map DV.tup = _
    rw [ze fun d hd=>(by rw [Nat.add_right_comm];exact UL n d k hp (h d hd))];rfl
  | n + 1,.lst ds,k,hp,h=>by
    show (ds.mapM (drf (n + 1 + k) hp)).map DV.lst = _
    rw [ze fun d hd=>(by rw [Nat.add_right_comm];exact UL n d k hp (h d hd))];rfl
theorem Uj:∀ (ds:List DV),(∀ d ∈ ds,(toP d).canLay0 = true) -> PyData.canLayAll0 (toPs ds) = true
  | [],_=>by unfold toPs PyData.canLayAll0;rfl
  | d :: ds,h=>by unfold toPs PyData.canLayAll0;rw [h d (by simp),Uj ds fun x hx=>h x (List.mem_cons_of_mem _ hx)];rfl
theorem yS:∀ (n:Nat) (d:DV),Pl n d -> (toP d).canLay0 = true
  | n,.non,_=>by unfold toP PyData.canLay0;rfl
  | n,.bl _,_=>by unfold toP PyData.canLay0;rfl
  | n,.int _,_=>by unfold toP PyData.canLay0;rfl
  | n,.str x,h=>by cases n <;> (unfold toP PyData.canLay0;exact h)
  | 0,.tup ds,h=>h.elim
  | 0,.lst ds,h=>h.elim
  | 0,.ref _,h=>h.elim
  | n + 1,.ref _,h=>h.elim
  | n + 1,.tup ds,h=>by unfold toP PyData.canLay0;exact Uj ds fun d hd=>yS n d (h d hd)
  | n + 1,.lst ds,h=>by unfold toP PyData.canLay0;exact Uj ds fun d hd=>yS n d (h d hd)
theorem jO (n:Nat):∀ (ds:List DV),(∀ d ∈ ds,(toP d).depth <= n) -> PyData.depthAll (toPs ds) <= n
  | [],_=>by unfold toPs PyData.depthAll;exact Nat.zero_le _
  | d :: ds,h=>by unfold toPs PyData.depthAll;exact Nat.max_le.mpr ⟨h d (by simp),jO n ds fun x hx=>h x (List.mem_cons_of_mem _ hx)⟩
theorem y1:∀ (n:Nat) (d:DV),Pl n d -> (toP d).depth <= n
  | n,.non,_=>by unfold toP PyData.depth;exact Nat.zero_le _
  | n,.bl _,_=>by unfold toP PyData.depth;exact Nat.zero_le _
  | n,.int _,_=>by unfold toP PyData.depth;exact Nat.zero_le _
  | n,.str x,h=>by unfold toP PyData.depth;exact Nat.zero_le _
  | 0,.tup ds,h=>h.elim
  | 0,.lst ds,h=>h.elim
  | 0,.ref _,h=>h.elim
  | n + 1,.ref _,h=>h.elim
  | n + 1,.tup ds,h=>by unfold toP PyData.depth;exact Nat.succ_le_succ (jO n ds fun d hd=>y1 n d (h d hd))
  | n + 1,.lst ds,h=>by unfold toP PyData.depth;exact Nat.succ_le_succ (jO n ds fun d hd=>y1 n d (h d hd))
theorem jW {n:Nat} {d:DV} (h:Pl n d) (hn:n <= 64):SeqAt.shaped (toP d) = true:=by
  unfold SeqAt.shaped;rw [yS n d h,decide_eq_true (Nat.le_trans (y1 n d h) hn)];rfl
theorem ym {n:Nat} {d:DV} (h:Pl n d) (hn:n < 40) (hp:Hs):drf 40 hp d = some d:=by
  have:=UL n d (39 - n) hp h
  rwa [show n + (39 - n) + 1 = 40 by omega] at this
theorem Pl.mono:∀ {n m:Nat} {d:DV},Pl n d -> n <= m -> Pl m d
  | n,m,.non,h,hn=>by cases m <;> trivial
  | n,m,.bl _,h,hn=>by cases m <;> trivial
  | n,m,.int _,h,hn=>by cases m <;> trivial
  | n,m,.str _,h,hn=>by cases n <;> cases m <;> exact h
  | 0,m,.tup ds,h,hn=>h.elim
  | 0,m,.lst ds,h,hn=>h.elim
  | 0,m,.ref _,h,hn=>h.elim
  | n + 1,m,.ref _,h,hn=>h.elim
  | n + 1,0,.tup ds,h,hn=>absurd hn (Nat.not_succ_le_zero _)
  | n + 1,0,.lst ds,h,hn=>absurd hn (Nat.not_succ_le_zero _)
  | n + 1,m + 1,.tup ds,h,hn=>fun d hd=>(h d hd).mono (Nat.le_of_succ_le_succ hn)
  | n + 1,m + 1,.lst ds,h,hn=>fun d hd=>(h d hd).mono (Nat.le_of_succ_le_succ hn)
theorem UT (n:Nat) (i:Int):Pl n (.int i):=by cases n <;> trivial
theorem QdC {n:Nat} {ds:List DV} (h:∀ d ∈ ds,Pl n d):Pl (n + 1) (.lst ds):=h
theorem gm {x y:DV} {n m:Nat} (h:Pl n x) (h':Pl m y) (hn:n < 40) (hm:m < 40) (hp:Hs):xI x y hp = some (PyData.eqv (toP x) (toP y),hp):=by
  unfold xI GN
  show ((Option.map _ (drf 40 hp x)).bind _) = _
  rw [ym h hn]
  show ((Option.map _ (drf 40 hp y)).bind _) = _
  rw [ym h' hm]
  show (QA (SeqAt.shaped (toP x) && SeqAt.shaped (toP y)) >>= fun _=>pure (PyData.eqv (toP x) (toP y)):M Bool) hp = _
  rw [jW h (by omega),jW h' (by omega)]
  rfl
theorem VA {x:DV} {n:Nat} (h:Pl n x) (hn:n < 40) (hp:Hs):xI x x hp = some (true,hp):=by
  rw [gm h h hn hn,SeqAt.eqv_refl _ (yS n x h)]
theorem Go {x:DV} {n:Nat} (h:Pl n x) (hn:n < 40) (hp:Hs):eqG x x hp = some (.bl true,hp):=by
  unfold eqG;rw [Qf (VA h hn hp)];rfl
theorem Qbq {x:DV} {n:Nat} (h:Pl n x) (hn:n < 40) (hp:Hs):neG x x hp = some (.bl false,hp):=by
  unfold neG;rw [Qf (VA h hn hp)];rfl
theorem VX {a:Nat} {ds:List DV} {n:Nat} {hp:Hs} (ha:hp[a]? = some (.lst ds)) (h:∀ d ∈ ds,Pl n d) (hn:n < 38):xI (.ref a) (.lst ds) hp = some (true,hp):=by
  have hl:Pl (n + 1) (.lst ds):=h
  have e:drf 40 hp (.ref a) = some (.lst ds):=by
    show (match hp[a]? with | some (.lst ds)=>(ds.mapM (drf 39 hp)).map DV.lst | _=>none) = _
    rw [ha]
    show (ds.mapM (drf 39 hp)).map DV.lst = _
    rw [ze fun d hd=>(by have:=UL n d (38 - n) hp (h d hd);rwa [show n + (38 - n) + 1 = 39 by omega] at this)];rfl
  unfold xI GN
  show ((Option.map _ (drf 40 hp (.ref a))).bind _) = _
  rw [e]
  show ((Option.map _ (drf 40 hp (.lst ds))).bind _) = _
  rw [ym hl (by omega)]
  show (QA (SeqAt.shaped (toP (.lst ds)) && SeqAt.shaped (toP (.lst ds))) >>= fun _=>pure (PyData.eqv (toP (.lst ds)) (toP (.lst ds))):M Bool) hp = _
  rw [jW hl (by omega),SeqAt.eqv_refl _ (yS _ _ hl)]
  rfl
theorem Qao {a:Nat} {ds:List DV} {n:Nat} {hp:Hs} (ha:hp[a]? = some (.lst ds)) (h:∀ d ∈ ds,Pl n d) (hn:n < 38):eqG (.ref a) (.lst ds) hp = some (.bl true,hp):=by
  unfold eqG;rw [Qf (VX ha h hn)];rfl
theorem yj {a:Nat} {ds:List DV} {n:Nat} {hp:Hs} (ha:hp[a]? = some (.lst ds)) (h:∀ d ∈ ds,Pl n d) (hn:n < 38):neG (.ref a) (.lst ds) hp = some (.bl false,hp):=by
  unfold neG;rw [Qf (VX ha h hn)];rfl
theorem ku {t:DV -> M Bool} {f:DV -> M DV} {g:DV -> DV} {hp:Hs} (ds:List DV) (ht:∀ d ∈ ds,t d hp = some (true,hp)) (hf:∀ d ∈ ds,f d hp = some (g d,hp)) (hl:ds.length < 100000):Yr (nxD ds) t f 100000 0 hp = some (ds.map g,hp):=by
  suffices h:∀ (m i n:Nat),m + i = ds.length -> m < n -> Yr (nxD ds) t f n i hp = some ((ds.drop i).map g,hp) by simpa using h ds.length 0 100000 rfl hl
  intro m
  induction m with
  | zero =>
    intro i n e hn'
    obtain ⟨n,rfl⟩:∃ k,n = k + 1:=⟨n - 1,by omega⟩
    have:i = ds.length:=by omega
    subst this
    have e1:=vF ds ds.length (Nat.le_refl _) hp
    rw [show ds[ds.length]? = none by simp] at e1
    rw [Yr,Qf e1,List.drop_length];rfl
  | succ m ih =>
    intro i n e hn'
    obtain ⟨n,rfl⟩:∃ k,n = k + 1:=⟨n - 1,by omega⟩
    have hlt:i < ds.length:=by omega
    have e1:=vF ds i (by omega) hp
    rw [List.getElem?_eq_getElem hlt] at e1
    rw [Yr,Qf e1]
    simp only
    rw [Qf (ht ds[i] (List.getElem_mem hlt)),List.drop_eq_getElem_cons hlt]
    simp only [if_true]
    rw [Qf (hf ds[i] (List.getElem_mem hlt)),Qf (ih (i + 1) n (by omega) (by omega))];rfl
theorem V5 {α:Type} {m:M α} {x:α} (h:∀ hp,m hp = some (x,hp)):m = pure x:=funext h
section
variable {env:En} {hp hp1 hp2 hp3 hp4 hp5 hp6 hp7:Hs} {e e' e'' e3 e4 e5 e6:DEx} {v v' v'' v3 v4 v5 v6:DV}
end
end D
namespace L2
open PySem PySem.Spec PyProof.Rows
def Qcw (lo c:Int) (n:Nat):It:=⟨fun i _=>i < n,fun i H x H'=>H' = H /\ x = .int (lo + (i:Nat) * c),fun i _=>n <= i⟩
theorem KG {P:Program} {w:World} {K:PySem.W.Frag} {tg:Expr} (it:Addr) (lo c:Int) (n:Nat):gB P w K tg (Qcw lo c n) [it] it (fun i h=>IsRangeIter h it (lo + (i:Nat) * c) ((n:Int) - (i:Nat)) c) where
  mem:=by simp
  obj:=fun i h st b hb=>by
    have e:b = it:=by simpa using hb
    subst e
    exact ⟨_,st,fun v z=>by
      have z':Data.fields _ = Data.cell v:=z
      cases z'⟩
  keep:=fun i h h' st k=>k it (by simp) _ st
  item:=by
    intro X hP hw hK hc i pins s σ H E I hf st hg
    subst hP hw hK
    obtain ⟨f0,f1,f2,f3,f4,f5⟩:=hf it (by simp)
    have W:=Walks.range (prog:=X.prog) (w:=X.w) (I.ok.hd hc) it lo c n
    refine W.item i s _ _ hg st fun v h' tk hv st' kk=>?_
    obtain ⟨t,rfl⟩:=hv
    have I1:Inv X pins σ H { s with heap:=h',toks:=tk }:=I.turned (fun b o hb e=>kk b o (by simpa using hb) e) f0 f1 f3 f4 f5
    exact ⟨_,rfl,vY (s:={ s with heap:=h',toks:=tk }) (n := "range_iterator") st' rfl rfl (by decide) ⟨.int (lo + (i:Nat) * c),H,I1,⟨t,rfl⟩,⟨rfl,rfl⟩,st',fun b hb=>(hf b hb).1⟩⟩
  done:=by
    intro X hP hw hK hc i pins s σ H E I hf st hg
    subst hP hw hK
    obtain ⟨f0,f1,f2,f3,f4,f5⟩:=hf it (by simp)
    exact wpAny_pyNext_range_end (I.ok.hd hc) st (by have:n <= i:=hg;omega) fun h' eb=>⟨rfl,I.turned (t':=s.toks) (fun b o hb e=>eb b o hb e) f0 f1 f3 f4 f5⟩
  self:=fun _ _ _ _ _ st h=>wpAny_pyIter_rangeiter st h
section
variable {X:Cx} {tg:Expr}
def rcnt (hi c:Int):Nat:=((hi + c - 1) / c).toNat
theorem u5 {hi c:Int} (hc:1 <= c) (hh:0 <= hi):Builtin.Range.rangeSize 0 hi c = (rcnt hi c:Int):=by
  rw [rangeSize_pos hc hh]
  unfold rcnt
  have:0 <= (hi + c - 1) / c:=Int.ediv_nonneg (by omega) (by omega)
  omega
theorem Qb4 {hi c:Int} (hc:1 <= c) (hh:0 <= hi):(rcnt hi c:Int) <= hi + c:=by
  rw [<- u5 hc hh,rangeSize_pos hc hh]
  have:=Int.ediv_le_self (b:=c) (a:=hi + c - 1) (by omega)
  omega
theorem kO {hi c:Int} (hc:1 <= c) (hh:0 <= hi) (h1:hi < 2 ^ 40) (h2:c < 1073741824):Builtin.Range.small 0 hi c = true:=by
  have l:=Qb4 hc hh
  unfold Builtin.Range.small
  rw [u5 hc hh]
  simp only [Builtin.Range.rangeFitsLong,Bool.and_eq_true,Bool.or_eq_true,decide_eq_true_eq,beq_iff_eq,show c > 0 by omega,if_true]
  omega
theorem gc {pins:List (Addr × Obj)} {σ:St} {H:Hp} {s:Shared} {R:It -> Hp -> Prop} {E:Value -> Shared -> Prop} {hi c:Int} {t u v:Tok} {tk:Nat} (I:Inv X pins σ H s) (hc:1 <= c) (hh:0 <= hi) (h1:hi < 2 ^ 40) (h2:c < 1073741824)
    (q:R (Qcw 0 c (rcnt hi c)) H):wpAny (model X.prog X.w) X.A (pyIter (.ref s.heap.objs.size)) (PIE X pins σ tg R) E { s with heap:=s.heap.push { cls:=.type "range", data:=.fields #[.int 0 t,.int hi u,.int c v] },toks:=tk }:=by
  refine wpAny_pyIter_range (IsRange.new ..) (kO hc hh h1 h2) ?_
  have I1:Inv X pins σ H { s with heap:=s.heap.push { cls:=.type "range", data:=.fields #[.int 0 t,.int hi u,.int c v] },toks:=tk }:=I.kept fun b o e=>Heap.get?_push_of_some _ e
  refine ⟨(s.heap.push { cls:=.type "range", data:=.fields #[.int 0 t,.int hi u,.int c v] }).objs.size,[(s.heap.push { cls:=.type "range", data:=.fields #[.int 0 t,.int hi u,.int c v] }).objs.size],_,_,H,rfl,
    I1.kept (t':=tk) fun b o e=>Heap.get?_push_of_some _ e,KG _ 0 c (rcnt hi c),?_,fun b hb=>?_,q⟩
  . have e1:(0:Int) + ((0:Nat):Int) * c = 0:=by simp
    have e2:((rcnt hi c:Nat):Int) - ((0:Nat):Int) = Builtin.Range.rangeSize 0 hi c:=by rw [u5 hc hh];simp
    show IsRangeIter _ _ ((0:Int) + ((0:Nat):Int) * c) (((rcnt hi c:Nat):Int) - ((0:Nat):Int)) c
    rw [e1,e2]
    exact Heap.get?_push_size _ rfl
  . have e:b = (s.heap.push { cls:=.type "range", data:=.fields #[.int 0 t,.int hi u,.int c v] }).objs.size:=by simpa using hb
    subst e
    exact I1.fpOk (Nat.le_refl _) (I1.hok.fresh (Nat.le_refl _))
def R3 (vs:List V) (hi c:Int):Prop:=vs = [.int 0,.int hi,.int c] /\ 1 <= c /\ 0 <= hi /\ hi < 2 ^ 40 /\ c < 1073741824
def Qe7 (ta:TA):TI:=fun σ H R=>ta σ H fun vs H1=>∃ hi c:Int,R3 vs hi c /\ R (Qcw 0 c (rcnt hi c)) H1
theorem QbT {hi c:Int} (hc:1 <= c) (h2:c < 1073741824):Builtin.divisionGoesByPylong (hi - 0) c = false:=by
  exact PyProof.noPylong_small (by omega)
theorem kj {a b d:Expr} {ta:TA} {p pos:Pos} (hg:Gl X "range") (hm:X.mg "range" = none) (ha:PA X [a,b,d] ta) (hs:starEach [a,b,d] X.env = [(false,eval a X.env),(false,eval b X.env),(false,eval d X.env)]:=by rfl) (hs2:starEach [b,d] X.env = [(false,eval b X.env),(false,eval d X.env)]:=by rfl) :
    PI X tg (.Call (.Name "range" p) [a,b,d] [] pos) (Qe7 ta):=by
  intro pins s σ H R I h
  refine Call_ (Xh I hg hm boot_range (PyProof.Rows.callWith_type1 (thn (ha pos pins s σ H _ I h) fun us s1 ⟨vs,H1,I1,r1,q1⟩=>?_) (by rw [hs,hs2]) (by rw [hs2];rfl)))
  obtain ⟨hi,c,⟨e,q1,q2,q3,q4⟩,q⟩:=q1
  subst e
  cases r1 with
  | cons r rr =>
    cases rr with
    | cons r' rr =>
      cases rr with
      | cons r'' rr =>
        cases rr
        obtain ⟨t,rfl⟩:=r
        obtain ⟨t',rfl⟩:=r'
        obtain ⟨t'',rfl⟩:=r''
        exact call_range_3 (by omega) (gc I1 q1 q2 q3 q4 q) (.inl (QbT q1 q4))
end
end L2
namespace D
open PySem PySem.Spec PyProof.Rows L2
section
variable {X:Cx} {tg:Expr} {pos:Pos}
def JG (c:Int) (n:Nat):List DV:=(List.range n).map fun (i:Nat)=>.int ((i:Int) * c)
theorem gW {K:PySem.W.Frag} {ρ:List Addr} {B:Addr -> Prop} {H:Hp} {c:Int} {n:Nat}:vK K ρ B H (JG c n) (Qcw 0 c n):=fun ρ1 B1 H1 g _ _=>by
  refine ⟨fun i d e=>?_,by show n <= _;simp [JG]⟩
  have hi:i < n:=by have:=(List.getElem?_eq_some_iff.mp e).1;simpa [JG] using this
  refine ⟨hi,fun y H' ⟨e',q⟩=>?_⟩
  subst e' q
  have:d = .int ((i:Int) * c):=by simp [JG,hi] at e;exact e.symm
  subst this
  rw [Int.zero_add]
  exact ⟨ZG,.inl rfl⟩
def ok3 (a hi c:Int):Bool:=decide (a = 0 /\ 1 <= c /\ 0 <= hi /\ hi < 2 ^ 40 /\ c < 1073741824)
def QdJ:List DV -> M (List DV)
  | [.int a,.int hi,.int c]=>do QA (ok3 a hi c);pure (JG c (rcnt hi c))
  | _=>failure
def QbS (f:DAx):DIx:=fun env=>do QdJ (<- f env)
theorem gn {ds out:List DV} {hp hp':Hs} (h:QdJ ds hp = some (out,hp')):∃ hi c:Int,ds = [.int 0,.int hi,.int c] /\ (1 <= c /\ 0 <= hi /\ hi < 2 ^ 40 /\ c < 1073741824) /\ out = JG c (rcnt hi c) /\ hp = hp':=by
  unfold QdJ at h
  split at h
  . obtain ⟨u,hp1,e1,e2⟩:=Qe h
    obtain ⟨h1,rfl⟩:=QB e1
    obtain ⟨rfl,rfl⟩:=Qg e2
    obtain ⟨rfl,h2⟩:=of_decide_eq_true h1
    exact ⟨_,_,rfl,h2,rfl,rfl⟩
  . cases h
theorem RepL.ints3 {K:PySem.W.Frag} {ρ:List Addr} {B:Addr -> Prop} {H:Hp} {i j k:Int} {vs:List V} (h:RepL K ρ B H [.int i,.int j,.int k] vs):vs = [.int i,.int j,.int k]:=by
  unfold RepL at h
  obtain ⟨x,r,rfl,h1,h2⟩:=h
  rw [h1.intI,h2.ints2]
theorem gj {x y z:Expr} {p:Pos} {f:DAx} (hg:Gl X "range") (hm:X.mg "range" = none) (ha:DA X [x,y,z] f) (hs:starEach [x,y,z] X.env = [(false,eval x X.env),(false,eval y X.env),(false,eval z X.env)]:=by rfl) (hs2:starEach [y,z] X.env = [(false,eval y X.env),(false,eval z X.env)]:=by rfl) :
    DI X tg (.Call (.Name "range" p) [x,y,z] [] pos) (QbS f) :=
  (kj hg hm ha hs hs2).imp fun σ H R ⟨Z,env,ρ,B,hp,ds,hp',S,e,k⟩=>by
    obtain ⟨d,hp1,e1,e2⟩:=Qe e
    obtain ⟨hi,c,rfl,⟨h1,h2,h3,h4⟩,rfl,rfl⟩:=gn e2
    refine tDA.run S e1 fun vs ρ1 B1 H1 g1 S1 r1=>?_
    exact ⟨hi,c,⟨r1.ints3,h1,h2,h3,h4⟩,k _ ρ1 B1 H1 g1 S1.wo gW⟩
end
end D
namespace PySem
section
variable {prog:Program} {w:World} {A:Around} {E:Value -> Shared -> Prop} {s:Shared}
theorem zm {Q:List Value -> Shared -> Prop} {r:Addr} {a b c:Int} {t u v:Tok} {n:Nat} (hh:A.handled = none) (hr:IsRange s.heap r a b c t u v) (hsmall:Builtin.Range.small a b c = true) (hn:Builtin.Range.rangeSize a b c = n) (hlen:n <= 2 ^ 24)
    (hQ:∀ (h':Heap) (tk:Nat) (acc:Array Value),(∀ b o',s.heap.get? b = some o' -> h'.get? b = some o') -> ItemsOf (fun i v=>∃ t,v = .int (a + i * c) t) acc n -> Q acc.toList { s with heap:=h',toks:=tk }) :
    wpAny (model prog w) A (collect (.ref r)) Q E s:=by
  unfold collect
  refine wpAny_bind (wpAny_runValue (codeAny_builtin F.entry_proto_collect ?_))
  rw [Around.under_plainId F.plain_proto_collect _]
  show wpAny _ A.in1 (newList [] >>= fun l=>again (.builtin "list.__iadd__" ⟨[l,.ref r],[]⟩)) _ _ s
  refine wpAny_bind (wpAny_newObj_type ?_)
  refine wpAny_pure ⟨plainId_quiet F.plain_list_iadd _,codeAny_builtin F.entry_list_iadd ?_⟩
  rw [Around.under_plainId F.plain_list_iadd _]
  show wpAny _ A.in1 (Builtin.List.listExtendWith (.ref s.heap.objs.size) (.ref r) (.ref s.heap.objs.size)) _ _ _
  have hS:(s.heap.push { cls:=.type "list", data:=.seq ([]:List Value).toArray }).get? s.heap.objs.size = some { cls:=.type "list", data:=.seq #[] 0 }:=Heap.get?_push_size _ rfl
  let G:Shared -> Prop:=fun s'=>∃ h' tk acc' c',(∀ b o,b ≠ s.heap.objs.size -> (s.heap.push { cls:=.type "list", data:=.seq ([]:List Value).toArray }).get? b = some o -> h'.get? b = some o) /\ h'.get? s.heap.objs.size = some { cls:=.type "list", dict:=none,data:=.seq acc' c',slots:=#[] } /\ ItemsOf (fun i v=>∃ t,v = .int (a + i * c) t) acc' n /\ s' = { s with heap:=h',toks:=tk }
  have fin':∀ s',G s' -> wpAny (model prog w) A (match Value.ref s.heap.objs.size with
      | Value.ref a=>do
        match (<- load a).data with
          | Data.seq xs _=>pure xs.toList
          | _=>unsupported "internal:collect"
      | _=>unsupported "internal:collect") Q E s':=by
    rintro s' ⟨h',tk,acc',c',k1,k2,k3,rfl⟩
    show wpAny _ A (load s.heap.objs.size >>= _) _ _ _
    refine wpAny_bind (wpAny_load k2 ?_)
    refine wpAny_pure ?_
    exact hQ h' tk acc' (fun b o' hb=>k1 b o' (Nat.ne_of_lt (Heap.lt_size hb)) (Heap.get?_push_of_some _ hb)) k3
  refine wpAny_mono (wpAny_extend_range (A:=A) (R:=fun r s'=>r = .ok (.ret (.ref s.heap.objs.size)) /\ G s')
    (s:={ s with heap:=s.heap.push { cls:=.type "list", data:=.seq ([]:List Value).toArray } }) hh (Heap.get?_push_of_some _ hr) hsmall hn hlen _ _ 0 hS fun h' tk acc' c' k1 k2 k3=>⟨rfl,h',tk,acc',c',k1,k2,k3,rfl⟩) (fun fin s' h=>?_) (fun e s' h=>?_)
  . cases fin with
    | done f =>
      obtain ⟨e,g⟩:=h
      cases e
      exact fin' _ g
    | again c'=>exact ⟨h.1,codeAny_mono h.2 fun r s'' hr=>by obtain ⟨rfl,g⟩:=hr;exact fin' _ g⟩
  . exact absurd h.1 (by simp)
theorem qU {Q₁:Value -> Shared -> Prop} {r:Addr} {a b c:Int} {t u v:Tok} {n:Nat} (hh:A.handled = none) (hr:IsRange s.heap r a b c t u v) (hsmall:Builtin.Range.small a b c = true) (hn:Builtin.Range.rangeSize a b c = n) (hlen:n <= 2 ^ 20)
    (h:∀ (h':Heap) (tk:Nat) (acc:Array Value),(∀ b o',s.heap.get? b = some o' -> h'.get? b = some o') -> ItemsOf (fun i v=>∃ t,v = .int (a + i * c) t) acc n -> Q₁ (.ref h'.objs.size) { s with heap:=h'.push { cls:=.type "tuple", data:=.seq acc },toks:=tk }) :
    codeAny (model prog w) A (.call (.builtin "tuple.__new__") ⟨[.type "tuple", .ref r],[]⟩) (wants Q₁ E) s:=by
  refine codeAny_of_tree ?_
  show wpAny _ A.in1 (do checkBuiltinCall "tuple.__new__" ⟨[.type "tuple", .ref r],[]⟩;again (.builtin "tuple.__new__" ⟨[.type "tuple", .ref r],[]⟩)) _ _ s
  refine wpAny_bind (wpAny_of_eq (F.newCall_tuple_1 _) (wpAny_pure ⟨plainId_quiet F.plain_tuple_new _,codeAny_builtin F.entry_tuple_new ?_⟩))
  rw [Around.under_plainId F.plain_tuple_new _]
  have hsub:=sub_tuple_self
  have hinit:=init_tuple_lookup
  have hmh:=madeHere_tuple
  have hTI:s.TypeIs (.ref r) "range" := ⟨_,hr,rfl⟩
  wp_walk using wpAny_typeOf hTI,zm (A:=A.in1) hh hr hsmall hn (Nat.le_trans hlen (by decide))
  intro h' tk acc hm hacc
  show wpAny _ _ (Builtin.Tuple.tupleExact acc.toList.toArray >>= fun v=>ret v) _ _ _
  unfold Builtin.Tuple.tupleExact
  have sz:n <= sizeLine:=Nat.le_trans hlen (by decide)
  refine wpAny_bind (wpAny_newObj_type ?_ (by show acc.toList.toArray.size <= sizeLine;simp only [Array.toArray_toList];rw [hacc.1];exact sz))
  refine wpAny_pure ?_
  have e:acc.toList.toArray = acc:=by simp
  rw [e]
  exact h h' tk acc hm hacc
theorem jZ {Q:Value -> Shared -> Prop} {r:Addr} {a b c:Int} {t u v:Tok} {n:Nat} (hh:A.handled = none) (hr:IsRange s.heap r a b c t u v) (hsmall:Builtin.Range.small a b c = true) (hn:Builtin.Range.rangeSize a b c = n) (hlen:n <= 2 ^ 20)
    (hQ:∀ (h':Heap) (tk:Nat) (acc:Array Value),(∀ b o',s.heap.get? b = some o' -> h'.get? b = some o') -> ItemsOf (fun i v=>∃ t,v = .int (a + i * c) t) acc n -> Q (.ref h'.objs.size) { s with heap:=h'.push { cls:=.type "tuple", data:=.seq acc },toks:=tk }) :
    wpAny (model prog w) A (call (.type "tuple") [.ref r]) Q E s:=by
  refine callType_codes (Q₁:=fun obj s₁=>s₁.TypeIs obj "tuple" /\ Q obj s₁) F.called_tuple (F.typeCall_tuple_1 _) F.entry_object_init
    (qU (A:=A.in1) hh hr hsmall hn hlen fun h' tk acc hm hacc=>⟨⟨_,Heap.get?_push_size _ rfl,rfl⟩,hQ h' tk acc hm hacc⟩) fun obj s₁ h₁=>?_
  exact ⟨h₁.1,F.args_object_init_2 obj _,object_init_meets F.called_tuple.init.lookup F.called_tuple.made (by decide) prog w A.in1 _ s₁ ⟨h₁.1,rfl,h₁.2⟩⟩
end
end PySem
namespace L2
open PySem PySem.Spec PyProof.Rows
section
variable {X:Cx}
theorem ua:∀ {ns:List Int} {us:List Value},us.length = ns.length -> (∀ (j:Nat) (u:Value) (n:Int),us[j]? = some u -> ns[j]? = some n -> ∃ t,u = .int n t) -> Vals (ns.map V.int) us
  | [],[],_,_=>.nil
  | [],_ :: _,h,_=>by cases h
  | _ :: _,[],h,_=>by cases h
  | n :: ns,u :: us,h,f=>.cons (f 0 u n rfl rfl) (ua (Nat.succ.inj h) fun j v m a b=>f (j + 1) v m a b)
def xG (a c:Int) (n:Nat):List Int:=(List.range n).map fun (i:Nat)=>a + (i:Int) * c
theorem yR {a c:Int} {n:Nat} {acc:Array Value} (h:ItemsOf (fun i v=>∃ t,v = .int (a + i * c) t) acc n):Vals ((xG a c n).map V.int) acc.toList:=by
  refine ua (by simp [xG,h.1]) fun j u m h1 h2=>?_
  obtain ⟨t,e⟩:=h.2 j u (by simpa using h1)
  have hj:j < n:=by have:=(List.getElem?_eq_some_iff.mp h2).1;simpa [xG] using this
  have:m = a + (j:Int) * c:=by simp [xG,hj] at h2;exact h2.symm
  subst this
  exact ⟨t,e⟩
theorem Qcr {a b:Expr} {ta:TA} {p p' pos pos':Pos} (hgt:Gl X "tuple") (hmt:X.mg "tuple" = none) (hg:Gl X "range") (hm:X.mg "range" = none) (hc:X.calm = true) (ha:PA X [a,b] ta)
    (hs:starEach [a,b] X.env = [(false,eval a X.env),(false,eval b X.env)]:=by rfl) (hs2:starEach [b] X.env = [(false,eval b X.env)]:=by rfl) (hs3:starEach [.Call (.Name "range" p') [a,b] [] pos'] X.env = [(false,eval (.Call (.Name "range" p') [a,b] [] pos') X.env)]:=by rfl) :
    PE X (.Call (.Name "tuple" p) [.Call (.Name "range" p') [a,b] [] pos'] [] pos) (fun σ H Q=>ta σ H fun vs H1=>∃ i j:Int,vs = [.int i,.int j] /\ (-(2 ^ 62) <= i /\ i < 2 ^ 62 /\ -(2 ^ 62) <= j /\ j < 2 ^ 62) /\ (j - i).toNat <= 2 ^ 20 /\ ∀ l,H1 l = none -> Q (.ref l) (upd H1 l (.tup ((xG i 1 (j - i).toNat).map .int)))):=by
  intro pins s σ H Q I h
  refine wpAny_Call_Name_kw (Xh I hgt hmt boot_tuple ?_)
  refine PyProof.Rows.callWith_type1 ?_ hs3 rfl
  rw [hs3]
  show wpAny _ _ (spliced ((false,eval (.Call (.Name "range" p') [a,b] [] pos') X.env) :: [])) _ _ s
  refine Calls.spliced_cons (Call_ (Xh I hg hm boot_range (PyProof.Rows.callWith_type1 (thn (ha pos' pins s σ H _ I h) fun us s1 ⟨vs,H1,I1,r1,q1⟩=>?_) (by rw [hs,hs2]) (by rw [hs2];rfl))))
  obtain ⟨i,j,e,⟨q1,q2,q3,q4⟩,q5,q⟩:=q1
  subst e
  cases r1 with
  | cons r rr =>
    cases rr with
    | cons r' rr =>
      cases rr
      obtain ⟨t,rfl⟩:=r
      obtain ⟨t',rfl⟩:=r'
      refine call_range_2 (Calls.spliced_nil ?_)
      refine jZ (n:=(j - i).toNat) (I1.ok.hd hc) (IsRange.new ..) (small_one q1 q2 q3 q4) (by rw [rangeSize_one];split <;> omega) q5 fun h' tk acc k it=>?_
      have I2:Inv X pins σ H1 { s1 with heap:=h',toks:=tk }:=I1.kept fun b o e=>k b o (Heap.get?_push_of_some _ e)
      have hf:H1 h'.objs.size = none:=I2.hok.fresh (Nat.le_refl _)
      refine ⟨.ref h'.objs.size,upd H1 h'.objs.size (.tup ((xG i 1 (j - i).toNat).map .int)),I2.laid (t':=tk) (fun b u e=>Heap.get?_push_of_some _ e) (Nat.le_refl _) ?_,rfl,q _ hf⟩
      exact ⟨by rw [List.length_map];simp only [xG,List.length_map,List.length_range];exact Nat.le_trans q5 (by decide),acc.toList,yR it,⟨_,Heap.get?_push_size _ rfl,rfl,_,rfl⟩⟩
end
end L2
namespace D
open PySem PySem.Spec PyProof.Rows L2
open AutoListH (joined_fits)
theorem gt (l:Addr) (items:Array Value) (n:Nat) (sl:Array (Option Value)) (x:Int) (u:Tok) (hc0:¬(!Builtin.List.listFitsIndex x) = true) (hc1:¬items.size * x.toNat > (2 ^ 63 - 1) / 8) (hc2:¬Builtin.List.listTooLong (items.size * x.toNat) = true) :
    Meets (Builtin.«list.__mul__» ⟨[.ref l,.int x u],[]⟩) (fun _ R s=>s.heap.get? l = some { cls:=.type "list", dict:=none,data:=.seq items n,slots:=sl } /\ R (.ok (.ret (Value.ref s.heap.objs.size))) { s with heap:=s.heap.push { cls:=Value.type "list", data:=Data.seq (List.foldl (fun x1 x2=>x1 ++ x2) #[] (List.replicate (if items.isEmpty = true then 0 else x.toNat) items)) },toks:=s.toks }) :=
  .of_wp fun prog w A R s h=>by
    obtain ⟨hp,g,d,tk,os⟩:=s;obtain ⟨hl,h⟩:=h
    have hsz:=joined_fits hc2
    wp_walk;refine wpAny_ite_false (decide_eq_false (Nat.not_lt.mpr hsz)) ?_;wp_walk;exact ⟨_,rfl,h⟩
theorem kn (a:Int) (t:Tok) (l:Addr) (items:Array Value) (n:Nat) (sl:Array (Option Value)) :
    Meets (Builtin.«int.__rmul__» ⟨[.int a t,.ref l],[]⟩) (fun _ R s=>s.heap.get? l = some { cls:=.type "list", dict:=none,data:=.seq items n,slots:=sl } /\ R (.ok (.ret Value.notImplemented)) s) :=
  .of_wp fun prog w A R s h=>by obtain ⟨hp,g,d,tk,os⟩:=s;obtain ⟨hl,h⟩:=h;wp_walk;exact ⟨_,rfl,h⟩
theorem KH (v:Value):∀ (n:Nat) (a:Array Value),(List.replicate n #[v]).foldl (fun x1 x2=>x1 ++ x2) a = a ++ (List.replicate n v).toArray
  | 0,a=>by simp
  | n + 1,a=>by
    rw [List.replicate_succ,List.foldl_cons,KH v n,List.replicate_succ]
    apply Array.ext'
    simp
section
variable {X:Cx} {tg e a b c:Expr} {f fa fb:DEx} {pos:Pos}
theorem QcB:OpR X (binaryOp .Mult) (fun x y H Q=>∃ l z n,x = .ref l /\ y = .int n /\ SqL X.K H l [z] /\ 0 <= n /\ n.toNat <= 100000 /\ ∀ p,H p = none -> Q (.ref p) (upd H p (.lst (List.replicate n.toNat z)))):=by
  intro pins s σ H x y v u Q I rx ry h
  obtain ⟨l,z,n,rfl,rfl,hl,h0,h1,q⟩:=h
  cases rx
  obtain ⟨t,rfl⟩:=ry
  obtain ⟨its,r1,⟨⟨k1,dd1,da1,sl1⟩,n1,e1,c1,d1,s1⟩,_⟩:=I.list hl
  simp only at c1 d1 s1
  subst c1 d1 s1
  cases r1 with
  | cons r rr =>
    cases rr
    rename_i w
    have hz:(([w]:List Value).toArray.size) * n.toNat = n.toNat:=by simp
    refine wpAny_binaryOp_repeat_ref (T := "list") (U := "int") (by decide) ⟨_,e1,rfl⟩ (fun s'=>typeIs_int s' n t) noFill_list_mul F.fills_int_mul F.slot_int_rmul repeat_list F.slot_int_index.lookup
      (call_meets F.slot_int_rmul (typeIs_int s n t) F.entry_int_rmul (F.args_int_rmul_2 _ _) (kn n t l _ n1 sl1)
        ⟨e1,rfl,⟨_,e1,rfl⟩,call_meets F.slot_list_mul ⟨_,e1,rfl⟩ F.entry_list_mul (F.args_list_mul_2 _ _)
          (gt l _ n1 sl1 n t (by simp [Builtin.List.listFitsIndex];omega) (by rw [hz];omega) (by rw [hz];simp [Builtin.List.listTooLong,sizeLine];omega))
          ⟨e1,?_⟩⟩)
    have ef:List.foldl (fun x1 x2=>x1 ++ x2) #[] (List.replicate (if ([w]:List Value).toArray.isEmpty = true then 0 else n.toNat) [w].toArray) = (List.replicate n.toNat w).toArray:=by
      rw [if_neg (by simp)]
      have:=KH w n.toNat #[]
      simpa using this
    rw [ef]
    have vr:Vals (List.replicate n.toNat z) (List.replicate n.toNat w):=by
      generalize n.toNat = m
      induction m with
      | zero=>exact .nil
      | succ m ih=>exact .cons r ih
    exact ⟨.ref _,_,I.lnew (t':=s.toks) vr (by rw [List.length_replicate];exact Nat.le_trans h1 (by decide)),rfl,q _ I.fresh⟩
def QcC:DV -> DV -> M DV
  | .lst [d],.int n=>do QA (decide (0 <= n /\ n.toNat <= 100000));pure (.lst (List.replicate n.toNat d))
  | x,y=>JT x y
theorem K3 {K:PySem.W.Frag} {ρ:List Addr} {B:Addr -> Prop} {H:Hp} {d:DV} {z:V} (r:RepV K ρ B H d z):∀ n:Nat,RepL K ρ B H (List.replicate n d) (List.replicate n z)
  | 0=>RepL.nil
  | n + 1=>by unfold List.replicate RepL;exact ⟨z,_,rfl,r,K3 r n⟩
theorem QdA:P2 X (binaryOp .Mult) QcC:=by
  intro pins s σ H x y v u Q I rx ry h
  obtain ⟨ρ,B,hp,dx,dy,d,hp',W,r1,r2,e,k⟩:=h
  unfold QcC at e
  split at e
  . rename_i d0 n
    obtain ⟨_,hp1,e1,e2⟩:=Qe e
    obtain ⟨hs,rfl⟩:=QB e1
    obtain ⟨rfl,rfl⟩:=Qg e2
    obtain ⟨h0,h1⟩:=of_decide_eq_true hs
    obtain ⟨l,vs,rfl,nb,sq,rl⟩:=r1.lstI
    obtain ⟨z,rfl,rz⟩:=rl.oneI
    exact QcB pins s σ H _ _ v u Q I rx ry ⟨l,z,n,rfl,r2.intI,sq,h0,h1,Xx W (K3 rz _) k⟩
  . exact Xt pins s σ H x y v u Q I rx ry ⟨ρ,B,hp,_,_,d,hp',W,r1,r2,e,k⟩
def K4 (f:DAx):DEx:=fun env=>do let xs <- f env;let ds <- vk xs;QA (Xs ds);pure (.tup ds)
theorem jK {K:PySem.W.Frag} {ρ:List Addr} {B:Addr -> Prop} {H:Hp}:∀ ns:List Int,RepL K ρ B H (ns.map .int) (ns.map .int)
  | []=>RepL.nil
  | n :: ns=>by rw [List.map_cons,List.map_cons];unfold RepL;exact ⟨_,_,rfl,ZG,jK ns⟩
theorem yx (i:Int) (n:Nat):QN i n = (xG i 1 n).map .int:=by simp [QN,xG]
theorem Qcf {f:DAx} {p p' pos':Pos} (hmt:X.mg "tuple" = none) (hm:X.mg "range" = none) (hc:X.calm = true) (ha:DA X [a,b] f) (hgt:Gl X "tuple" := by rfl) (hg:Gl X "range" := by rfl)
    (hs:starEach [a,b] X.env = [(false,eval a X.env),(false,eval b X.env)]:=by rfl) (hs2:starEach [b] X.env = [(false,eval b X.env)]:=by rfl) (hs3:starEach [.Call (.Name "range" p') [a,b] [] pos'] X.env = [(false,eval (.Call (.Name "range" p') [a,b] [] pos') X.env)]:=by rfl) :
    DE X (.Call (.Name "tuple" p) [.Call (.Name "range" p') [a,b] [] pos'] [] pos) (K4 f) :=
  (Qcr hgt hmt hg hm hc ha hs hs2 hs3).imp fun σ H Q ⟨Z,env,ρ,B,hp,d,hp',S,e,k⟩=>by
    obtain ⟨xs,hp1,e1,e2⟩:=Qe e
    obtain ⟨ds,hp2,e3,e4⟩:=Qe e2
    obtain ⟨i,j,rfl,h1,h2,rfl,rfl⟩:=VQ e3
    obtain ⟨_,hp3,e5,e6⟩:=Qe e4
    obtain ⟨hs,rfl⟩:=QB e5
    obtain ⟨rfl,rfl⟩:=Qg e6
    refine tDA.run S e1 fun vs ρ1 B1 H1 g1 S1 r1=>?_
    have h1':=of_decide_eq_true h1
    have h2':=of_decide_eq_true h2
    have hl:(j - i).toNat <= 100000:=by have:=of_decide_eq_true hs;rw [Jo] at this;exact this
    refine ⟨i,j,r1.ints2,⟨h1'.1,h1'.2,h2'.1,h2'.2⟩,Nat.le_trans hl (by decide),zc S1.wo (jK _) ?_⟩
    rw [<- yx]
    exact k.after g1
end
end D
namespace D
open PySem PySem.Spec PyProof.Rows L2
section
variable {X:Cx} {tg e a b c:Expr} {f fa fb:DEx} {pos:Pos}
def tru:DV -> M Bool
  | .lst ds=>pure (!ds.isEmpty)
  | .tup ds=>pure (!ds.isEmpty)
  | .ref n=>do
    match <- Zi n with
    | .lst ds=>pure (!ds.isEmpty)
    | _=>failure
  | _=>failure
theorem xS {α β:Type} {xs:List α} {ys:List β} (h:xs.length = ys.length):xs.isEmpty = ys.isEmpty:=by
  cases xs <;> cases ys <;> first | rfl | cases h
theorem QcZ {K:PySem.W.Frag} {ρ:List Addr} {B:Addr -> Prop} {H:Hp} {hp hp':Hs} {d:DV} {v:V} {k:Bool} (W:WOk K ρ B hp H) (r:RepV K ρ B H d v) (h:tru d hp = some (k,hp')):hp = hp' /\ QdW K v H k:=by
  cases d with
  | lst ds =>
    obtain ⟨rfl,rfl⟩:=Qg h
    obtain ⟨a,xs,rfl,nb,sq,rl⟩:=r.lstI
    exact ⟨rfl,.inl ⟨xs,sq,by rw [xS rl.length]⟩⟩
  | tup ds =>
    obtain ⟨rfl,rfl⟩:=Qg h
    obtain ⟨a,xs,rfl,nb,sq,rl⟩:=r.tupI
    exact ⟨rfl,.inr (.inl ⟨xs,sq,by rw [xS rl.length]⟩)⟩
  | ref n =>
    obtain ⟨o,hp1,e1,e2⟩:=Qe h
    obtain ⟨e3,rfl⟩:=Zo e1
    cases o with
    | lst zs =>
      obtain ⟨rfl,rfl⟩:=Qg e2
      obtain ⟨a,rfl,_,ys,h1,l1⟩:=RepV.refW W r e3
      exact ⟨rfl,.inl ⟨ys,SqL.of h1,by rw [xS l1.length]⟩⟩
    | dic _=>cases e2
    | ins _ _=>cases e2
  | non=>cases h
  | bl _=>cases h
  | int _=>cases h
  | str _=>cases h
def qw (f:DEx):DTx:=fun env=>do tru (<- f env)
theorem GU (h:DE X e f) (he:∀ whole,isTrue e X.env whole = (do let v <- whole;standAt e.pos;holding [v] (truthy v)):=by intro _;rfl):DT X e (qw f) :=
  (kG h he).imp fun σ H Q ⟨Z,env,ρ,B,hp,d,hp',S,e,k⟩=>by
    obtain ⟨x,hp1,e1,e2⟩:=Qe e
    refine tD.run S e1 fun v ρ1 B1 H1 g1 S1 r1=>?_
    obtain ⟨rfl,t⟩:=QcZ S1.wo r1 e2
    exact ⟨d,t,k ρ1 B1 H1 g1 S1.wo⟩
def slG (d:DV) (lo hi:Option Int):M DV:=match d with
  | .ref n=>do
    match <- Zi n with
    | .lst ds=>pure (.lst (zY ds lo hi))
    | _=>failure
  | d=>slD d lo hi
def Kx (f:DEx) (lo hi:DOx):DEx:=fun env=>do let d <- f env;let l <- lo env;let h <- hi env;slG d l h
def QfJ (K:PySem.W.Frag):V -> Option Int -> Option Int -> Hp -> VK -> Prop:=fun x lo hi H Q=>∃ ρ B hp d r hp',WOk K ρ B hp H /\ RepV K ρ B H d x /\ slG d lo hi hp = some (r,hp') /\ Fol K ρ B H r hp' Q
theorem QeP:SlR X (QfJ X.K):=by
  intro pins s σ H x v vl vu lo hi sl Q I rx hs pl pu h
  obtain ⟨ρ,B,hp,d,r,hp',W,rv,e,k⟩:=h
  cases d with
  | ref n =>
    obtain ⟨o,hp1,e1,e2⟩:=Qe e
    obtain ⟨e3,rfl⟩:=Zo e1
    cases o with
    | lst ds =>
      obtain ⟨rfl,rfl⟩:=Qg e2
      obtain ⟨a,rfl,_,xs,h1,l1⟩:=RepV.refW W rv e3
      exact ux pins s σ H _ v vl vu lo hi sl Q I rx hs pl pu ⟨a,xs,rfl,SqL.of h1,Xx W (yC l1) k⟩
    | dic _=>cases e2
    | ins _ _=>cases e2
  | lst ds=>exact Qdv pins s σ H x v vl vu lo hi sl Q I rx hs pl pu ⟨ρ,B,hp,_,r,hp',W,rv,e,k⟩
  | tup ds=>exact Qdv pins s σ H x v vl vu lo hi sl Q I rx hs pl pu ⟨ρ,B,hp,_,r,hp',W,rv,e,k⟩
  | non=>cases e
  | bl _=>cases e
  | int _=>cases e
  | str _=>cases e
theorem QbA {lo hi:Option Expr} {ol oh:DOx} {p2:Pos} (h:DE X e f) (hl:DO X lo ol) (hh:DO X hi oh):DE X (.Subscript e (.Slice lo hi none p2) pos) (Kx f ol oh) :=
  L2.PE.imp (KF QeP h hl hh) fun σ H Q ⟨Z,env,ρ,B,hp,d,hp',S,e,k⟩=>by
    obtain ⟨x,hp1,e1,e⟩:=Qe e
    obtain ⟨l,hp2,e2,e⟩:=Qe e
    obtain ⟨u,hp3,e3,e⟩:=Qe e
    refine tD.run S e1 fun v ρ1 B1 H1 g1 S1 r1=>tDO.run S1 e2 fun ρ2 B2 H2 g2 S2=>tDO.run S2 e3 fun ρ3 B3 H3 g3 S3=>?_
    exact ⟨ρ3,B3,hp3,x,d,hp',S3.wo,RepV.grow S1.wo.rb (g2.trans g3) _ _ r1,e,k.after (g1.trans (g2.trans g3))⟩
end
end D
namespace TP
def qn (n m:Nat):Nat:=(max 1 n + m - 1) / m
theorem Zf {n m:Nat} (hm:1 <= m):1 <= qn n m /\ max 1 n <= qn n m * m /\ (qn n m - 1) * m < max 1 n:=by
  unfold qn
  have a:=Nat.div_add_mod (max 1 n + m - 1) m
  have b:=Nat.mod_lt (max 1 n + m - 1) (show 0 < m by omega)
  have e:m * ((max 1 n + m - 1) / m) = (max 1 n + m - 1) / m * m:=Nat.mul_comm _ _
  have h1:1 <= (max 1 n + m - 1) / m:=by
    rw [Nat.le_div_iff_mul_le (by omega)];omega
  refine ⟨h1,by omega,?_⟩
  have:((max 1 n + m - 1) / m - 1) * m = (max 1 n + m - 1) / m * m - m:=by rw [Nat.sub_mul,Nat.one_mul]
  omega
def sx (n m:Nat) (fork:Bool) (k:Nat):Nat:=if k = qn n m then n else if fork = true /\ 1 < qn n m /\ n = (qn n m - 1) * m + 1 /\ k + 1 = qn n m then k * m - 1 else k * m
theorem Ux (n m:Nat) (fork:Bool):sx n m fork (qn n m) = n:=by unfold sx;rw [if_pos rfl]
theorem jw {n m:Nat} (hm:1 <= m) (fork:Bool):sx n m fork 0 = 0:=by
  have:=(Zf (n:=n) hm).1
  unfold sx
  rw [if_neg (by omega)]
  split
  . omega
  . omega
theorem uL {n m k:Nat} (h:k < qn n m):sx n m false k = k * m:=by
  unfold sx;rw [if_neg (by omega),if_neg (by simp)]
abbrev Rw:=List (Int × Int)
def QI (rows:Rw) (m:Nat) (fork:Bool) (k:Nat):Rw:=(rows.drop (sx rows.length m fork k)).take (sx rows.length m fork (k + 1) - sx rows.length m fork k)
theorem Gz {rows:Rw} {m k:Nat} (hm:1 <= m) (h:k < qn rows.length m):QI rows m false k = (rows.drop (k * m)).take m:=by
  obtain ⟨h1,h2,h3⟩:=Zf (n:=rows.length) hm
  unfold QI
  rw [uL h]
  by_cases e:k + 1 = qn rows.length m
  . rw [e,Ux]
    have hk:k * m = (qn rows.length m - 1) * m:=by rw [<- e];simp
    have h4:qn rows.length m * m = k * m + m:=by rw [<- e,Nat.add_mul,Nat.one_mul]
    rw [List.take_of_length_le (by rw [List.length_drop];exact Nat.le_refl _),List.take_of_length_le (by rw [List.length_drop];omega)]
  . rw [uL (by omega),Nat.add_mul,Nat.one_mul]
    congr 1;omega
theorem QaQ {n m:Nat} (hm:1 <= m) {fork:Bool} (hf:fork = true -> 3 <= m) (hn:1 <= n) {k:Nat} (h:k < qn n m):sx n m fork k < sx n m fork (k + 1):=by
  obtain ⟨h1,h2,h3⟩:=Zf (n:=n) hm
  have e1:(k + 1) * m = k * m + m:=by rw [Nat.add_mul,Nat.one_mul]
  unfold sx
  rw [if_neg (by omega:¬ k = qn n m)]
  by_cases e:k + 1 = qn n m
  . rw [if_pos e]
    have hk:k * m = (qn n m - 1) * m:=by rw [<- e];simp
    split <;> omega
  . rw [if_neg e,if_neg (by omega)]
    by_cases c:fork = true /\ 1 < qn n m /\ n = (qn n m - 1) * m + 1 /\ k + 1 + 1 = qn n m
    . rw [if_pos c]
      have:=hf c.1
      omega
    . rw [if_neg c];omega
theorem kJ {n m:Nat} (hm:1 <= m) (fork:Bool) {k:Nat} (h:k <= qn n m) (hn:1 <= n):sx n m fork k <= n:=by
  obtain ⟨h1,h2,h3⟩:=Zf (n:=n) hm
  unfold sx
  by_cases e:k = qn n m
  . rw [if_pos e];exact Nat.le_refl _
  . rw [if_neg e]
    have:k * m <= (qn n m - 1) * m:=Nat.mul_le_mul_right _ (by omega)
    split <;> omega
theorem XL {rows:Rw} {m:Nat} (hm:1 <= m) {fork:Bool} (hf:fork = true -> 3 <= m) (hn:1 <= rows.length) {k:Nat} (h:k < qn rows.length m):(QI rows m fork k).length = sx rows.length m fork (k + 1) - sx rows.length m fork k /\ 1 <= (QI rows m fork k).length:=by
  have a:=QaQ hm hf hn h
  have b:=kJ (n:=rows.length) hm fork (k:=k + 1) (by omega) hn
  unfold QI
  rw [List.length_take,List.length_drop]
  omega
def Qa6 (n m:Nat):List Nat:=if n % m = 1 then List.replicate (n / m - 1) m ++ [m - 1,2] else if 0 < n % m then List.replicate (n / m) m ++ [n % m] else List.replicate (n / m) m
theorem Va (q m:Nat) (f:Nat -> Nat) (h:∀ k,k < q -> f k = m):(List.range q).map f = List.replicate q m:=by
  rw [List.eq_replicate_iff]
  refine ⟨by simp,fun b hb=>?_⟩
  obtain ⟨k,hk,rfl⟩:=List.mem_map.mp hb
  exact h k (List.mem_range.mp hk)
theorem Qb1 {n m:Nat} (hm:3 <= m) (hn:2 <= n):Qa6 n m = (List.range (qn n m)).map fun k=>sx n m true (k + 1) - sx n m true k:=by
  obtain ⟨h1,h2,h3⟩:=Zf (n:=n) (show 1 <= m by omega)
  have mx:max 1 n = n:=by omega
  rw [mx] at h2 h3
  have dm:=Nat.div_add_mod n m
  have lt:=Nat.mod_lt n (show 0 < m by omega)
  have cm:m * (n / m) = n / m * m:=Nat.mul_comm _ _
  have mulk:∀ k:Nat,(k + 1) * m = k * m + m:=fun k=>by rw [Nat.add_mul,Nat.one_mul]
  have qv:qn n m = if n % m = 0 then n / m else n / m + 1:=by
    have low:∀ x:Nat,(x - 1) * m < n -> n <= x * m -> 1 <= x -> x = qn n m:=fun x a b c=>by
      rcases Nat.lt_trichotomy x (qn n m) with l | l | l
      . have:x * m <= (qn n m - 1) * m:=Nat.mul_le_mul_right _ (by omega)
        omega
      . exact l
      . have:qn n m * m <= (x - 1) * m:=Nat.mul_le_mul_right _ (by omega)
        omega
    by_cases r:n % m = 0
    . rw [if_pos r]
      have q1:1 <= n / m:=by
        rcases Nat.eq_zero_or_pos (n / m) with z | z
        . rw [z,Nat.mul_zero] at dm;omega
        . exact z
      have:=mulk (n / m - 1)
      rw [Nat.sub_add_cancel q1] at this
      exact (low _ (by omega) (by omega) q1).symm
    . rw [if_neg r]
      exact (low _ (by rw [Nat.add_sub_cancel];omega) (by rw [mulk];omega) (Nat.le_add_left 1 _)).symm
  unfold Qa6
  by_cases r1:n % m = 1
  . rw [if_pos r1]
    rw [if_neg (by omega)] at qv
    have q1:1 <= n / m:=by
      rcases Nat.eq_zero_or_pos (n / m) with z | z
      . rw [z,Nat.mul_zero] at dm;omega
      . exact z
    have e:qn n m = (n / m - 1) + 1 + 1:=by omega
    have adj:n = (qn n m - 1) * m + 1:=by rw [qv];simp;omega
    have s:∀ k,k + 1 < qn n m -> sx n m true k = k * m:=fun k h=>by unfold sx;rw [if_neg (by omega),if_neg (by omega)]
    have sl:sx n m true (n / m) = n / m * m - 1:=by
      unfold sx;rw [if_neg (by omega),if_pos ⟨rfl,by omega,adj,by omega⟩]
    have se:=Ux n m true
    rw [e,List.range_succ,List.range_succ,List.map_append,List.map_append,Va (n / m - 1) m _ (fun k hk=>by rw [s k (by omega),s (k + 1) (by omega),mulk];omega)]
    have m1:=mulk (n / m - 1)
    rw [Nat.sub_add_cancel q1] at m1
    simp only [List.map_cons,List.map_nil,List.append_assoc,List.cons_append,List.nil_append]
    congr 1
    rw [Nat.sub_add_cancel q1,s (n / m - 1) (by omega),sl,show n / m + 1 = qn n m by omega,se]
    congr 1
    . omega
    . congr 1;omega
  . rw [if_neg r1]
    have s:∀ k,k < qn n m -> sx n m true k = k * m:=fun k h=>by
      unfold sx
      rw [if_neg (by omega),if_neg ?_]
      rintro ⟨_,_,c,_⟩
      by_cases r:n % m = 0
      . rw [if_pos r] at qv
        have q1:1 <= n / m:=by omega
        have m1:=mulk (n / m - 1)
        rw [Nat.sub_add_cancel q1] at m1
        rw [qv] at c;omega
      . rw [if_neg r] at qv
        rw [qv] at c
        simp at c;omega
    have se:=Ux n m true
    by_cases r:0 < n % m
    . rw [if_pos r]
      rw [if_neg (by omega)] at qv
      rw [qv,List.range_succ,List.map_append,Va (n / m) m _ (fun k hk=>by rw [s k (by omega),s (k + 1) (by omega),mulk];omega)]
      congr 1
      simp only [List.map_cons,List.map_nil]
      rw [<- qv,se,s (n / m) (by omega)]
      congr 1;omega
    . rw [if_neg r]
      rw [if_pos (by omega)] at qv
      have q1:1 <= n / m:=by omega
      rw [qv]
      refine (Va (n / m) m _ fun k hk=>?_).symm
      rw [s k (by omega)]
      by_cases e:k + 1 = qn n m
      . rw [e,se]
        have:qn n m * m = k * m + m:=by rw [<- e,mulk]
        rw [qv] at this;omega
      . rw [s (k + 1) (by omega),mulk];omega
def X1 (rows:Rw) (m:Nat) (fork:Bool) (k:Nat):Int:=((QI rows m fork k).headD (0,0)).1
def qp (rows:Rw) (m:Nat) (fork:Bool) (first:Nat):Rw:=(List.range (qn rows.length m)).map fun k=>(X1 rows m fork k,((first + k:Nat):Int))
theorem jJ (rows:Rw) (m:Nat) (fork:Bool) (first:Nat):(qp rows m fork first).length = qn rows.length m:=by simp [qp]
theorem uB {n m:Nat} (hm:2 <= m) (hn:2 <= n):qn n m < n:=by
  obtain ⟨h1,h2,h3⟩:=Zf (n:=n) (show 1 <= m by omega)
  have mx:max 1 n = n:=by omega
  rw [mx] at h3
  have:(qn n m - 1) * 2 <= (qn n m - 1) * m:=Nat.mul_le_mul_left _ hm
  omega
end TP
namespace D
open PySem PySem.Spec PyProof.Rows L2
theorem QeX (ds:List DV) (a b:Nat) (h:a <= b):D.zY ds (some (a:Int)) (some (b:Int)) = (ds.drop a).take (b - a):=by
  unfold D.zY
  rw [HT.sIx_nat,HT.sIx_nat]
  rcases Nat.le_total a ds.length with q | q
  . rw [Nat.min_eq_left q]
    rcases Nat.le_total b ds.length with q2 | q2
    . rw [Nat.min_eq_left q2]
    . rw [Nat.min_eq_right q2,List.take_of_length_le (by simp),List.take_of_length_le (by simp;omega)]
  . rw [Nat.min_eq_right q,List.drop_of_length_le q,List.drop_of_length_le (Nat.le_refl _)]
    simp
section
variable {env:En} {hp hp1 hp2 hp3:Hs} {f g h:DEx} {ds:List DV} {d:DV}
theorem Qa4 {a b:Nat} (hf:f env hp = some (.lst ds,hp)) (hg:g env hp = some (.int (a:Int),hp)) (hh:h env hp = some (.int (b:Int),hp)) (hab:a <= b):eSl f (Zz g) (Zz h) env hp = some (.lst ((ds.drop a).take (b - a)),hp):=by
  unfold eSl Zz
  rw [Qf hf]
  have e1:(do let i <- asI (<- g env);pure (some i):M (Option Int)) hp = some (some (a:Int),hp):=by rw [Qf hg];rfl
  have e2:(do let i <- asI (<- h env);pure (some i):M (Option Int)) hp = some (some (b:Int),hp):=by rw [Qf hh];rfl
  rw [Qf e1,Qf e2,<- QeX ds a b hab];rfl
theorem QcP {a:Nat} (hf:f env hp = some (.lst ds,hp)) (hg:g env hp = some (.int (a:Int),hp)):eSl f (Zz g) Xr env hp = some (.lst (ds.drop a),hp):=by
  unfold eSl Zz Xr
  rw [Qf hf]
  have e1:(do let i <- asI (<- g env);pure (some i):M (Option Int)) hp = some (some (a:Int),hp):=by rw [Qf hg];rfl
  rw [Qf e1,Qf (rfl:(pure none:M (Option Int)) hp = some (none,hp)),<- y0 ds a];rfl
theorem gT {a b:Nat} (hf:f env hp = some (d,hp)) (hg:g env hp = some (.int (a:Int),hp)) (hh:h env hp = some (.int (b:Int),hp)) (hab:a <= b) (hd:d = .lst ds ∨ ∃ n,d = .ref n /\ hp[n]? = some (.lst ds)):Kx f (Zz g) (Zz h) env hp = some (.lst ((ds.drop a).take (b - a)),hp):=by
  unfold Kx Zz
  rw [Qf hf]
  have e1:(do let i <- asI (<- g env);pure (some i):M (Option Int)) hp = some (some (a:Int),hp):=by rw [Qf hg];rfl
  have e2:(do let i <- asI (<- h env);pure (some i):M (Option Int)) hp = some (some (b:Int),hp):=by rw [Qf hh];rfl
  rw [Qf e1,Qf e2,<- QeX ds a b hab]
  rcases hd with rfl | ⟨n,rfl,hn⟩
  . rfl
  . show (Zi n >>= _) hp = _
    rw [Qf (QY hn)];rfl
theorem QaH {a n:Nat} (hf:f env hp = some (.ref n,hp)) (hn:hp[n]? = some (.lst ds)) (hg:g env hp = some (.int (a:Int),hp)):Kx f (Zz g) Xr env hp = some (.lst (ds.drop a),hp):=by
  unfold Kx Zz Xr
  rw [Qf hf]
  have e1:(do let i <- asI (<- g env);pure (some i):M (Option Int)) hp = some (some (a:Int),hp):=by rw [Qf hg];rfl
  rw [Qf e1,Qf (rfl:(pure none:M (Option Int)) hp = some (none,hp)),<- y0 ds a]
  show (Zi n >>= _) hp = _
  rw [Qf (QY hn)];rfl
theorem J4 {i:Nat} (hf:f env hp = some (.lst ds,hp)) (hg:g env hp = some (.int (i:Int),hp)) (hd:ds[i]? = some d):Qh ixG f g env hp = some (d,hp):=by
  refine Qu hf hg ?_
  show ixD (.lst ds) (.int (i:Int)) hp = _
  rw [Qc4 (d:=d)]
  . rfl
  . rw [QdX (by omega) (by have:=(List.getElem?_eq_some_iff.mp hd).1;omega)];exact hd
theorem Q6 {i:Nat} (hf:f env hp = some (.tup ds,hp)) (hg:g env hp = some (.int (i:Int),hp)) (hd:ds[i]? = some d):Qh ixG f g env hp = some (d,hp):=Qu hf hg (QdD hd hp)
theorem Xj {i n:Nat} (hf:f env hp = some (.ref n,hp)) (hn:hp[n]? = some (.lst ds)) (hg:g env hp = some (.int (i:Int),hp)) (hd:ds[i]? = some d):Qh ixG f g env hp = some (d,hp):=Qu hf hg (Qc1 hn hd)
theorem zQ (hf:f env hp = some (.lst ds,hp)):QU Zd (Qb f Qk) env hp = some (.int ds.length,hp):=JW (Zh hf) (Qay ds hp)
theorem Xd {n:Nat} (hf:f env hp = some (.ref n,hp)) (hn:hp[n]? = some (.lst ds)):QU Zd (Qb f Qk) env hp = some (.int ds.length,hp):=JW (Zh hf) (Gq hn)
theorem xR {i j:Int} (hf:f env hp = some (.int i,hp)) (hg:g env hp = some (.int j,hp)):Qh Zb f g env hp = some (.int (i + j),hp):=Qu hf hg rfl
theorem jl {i j:Int} (hf:f env hp = some (.int i,hp)) (hg:g env hp = some (.int j,hp)):Qh XW f g env hp = some (.int (i - j),hp):=Qu hf hg rfl
theorem qe {i j:Nat} (hf:f env hp = some (.int (i:Int),hp)) (hg:g env hp = some (.int (j:Int),hp)):Qh Zb f g env hp = some (.int ((i + j:Nat):Int),hp):=by
  rw [xR hf hg];simp
theorem yO {i j:Int} (hf:f env hp = some (.int i,hp)) (hg:g env hp = some (.int j,hp)):Qh gtD f g env hp = some (.bl (decide (j < i)),hp):=Qu hf hg rfl
theorem kE {i j:Int} (hf:f env hp = some (.int i,hp)) (hg:g env hp = some (.int j,hp)):Qh ltD f g env hp = some (.bl (decide (i < j)),hp):=Qu hf hg rfl
theorem GO {i j:Int} (hf:f env hp = some (.int i,hp)) (hg:g env hp = some (.int j,hp)):Qh eqG f g env hp = some (.bl (i == j),hp):=Qu hf hg (eqI i j hp)
theorem zf {nw:Bool} {src:DXx} {idx:List Nat} {t:DTx} {e:DEx} {m:DV -> DV} (hs:src env hp = some (nxD ds,hp)) (ht:∀ x ∈ ds,t (cE idx env x) hp = some (true,hp)) (he:∀ x ∈ ds,e (cE idx env x) hp = some (m x,hp)) (hl:ds.length < 100000):Js false src idx t e env hp = some (.lst (ds.map m),hp):=by
  unfold Js
  rw [Qf hs]
  exact (Qf (ku (t:=fun d=>t (cE idx env d)) (f:=fun d=>e (cE idx env d)) ds ht he hl)).trans rfl
theorem vg {i:Nat} (hf:f env hp = some (d,hp1)) (ha:env[i]? = some (.acc ds)) (hl:ds.length < 100000):zq i f env hp = some ((.nx,env.set i (.acc (ds ++ [d]))),hp1):=by
  unfold zq
  rw [Qf hf]
  simp only [ha]
  rw [if_pos (show ds.length < lim from hl)];rfl
end
theorem vW {b:DV -> DSx} (J:Nat -> En) (hp:Hs) (ds:List DV) (hs:∀ (i:Nat) d,ds[i]? = some d -> b d (J i) hp = some ((.nx,J (i + 1)),hp)):XG b ds (J 0) hp = some ((.nx,J ds.length),hp):=by
  suffices h:∀ (m i:Nat),m + i = ds.length -> XG b (ds.drop i) (J i) hp = some ((.nx,J ds.length),hp) by simpa using h ds.length 0 rfl
  intro m
  induction m with
  | zero =>
    intro i e
    have:i = ds.length:=by omega
    subst this
    rw [List.drop_length];rfl
  | succ m ih =>
    intro i e
    have hlt:i < ds.length:=by omega
    rw [List.drop_eq_getElem_cons hlt,Uh (hs i ds[i] (List.getElem?_eq_getElem hlt))]
    exact ih (i + 1) (by omega)
theorem QaE {b:DV -> DSx} (J:Nat -> En) (W:Nat -> Hs) (ds:List DV) (hs:∀ (i:Nat) d,ds[i]? = some d -> b d (J i) (W i) = some ((.nx,J (i + 1)),W (i + 1))):XG b ds (J 0) (W 0) = some ((.nx,J ds.length),W ds.length):=by
  suffices h:∀ (m i:Nat),m + i = ds.length -> XG b (ds.drop i) (J i) (W i) = some ((.nx,J ds.length),W ds.length) by simpa using h ds.length 0 rfl
  intro m
  induction m with
  | zero =>
    intro i e
    have:i = ds.length:=by omega
    subst this
    rw [List.drop_length];rfl
  | succ m ih =>
    intro i e
    have hlt:i < ds.length:=by omega
    rw [List.drop_eq_getElem_cons hlt,Uh (hs i ds[i] (List.getElem?_eq_getElem hlt))]
    exact ih (i + 1) (by omega)
theorem ju {b:DV -> DSx} (J:Nat -> En) (W:Nat -> Hs) (ds:List DV) (hl:ds.length < 100000) (hs:∀ (i:Nat) d,ds[i]? = some d -> b d (J i) (W i) = some ((.nx,J (i + 1)),W (i + 1))):zS (nxD ds) b 100000 0 (J 0) (W 0) = some ((.nx,J ds.length),W ds.length):=by
  have:=Qas (b:=b) (env:=J 0) (hp:=W 0) (Q:=fun r h=>r = (.nx,J ds.length) /\ h = W ds.length) ds (fun i env h=>env = J i /\ h = W i) hl ⟨rfl,rfl⟩ (fun i d hd env h ⟨e1,e2⟩=>by
    subst e1 e2
    exact WP.of (hs i d hd) ⟨rfl,rfl⟩) (fun env h ⟨e1,e2⟩=>⟨by rw [e1],e2⟩)
  obtain ⟨r,h,e,rfl,rfl⟩:=this
  exact e
def V3 (rows:TP.Rw) (m:Nat) (fork:Bool) (k:Nat):DV:=match TP.QI rows m fork k with
  | []=>.non
  | r :: _=>.int r.1
def VT (rows:TP.Rw) (m:Nat) (fork:Bool) (k:Nat):DV:=.tup (((TP.QI rows m fork k).drop (if fork then 1 else 0)).map fun r=>.int r.1)
def jT (rows:TP.Rw) (m:Nat) (fork:Bool) (k:Nat):DV:=.tup ((TP.QI rows m fork k).map fun r=>.int r.2)
def Jj (rows:TP.Rw) (m:Nat) (fork:Bool) (k:Nat):DV:=.tup [V3 rows m fork k,VT rows m fork k,jT rows m fork k]
def Ze (rows:TP.Rw) (m:Nat) (fork:Bool):List DV:=(List.range (TP.qn rows.length m)).map (Jj rows m fork)
def xc (rows:TP.Rw) (m:Nat) (fork:Bool) (lv first:Nat) (k:Nat):DV:=.tup [.int lv,VT rows m fork k,jT rows m fork k,if k + 1 = TP.qn rows.length m then .non else V3 rows m fork (k + 1),if k + 1 = TP.qn rows.length m then .non else .int ((first + (k + 1):Nat):Int)]
def Z4 (rows:TP.Rw) (m:Nat) (fork:Bool) (lv first:Nat):List DV:=(List.range (TP.qn rows.length m)).map (xc rows m fork lv first)
theorem Ys {n i:Nat} {f:Nat -> DV} (h:i < n):((List.range n).map f)[i]? = some (f i):=by
  rw [List.getElem?_map,List.getElem?_range h];rfl
theorem Qac (r:TP.Rw) (a:Nat):(prD r).drop a = prD (r.drop a):=by unfold prD;rw [List.map_drop]
theorem Qav (r:TP.Rw) (a:Nat):(prD r).take a = prD (r.take a):=by unfold prD;rw [List.map_take]
theorem uy (r:TP.Rw) (g:DV -> DV):(prD r).map g = r.map fun p=>g (.tup [.int p.1,.int p.2]):=by unfold prD;rw [List.map_map];rfl
def Qds:DV -> DV
  | .tup (x :: _)=>x
  | _=>.non
def QfD:DV -> DV
  | .tup (_ :: y :: _)=>y
  | _=>.non
theorem QaK {c:DTx} {b:DSx} {n:Nat} {env:En} {hp:Hs} (h:c env hp = some (false,hp)):ZZ c b (n + 1) env hp = some ((.nx,env),hp):=Uf h
end D
namespace TR
def prs (p:Pg):List (Int × Int):=p.ks.zip p.ps
theorem QaP {ks:List Int} (h:ks.Pairwise (· < ·)) {i:Nat} {a k:Int} (ha:ks[i]? = some a):i < cLe ks k ↔ a <= k:=by
  obtain ⟨h1,h2⟩:=Kk h k
  constructor
  . intro hi
    have:a ∈ ks.take (cLe ks k):=List.mem_iff_getElem?.mpr ⟨i,by rw [List.getElem?_take,if_pos hi];exact ha⟩
    rw [h1] at this
    simpa using (List.mem_filter.mp this).2
  . intro hl
    refine Nat.lt_of_not_le fun hi=>?_
    have:a ∈ ks.drop (cLe ks k):=List.mem_iff_getElem?.mpr ⟨i - cLe ks k,by rw [List.getElem?_drop,show cLe ks k + (i - cLe ks k) = i by omega];exact ha⟩
    rw [h2] at this
    have:k < a:=by simpa using (List.mem_filter.mp this).2
    omega
def Lf (S:Sh) (k v:Int):Prop:=∃ (n:Nat) (p:Pg),S.pg[n]? = some p /\ p.lv = 0 /\ (k,v) ∈ prs p
def TabIs (S:Sh) (F:Int -> Option Int):Prop:=∀ k v,F k = some v ↔ Lf S k v
section
variable {S:Sh} {bg:Bg} {n:Nat} {p P:Pg} {k v:Int} {F:Int -> Option Int}
theorem TabIs.same {S':Sh} (hT:TabIs S F) (h:S'.pg = S.pg):TabIs S' F:=fun k v=>by
  rw [hT k v];unfold Lf;rw [h]
end
end TR
namespace TR
def Aim (S:Sh) (bg:Bg) (w:Wk):Prop:=w.goal = 0 -> match w.deed with
  | .stretch l h=>l < h /\ (w.aim = l ∨ ∃ (s:Nat) (p:Pg),w.place = some s /\ S.pg[s]? = some p /\ p.lv = 0 /\ bg s = some w.aim /\ l < w.aim /\ w.aim < h)
  | .find k=>w.aim = k
  | .put k _=>w.aim = k
  | .cut k=>w.aim = k
theorem Aim.grow {S S':Sh} {bg bg':Bg} {w:Wk} (A:Aim S bg w) (g:Grow S bg S' bg'):Aim S' bg' w:=fun h0=>by
  have a:=A h0
  cases hd:w.deed with
  | find k=>rw [hd] at a;exact a
  | put k x=>rw [hd] at a;exact a
  | cut k=>rw [hd] at a;exact a
  | stretch l h =>
    rw [hd] at a
    obtain ⟨a1,a2⟩:=a
    refine ⟨a1,a2.imp id ?_⟩
    rintro ⟨s,p,b1,b2,b0,b3,b4⟩
    obtain ⟨e,p',e1,e2⟩:=g.old s p b2
    exact ⟨s,p',b1,e1,e2.trans b0,by rw [e];exact b3,b4⟩
section
variable {S S':Sh} {bg:Bg} {n:Nat} {p P:Pg} {w w':Wk} {F:Int -> Option Int} {r:Row}
end
end TR
namespace TR
def Kd (S:Sh) (c:Nat):Prop:=∃ (m:Nat) (q:Pg),S.pg[m]? = some q /\ 0 < q.lv /\ (c:Int) ∈ q.ps
def Tells (ws:List Wk) (c:Nat):Prop:=∃ (i:Nat) (w:Wk),ws[i]? = some w /\ w.ended = false /\ 0 < w.goal /\ w.newp = some c
def Tld (S:Sh) (ws:List Wk):Prop:=∀ n:Nat,n < S.pg.length -> n ≠ S.top -> Kd S n ∨ Tells ws n
section
variable {S S':Sh} {bg:Bg} {n:Nat} {p P:Pg} {w w':Wk} {r:Row} {ws:List Wk} {i:Nat}
theorem V0 {w:Wk} (hn:S.pg[n]? = some p) (hl:P.lv = p.lv) (hsub:0 < p.lv -> ∀ x ∈ p.ps,x ∈ P.ps) {c:Nat} (h:Kd S c ∨ (0 < P.lv /\ (c:Int) ∈ P.ps)):Kd (ZW S w n P).2.1 c:=by
  have ln:=XI hn
  have key:(∃ (m:Nat) (q:Pg),m ≠ n /\ S.pg[m]? = some q /\ 0 < q.lv /\ (c:Int) ∈ q.ps) ∨ (0 < P.lv /\ (c:Int) ∈ P.ps):=by
    rcases h with ⟨m,q,h1,h2,h3⟩ | h
    . by_cases e:m = n
      . subst e;rw [hn] at h1;cases h1;exact .inr ⟨by omega,hsub h2 _ h3⟩
      . exact .inl ⟨m,q,e,h1,h2,h3⟩
    . exact .inr h
  unfold ZW
  by_cases hr:P.ks.length <= S.room
  . rw [if_pos hr]
    rcases key with ⟨m,q,e,h1,h2,h3⟩ | ⟨h1,h2⟩
    . exact ⟨m,q,by show (S.pg.set n P)[m]? = _;rw [List.getElem?_set_ne (fun x=>e x.symm)];exact h1,h2,h3⟩
    . exact ⟨n,P,by show (S.pg.set n P)[n]? = _;rw [List.getElem?_set_self ln],h1,h2⟩
  . rw [if_neg hr]
    rcases key with ⟨m,q,e,h1,h2,h3⟩ | ⟨h1,h2⟩
    . exact ⟨m,q,by show ((S.pg ++ [jD P]).set n (jf P S.pg.length))[m]? = _;rw [List.getElem?_set_ne (fun x=>e x.symm)];exact u7 h1,h2,h3⟩
    . rw [<- List.take_append_drop (uu P) P.ps] at h2
      rcases List.mem_append.mp h2 with h | h
      . exact ⟨n,jf P S.pg.length,by show ((S.pg ++ [jD P]).set n (jf P S.pg.length))[n]? = _;rw [List.getElem?_set_self (by simp;omega)],h1,h⟩
      . exact ⟨S.pg.length,jD P,by show ((S.pg ++ [jD P]).set n (jf P S.pg.length))[S.pg.length]? = _;rw [List.getElem?_set_ne (by omega)];simp,h1,h⟩
theorem Tells.other {c:Nat} (h:Tells ws c) (hi:ws[i]? = some w) (hne:w.ended = false -> 0 < w.goal -> w.newp ≠ some c):Tells (ws.set i w') c:=by
  obtain ⟨j,v,a,b,d,e⟩:=h
  have ne:j ≠ i:=fun z=>by subst z;rw [hi] at a;cases a;exact hne b d e
  exact ⟨j,v,by rw [List.getElem?_set_ne (fun x=>ne x.symm)];exact a,b,d,e⟩
theorem Tells.self {c:Nat} (hi:ws[i]? = some w) (h1:w'.ended = false) (h2:0 < w'.goal) (h3:w'.newp = some c):Tells (ws.set i w') c :=
  ⟨i,w',List.getElem?_set_self (XI hi),h1,h2,h3⟩
theorem UO {w:Wk} (S:Sh) (n:Nat) (P:Pg) (h:S.room < P.ks.length) (hw:w.ended = false):(ZW S w n P).2.2.ended = false /\ 0 < (ZW S w n P).2.2.goal /\ (ZW S w n P).2.2.newp = some S.pg.length:=by
  unfold ZW;rw [if_neg (by omega)];exact ⟨hw,Nat.succ_pos _,rfl⟩
theorem G4 {w:Wk} (S:Sh) (n:Nat) (P:Pg) {c:Nat} (hc:c < (ZW S w n P).2.1.pg.length):c < S.pg.length ∨ (c = S.pg.length /\ S.room < P.ks.length):=by
  unfold ZW at hc
  by_cases hr:P.ks.length <= S.room
  . rw [if_pos hr] at hc;exact .inl (by simpa using hc)
  . rw [if_neg hr] at hc
    have:c < S.pg.length + 1:=by simpa using hc
    rcases Nat.lt_or_ge c S.pg.length with h | h
    . exact .inl h
    . exact .inr ⟨by omega,by omega⟩
theorem vp {w:Wk} (S:Sh) (n:Nat) (P:Pg):(ZW S w n P).2.1.top = S.top:=by
  unfold ZW;split <;> rfl
theorem Tld.step (D:Tld S ws) (T:Tree S bg) (W:WOk S bg w) (hi:ws[i]? = some w) (hw:w.ended = false) (hs:Qdh S w = some (r,S',w')):Tld S' (ws.set i w'):=by
  obtain ⟨n,hn0,hpl⟩:∃ n,w.place.getD S.top = n /\ (w.place = some n ∨ (w.place = none /\ n = S.top)):=by
    cases e:w.place with
    | none=>exact ⟨S.top,rfl,.inr ⟨rfl,rfl⟩⟩
    | some m=>exact ⟨m,rfl,.inl rfl⟩
  obtain ⟨p,hn⟩:∃ p,S.pg[n]? = some p:=by
    rcases hpl with hp | ⟨_,rfl⟩
    . obtain ⟨p,a,_⟩:=W.at_ n hp;exact ⟨p,a⟩
    . obtain ⟨p,a,_⟩:=T.root;exact ⟨p,a⟩
  have still:∀ {x:Wk} {S2:Sh},S2.pg = S.pg -> S2.top = S.top -> (w.ended = false -> 0 < w.goal -> x.ended = false /\ x.goal = w.goal /\ x.newp = w.newp) -> Tld S2 (ws.set i x):=fun {x S2} e1 e2 e3 c hc ht=>by
    rw [e1] at hc;rw [e2] at ht
    rcases D c hc ht with ⟨m,q,h⟩ | ⟨j,v,a,b,d,e⟩
    . exact .inl ⟨m,q,by rw [e1];exact h⟩
    . by_cases z:j = i
      . subst z;rw [hi] at a;cases a
        obtain ⟨f1,f2,f3⟩:=e3 b d
        exact .inr (Tells.self hi f1 (by omega) (f3.trans e))
      . exact .inr ⟨j,v,by rw [List.getElem?_set_ne (fun x=>z x.symm)];exact a,b,d,e⟩
  unfold Qdh at hs
  rw [if_neg (by rw [hw];simp),hn0] at hs
  simp only [hn] at hs
  by_cases hr:w.place = none /\ p.lv < w.goal
  . rw [if_pos hr] at hs
    obtain ⟨k,q,a1,a2,a3,a4⟩:=W.tell (by omega)
    simp only [a1] at hs
    cases hs
    intro c hc ht
    have hc:c < S.pg.length + 1:=by simpa using hc
    have ht:c ≠ S.pg.length:=ht
    have newf:(S.pg ++ [(⟨p.lv + 1,[w.aim],[(S.top:Int),(k:Int)],none,none⟩:Pg)])[S.pg.length]? = some ⟨p.lv + 1,[w.aim],[(S.top:Int),(k:Int)],none,none⟩:=by simp
    by_cases e:c = S.top
    . exact .inl ⟨S.pg.length,_,newf,Nat.succ_pos _,by simp [e]⟩
    by_cases e':c = k
    . exact .inl ⟨S.pg.length,_,newf,Nat.succ_pos _,by simp [e']⟩
    rcases D c (by omega) e with ⟨m,q,h1,h2,h3⟩ | h
    . exact .inl ⟨m,q,u7 h1,h2,h3⟩
    . exact .inr (h.other hi fun _ _ h=>by rw [a1] at h;exact e' (Option.some.inj h).symm)
  . rw [if_neg hr] at hs
    cases hb:uS p w.aim with
    | true =>
      rw [hb,if_pos rfl] at hs
      cases hsd:p.sd with
      | none=>rw [hsd] at hs;cases hs
      | some s =>
        rw [hsd] at hs;cases hs
        exact still rfl rfl fun a _=>⟨a,rfl,rfl⟩
    | false =>
      rw [hb,if_neg (by simp)] at hs
      by_cases hd:w.goal < p.lv
      . rw [if_pos hd] at hs
        cases hq:p.ps[cLe p.ks w.aim]? with
        | none=>rw [hq] at hs;cases hs
        | some c =>
          rw [hq] at hs;cases hs
          exact still rfl rfl fun a _=>⟨a,rfl,rfl⟩
      . rw [if_neg hd] at hs
        have back:∀ (w0:Wk) (P:Pg),w0.ended = false -> P.lv = p.lv -> (0 < p.lv -> ∀ x ∈ p.ps,x ∈ P.ps) -> (∀ c,0 < w.goal -> w.newp = some c -> 0 < P.lv /\ (c:Int) ∈ P.ps) -> Tld (ZW { S with rd:=S.rd + 1 } w0 n P).2.1 (ws.set i (ZW { S with rd:=S.rd + 1 } w0 n P).2.2):=fun w0 P e0 hl hsub hnew c hc ht=>by
          rw [vp] at ht
          rcases G4 _ n P hc with hc | ⟨hc,hroom⟩
          . rcases D c hc ht with h | h
            . exact .inl (V0 (S:={ S with rd:=S.rd + 1 }) hn hl hsub (.inl h))
            . by_cases z:w.newp = some c /\ 0 < w.goal
              . exact .inl (V0 (S:={ S with rd:=S.rd + 1 }) hn hl hsub (.inr (hnew c z.2 z.1)))
              . exact .inr (h.other hi fun _ a b=>z ⟨b,a⟩)
          . obtain ⟨f1,f2,f3⟩:=UO (w:=w0) { S with rd:=S.rd + 1 } n P hroom e0
            exact .inr (Tells.self hi f1 f2 (by rw [f3];exact congrArg some hc.symm))
        by_cases h0:0 < w.goal
        . rw [if_pos h0] at hs
          obtain ⟨k,q,a1,a2,a3,a4⟩:=W.tell h0
          simp only [a1] at hs
          simp only [Option.some.injEq,Prod.mk.injEq] at hs
          obtain ⟨rfl,rfl,rfl⟩:=hs
          have hg:w.goal <= p.lv:=by
            rcases hpl with hp | ⟨hp,_⟩
            . obtain ⟨p',b1,b2,_⟩:=W.at_ n hp
              rw [hn] at b1;cases b1;exact b2
            . exact Nat.le_of_not_lt fun h=>hr ⟨hp,h⟩
          refine back w (uO p w.aim k) hw rfl (fun _ x hx=>?_) fun c _ hc=>⟨by show 0 < p.lv;omega,?_⟩
          . show x ∈ p.ps.take (cLe p.ks w.aim + 1) ++ (k:Int) :: p.ps.drop (cLe p.ks w.aim + 1)
            rw [<- List.take_append_drop (cLe p.ks w.aim + 1) p.ps] at hx
            rcases List.mem_append.mp hx with h | h
            . exact List.mem_append_left _ h
            . exact List.mem_append_right _ (List.mem_cons_of_mem _ h)
          . rw [a1] at hc;cases hc
            show (k:Int) ∈ p.ps.take (cLe p.ks w.aim + 1) ++ (k:Int) :: p.ps.drop (cLe p.ks w.aim + 1)
            simp
        . rw [if_neg h0] at hs
          have hs:=Option.some.inj hs
          unfold Qdi at hs
          have g0:∀ {x:Wk},w.ended = false -> 0 < w.goal -> x.ended = false /\ x.goal = w.goal /\ x.newp = w.newp:=fun _ h=>absurd h h0
          cases hdd:w.deed with
          | find k=>rw [hdd] at hs;cases hs;exact still rfl rfl g0
          | put k x =>
            rw [hdd] at hs
            dsimp only at hs
            simp only [Prod.mk.injEq] at hs
            obtain ⟨rfl,rfl,rfl⟩:=hs
            exact back _ (Ko p w.aim x) hw rfl (fun h=>(by
              have hg:p.lv = 0:=by omega
              omega)) fun c h=>absurd h h0
          | cut k =>
            rw [hdd] at hs;dsimp only at hs;cases hs
            by_cases hq:(qO p w.aim).isSome = true
            . rw [if_pos hq]
              intro c hc ht
              have hc:c < S.pg.length:=by simpa using hc
              rcases D c hc ht with ⟨m,q,h1,h2,h3⟩ | h
              . have e:m ≠ n:=fun e=>by subst e;rw [hn] at h1;cases h1;omega
                exact .inl ⟨m,q,by show (S.pg.set n (without p w.aim))[m]? = _;rw [List.getElem?_set_ne (fun x=>e x.symm)];exact h1,h2,h3⟩
              . exact .inr (h.other hi fun _ a=>absurd a h0)
            . rw [if_neg hq];exact still rfl rfl g0
          | stretch l h =>
            rw [hdd] at hs;dsimp only at hs
            cases hhi:p.hi with
            | none=>rw [hhi] at hs;cases hs;exact still rfl rfl g0
            | some x =>
              cases hsd:p.sd with
              | none=>rw [hhi,hsd] at hs;cases hs;exact still rfl rfl g0
              | some s =>
                rw [hhi,hsd] at hs
                dsimp only at hs
                by_cases hx:h <= x
                . rw [if_pos hx] at hs;cases hs;exact still rfl rfl g0
                . rw [if_neg hx] at hs;cases hs;exact still rfl rfl g0
theorem Tld.put (D:Tld S ws) (hi:∀ v,ws[i]? = some v -> v.ended = true) (w:Wk):Tld S (ws.set i w):=fun c hc ht=>(D c hc ht).imp id fun ⟨j,v,a,b,d,e⟩=>by
  have ne:j ≠ i:=fun z=>by subst z;rw [hi v a] at b;cases b
  exact ⟨j,v,by rw [List.getElem?_set_ne (fun x=>ne x.symm)];exact a,b,d,e⟩
end
end TR
namespace TP
open TR
structure Lv where
  rows:Rw
  m:Nat
  fork:Bool
  lv:Nat
  first:Nat
def Lv.q (L:Lv):Nat:=qn L.rows.length L.m
def Q7 (L:Lv) (k:Nat):Pg:=⟨L.lv,((QI L.rows L.m L.fork k).drop (if L.fork then 1 else 0)).map (·.1),(QI L.rows L.m L.fork k).map (·.2),if k + 1 = L.q then none else some (X1 L.rows L.m L.fork (k + 1)),if k + 1 = L.q then none else some (L.first + (k + 1))⟩
structure Lv.Ok (room:Nat) (L:Lv):Prop where
  room2:2 <= room
  m1:L.m = if L.fork then room + 1 else room
  fk:L.fork = true ↔ 0 < L.lv
  rise:L.rows.Pairwise (fun a b=>a.1 < b.1)
  two:L.fork = true -> 2 <= L.rows.length
def Lv.s (L:Lv) (k:Nat):Nat:=sx L.rows.length L.m L.fork k
section
variable {room:Nat} {L:Lv} {k:Nat}
theorem Lv.Ok.m_pos (O:L.Ok room):1 <= L.m:=by have:=O.m1;have:=O.room2;split at * <;> omega
theorem Lv.Ok.m3 (O:L.Ok room) (h:L.fork = true):3 <= L.m:=by have:=O.m1;have:=O.room2;rw [if_pos h] at *;omega
theorem Lv.Ok.q1 (O:L.Ok room):1 <= L.q:=(Zf O.m_pos).1
theorem Lv.Ok.s_lt (O:L.Ok room) (hn:1 <= L.rows.length) (h:k < L.q):L.s k < L.s (k + 1):=QaQ O.m_pos O.m3 hn h
theorem Lv.Ok.s_le (O:L.Ok room) (hn:1 <= L.rows.length) (h:k <= L.q):L.s k <= L.rows.length:=kJ O.m_pos L.fork h hn
theorem Lv.s_end (L:Lv):L.s L.q = L.rows.length:=Ux _ _ _
theorem Lv.Ok.s_mono (O:L.Ok room) (hn:1 <= L.rows.length):∀ {i j:Nat},i <= j -> j <= L.q -> L.s i <= L.s j:=by
  intro i j hij hj
  induction j with
  | zero => have : i = 0 := by omega
            subst this;exact Nat.le_refl _
  | succ j ih =>
    by_cases e:i = j + 1
    . subst e;exact Nat.le_refl _
    . have:=ih (by omega) (by omega)
      have:=O.s_lt hn (k:=j) (by omega)
      omega
theorem Lv.Ok.s_mono_lt (O:L.Ok room) (hn:1 <= L.rows.length) {i j:Nat} (hij:i < j) (hj:j <= L.q):L.s i < L.s j:=by
  have a:=O.s_lt hn (k:=i) (by omega)
  have b:=O.s_mono hn (i:=i + 1) (j:=j) (by omega) hj
  omega
theorem chunk_get {i:Nat} {r:Int × Int}:(QI L.rows L.m L.fork k)[i]? = some r ↔ (i < L.s (k + 1) - L.s k /\ L.rows[L.s k + i]? = some r):=by
  unfold QI
  rw [List.getElem?_take]
  show (if i < L.s (k + 1) - L.s k then (L.rows.drop (L.s k))[i]? else none) = some r ↔ _
  rw [List.getElem?_drop]
  by_cases h:i < L.s (k + 1) - L.s k
  . rw [if_pos h];exact ⟨fun e=>⟨h,e⟩,fun e=>e.2⟩
  . rw [if_neg h];exact ⟨fun e=>(by cases e),fun e=>absurd e.1 h⟩
theorem Lv.Ok.beg (O:L.Ok room) (hn:1 <= L.rows.length) (h:k < L.q):∃ r,L.rows[L.s k]? = some r /\ X1 L.rows L.m L.fork k = r.1:=by
  have a:=O.s_lt hn h
  have b:=O.s_le hn (k:=k + 1) (by omega)
  have hr:L.rows[L.s k]? = some (L.rows[L.s k]'(by omega)):=List.getElem?_eq_getElem _
  refine ⟨_,hr,?_⟩
  have c:(QI L.rows L.m L.fork k)[0]? = some (L.rows[L.s k]'(by omega)):=chunk_get.mpr ⟨by omega,hr⟩
  unfold X1
  cases e:QI L.rows L.m L.fork k with
  | nil=>rw [e] at c;cases c
  | cons x y=>rw [e] at c;cases c;rfl
theorem jC {rows:Rw} (h:rows.Pairwise (fun a b=>a.1 < b.1)) {i j:Nat} {x y:Int × Int} (hx:rows[i]? = some x) (hy:rows[j]? = some y) (hij:i < j):x.1 < y.1:=by
  obtain ⟨h1,rfl⟩:=List.getElem?_eq_some_iff.mp hx
  obtain ⟨h2,rfl⟩:=List.getElem?_eq_some_iff.mp hy
  exact List.pairwise_iff_getElem.mp h i j h1 h2 hij
theorem uV {rows:Rw} (h:rows.Pairwise (fun a b=>a.1 < b.1)) {i j:Nat} {x y:Int × Int} (hx:rows[i]? = some x) (hy:rows[j]? = some y) (hij:i <= j):x.1 <= y.1:=by
  rcases Nat.lt_or_ge i j with l | l
  . exact Int.le_of_lt (jC h hx hy l)
  . have:i = j:=by omega
    subst this;rw [hx] at hy;cases hy;exact Int.le_refl _
theorem yE {x:Int} (h:x ∈ (Q7 L k).ks):∃ (i:Nat) (r:Int × Int),L.s k + (if L.fork then 1 else 0) <= i /\ i < L.s (k + 1) /\ L.rows[i]? = some r /\ x = r.1:=by
  obtain ⟨r,hr,rfl⟩:=List.mem_map.mp h
  obtain ⟨i,hi⟩:=List.mem_iff_getElem?.mp hr
  rw [List.getElem?_drop] at hi
  obtain ⟨a,b⟩:=chunk_get.mp hi
  exact ⟨L.s k + ((if L.fork then 1 else 0) + i),r,by omega,by omega,b,rfl⟩
theorem Lv.Ok.few (O:L.Ok room) (h:k < L.q):L.s (k + 1) - L.s k <= L.m:=by
  obtain ⟨h1,h2,h3⟩:=Zf (n:=L.rows.length) O.m_pos
  have mul:(k + 1) * L.m = k * L.m + L.m:=by rw [Nat.add_mul,Nat.one_mul]
  have hq:qn L.rows.length L.m = L.q:=rfl
  unfold Lv.s sx
  rw [hq,if_neg (by omega:¬ k = L.q)]
  by_cases e:k + 1 = L.q
  . rw [if_pos e]
    have hk:k * L.m = (L.q - 1) * L.m:=by rw [<- e];simp
    have h4:L.q * L.m = k * L.m + L.m:=by rw [<- e,mul]
    rw [hq] at h2 h3
    split
    . rename_i c
      have:=O.m3 c.1
      omega
    . omega
  . rw [if_neg e,if_neg (c:=L.fork = true /\ 1 < L.q /\ L.rows.length = (L.q - 1) * L.m + 1 /\ k + 1 = L.q) (fun z=>e z.2.2.2)]
    split <;> omega
def bgL (L:Lv) (k:Nat):Option Int:=if k = 0 then none else some (X1 L.rows L.m L.fork k)
theorem Lv.Ok.page (O:L.Ok room) (h:k < L.q):zO room (bgL L k) (Q7 L k):=by
  by_cases hn:1 <= L.rows.length
  . have lt:=O.s_lt hn h
    obtain ⟨r0,b1,b2⟩:=O.beg hn h
    have bgv:∀ v,bgL L k = some v -> v = r0.1:=fun v hv=>by
      unfold bgL at hv
      split at hv
      . cases hv
      . rw [b2] at hv;exact (Option.some.inj hv).symm
    have hiv:∀ x,(Q7 L k).hi = some x -> ∃ r,L.rows[L.s (k + 1)]? = some r /\ x = r.1:=fun x hx=>by
      have hx:(if k + 1 = L.q then none else some (X1 L.rows L.m L.fork (k + 1))) = some x:=hx
      split at hx
      . cases hx
      . obtain ⟨r,c1,c2⟩:=O.beg hn (k:=k + 1) (by omega)
        exact ⟨r,c1,by rw [<- c2];exact (Option.some.inj hx).symm⟩
    refine ⟨?_,?_,?_,fun x hx v hv=>?_,fun hl x hx v hv=>?_,fun x hx v hv=>?_,fun x hx v hv=>?_⟩
    . show (((QI L.rows L.m L.fork k).drop _).map (·.1)).Pairwise (· < ·)
      rw [List.pairwise_map]
      refine List.Pairwise.drop (List.Pairwise.take (List.Pairwise.drop O.rise))
    . show (((QI L.rows L.m L.fork k).drop _).map (·.1)).length <= room
      rw [List.length_map,List.length_drop]
      have cl:(QI L.rows L.m L.fork k).length <= L.s (k + 1) - L.s k:=by unfold QI;rw [List.length_take];exact Nat.min_le_left _ _
      have fw:=O.few h
      have m1:=O.m1
      split <;> rename_i c <;> simp only [c] at m1 <;> simp at m1 <;> omega
    . show ((QI L.rows L.m L.fork k).map (·.2)).length = (((QI L.rows L.m L.fork k).drop _).map (·.1)).length + _
      rw [List.length_map,List.length_map,List.length_drop]
      have c1:=(XL (rows:=L.rows) (m:=L.m) (fork:=L.fork) O.m_pos O.m3 hn h).2
      by_cases f:L.fork = true
      . have:¬ (Q7 L k).lv = 0:=by have:=O.fk.mp f;show ¬ L.lv = 0;omega
        rw [if_pos f,if_neg this];omega
      . have:(Q7 L k).lv = 0:=by have:=mt O.fk.mpr f;show L.lv = 0;omega
        rw [if_neg f,if_pos this];omega
    . obtain ⟨i,r,a1,a2,a3,rfl⟩:=yE hx
      rw [bgv v hv]
      exact uV O.rise b1 a3 (by split at a1 <;> omega)
    . obtain ⟨i,r,a1,a2,a3,rfl⟩:=yE hx
      rw [bgv v hv]
      rw [if_pos (O.fk.mpr hl)] at a1
      exact jC O.rise b1 a3 (by omega)
    . obtain ⟨i,r,a1,a2,a3,rfl⟩:=yE hx
      obtain ⟨r',c1,rfl⟩:=hiv v hv
      exact jC O.rise a3 c1 a2
    . obtain ⟨r',c1,rfl⟩:=hiv x hx
      rw [bgv v hv]
      exact jC O.rise b1 c1 lt
  . have r0:L.rows = []:=by cases h':L.rows with | nil=>rfl | cons a b=>rw [h'] at hn;simp at hn
    have fF:L.fork = false:=by
      cases f:L.fork with
      | false=>rfl
      | true=>have:=O.two f;rw [r0] at this;simp at this
    have cn:QI L.rows L.m L.fork k = []:=by unfold QI;rw [r0];simp
    have q1:L.q = 1:=by
      obtain ⟨h1,h2,h3⟩:=Zf (n:=L.rows.length) O.m_pos
      have hq:qn L.rows.length L.m = L.q:=rfl
      rw [hq] at h1 h2 h3
      have:(L.q - 1) * 1 <= (L.q - 1) * L.m:=Nat.mul_le_mul_left _ O.m_pos
      rw [r0] at h3
      simp at h3
      omega
    have e:Q7 L k = ⟨L.lv,[],[],none,none⟩:=by
      unfold Q7
      have ek:k + 1 = L.q:=by omega
      rw [cn,if_pos ek,if_pos ek];simp
    have lz:L.lv = 0:=by have:=mt O.fk.mpr (by rw [fF];simp);omega
    rw [e]
    exact ⟨List.Pairwise.nil,Nat.zero_le _,by simp [lz],fun x hx=>(by cases hx),fun _ x hx=>(by cases hx),fun x hx=>(by cases hx),fun x hx=>(by cases hx)⟩
end
end TP
namespace TP
open TR
structure Pt (room:Nat) (pg:List Pg) (bg:Bg) (L:Lv):Prop where
  ok:L.Ok room
  len:pg.length = L.first + L.q
  top:∀ k,k < L.q -> pg[L.first + k]? = some (Q7 L k) /\ bg (L.first + k) = bgL L k
  lvl:∀ (n:Nat) (p:Pg),pg[n]? = some p -> p.lv <= L.lv /\ (p.lv = L.lv -> L.first <= n)
  page:∀ (n:Nat) (p:Pg),pg[n]? = some p -> zO room (bg n) p
  link:∀ (n:Nat) (p:Pg),pg[n]? = some p -> (p.hi = none /\ p.sd = none) ∨ ∃ (h:Int) (s:Nat) (q:Pg),p.hi = some h /\ p.sd = some s /\ pg[s]? = some q /\ q.lv = p.lv /\ bg s = some h
  kid:∀ (n:Nat) (p:Pg),pg[n]? = some p -> 0 < p.lv -> ∀ j k,p.ps[j]? = some k -> ∃ (c:Nat) (q:Pg),k = (c:Int) /\ pg[c]? = some q /\ q.lv + 1 = p.lv /\ bg c = jx (bg n) p.ks j
  dis:∀ (n m:Nat) (p q:Pg),pg[n]? = some p -> pg[m]? = some q -> p.lv = q.lv -> n ≠ m -> (∃ h v,p.hi = some h /\ bg m = some v /\ h <= v) ∨ (∃ h v,q.hi = some h /\ bg n = some v /\ h <= v)
  pred:∀ (n:Nat) (p:Pg),pg[n]? = some p -> ∀ v,bg n = some v -> ∃ (m:Nat) (q:Pg),pg[m]? = some q /\ q.lv = p.lv /\ q.hi = some v
  told:∀ (n:Nat) (p:Pg),pg[n]? = some p -> p.lv < L.lv -> ∃ (m:Nat) (f:Pg),pg[m]? = some f /\ 0 < f.lv /\ (n:Int) ∈ f.ps
section
variable {room:Nat} {L:Lv} {pg:List Pg} {bg:Bg}
theorem Lv.Ok.rows1 (O:L.Ok room) {k:Nat} (h:k + 1 < L.q):1 <= L.rows.length:=by
  obtain ⟨h1,h2,h3⟩:=Zf (n:=L.rows.length) O.m_pos
  have hq:qn L.rows.length L.m = L.q:=rfl
  rw [hq] at h1 h2 h3
  have:(L.q - 1) * 1 <= (L.q - 1) * L.m:=Nat.mul_le_mul_left _ O.m_pos
  omega
theorem Lv.Ok.beg_le (O:L.Ok room) {i j:Nat} (hij:i <= j) (hj:j < L.q) (h1:1 < L.q):X1 L.rows L.m L.fork i <= X1 L.rows L.m L.fork j:=by
  have hn:=O.rows1 (k:=0) (by omega)
  obtain ⟨r,a1,a2⟩:=O.beg hn (k:=i) (by omega)
  obtain ⟨r',b1,b2⟩:=O.beg hn hj
  rw [a2,b2]
  exact uV O.rise a1 b1 (O.s_mono hn hij (by omega))
theorem Lv.Ok.beg_lt (O:L.Ok room) {i j:Nat} (hij:i < j) (hj:j < L.q):X1 L.rows L.m L.fork i < X1 L.rows L.m L.fork j:=by
  have hn:=O.rows1 (k:=0) (by omega)
  obtain ⟨r,a1,a2⟩:=O.beg hn (k:=i) (by omega)
  obtain ⟨r',b1,b2⟩:=O.beg hn hj
  rw [a2,b2]
  exact jC O.rise a1 b1 (O.s_mono_lt hn hij (by omega))
theorem ug (T:∀ k,k < L.q -> pg[L.first + k]? = some (Q7 L k) /\ bg (L.first + k) = bgL L k) {k:Nat} (h:k < L.q):((Q7 L k).hi = none /\ (Q7 L k).sd = none) ∨ ∃ (h:Int) (s:Nat) (q:Pg),(Q7 L k).hi = some h /\ (Q7 L k).sd = some s /\ pg[s]? = some q /\ q.lv = (Q7 L k).lv /\ bg s = some h:=by
  by_cases e:k + 1 = L.q
  . exact .inl ⟨by show (if k + 1 = L.q then none else _) = none;rw [if_pos e],by show (if k + 1 = L.q then none else _) = none;rw [if_pos e]⟩
  . obtain ⟨a,b⟩:=T (k + 1) (by omega)
    refine .inr ⟨X1 L.rows L.m L.fork (k + 1),L.first + (k + 1),Q7 L (k + 1),by show (if k + 1 = L.q then none else _) = _;rw [if_neg e],by show (if k + 1 = L.q then none else _) = _;rw [if_neg e],a,rfl,?_⟩
    rw [b];unfold bgL;rw [if_neg (by omega)]
theorem Uw (O:L.Ok room) {i j:Nat} (hij:i < j) (hj:j < L.q):∃ h v,(Q7 L i).hi = some h /\ bgL L j = some v /\ h <= v:=by
  refine ⟨X1 L.rows L.m L.fork (i + 1),X1 L.rows L.m L.fork j,?_,?_,O.beg_le (by omega) hj (by omega)⟩
  . show (if i + 1 = L.q then none else _) = _;rw [if_neg (by omega)]
  . unfold bgL;rw [if_neg (by omega)]
theorem uQ {k:Nat} (h:k < L.q) {v:Int} (hv:bgL L k = some v):∃ i,i < L.q /\ (Q7 L i).hi = some v:=by
  unfold bgL at hv
  split at hv
  . cases hv
  . rename_i k0
    refine ⟨k - 1,by omega,?_⟩
    show (if k - 1 + 1 = L.q then none else some (X1 L.rows L.m L.fork (k - 1 + 1))) = _
    rw [if_neg (by omega),show k - 1 + 1 = k by omega];exact hv
theorem QJ {q n:Nat} {f:Nat -> Pg} {p:Pg} (h:((List.range q).map f)[n]? = some p):n < q /\ p = f n:=by
  have hn:n < q:=by have:=(List.getElem?_eq_some_iff.mp h).1;simpa using this
  rw [List.getElem?_map,List.getElem?_range hn] at h
  exact ⟨hn,(Option.some.inj h).symm⟩
theorem J9 {q n:Nat} {f:Nat -> Pg} (h:n < q):((List.range q).map f)[n]? = some (f n):=by rw [List.getElem?_map,List.getElem?_range h];rfl
def Zr (L:Lv):List Pg:=(List.range L.q).map (Q7 L)
theorem Pt.base (O:L.Ok room) (h0:L.lv = 0) (hf:L.first = 0):Pt room (Zr L) (bgL L) L:=by
  have T:∀ k,k < L.q -> (Zr L)[L.first + k]? = some (Q7 L k) /\ bgL L (L.first + k) = bgL L k:=fun k h=>by
    rw [hf,Nat.zero_add];exact ⟨J9 h,rfl⟩
  have lvp:∀ k,(Q7 L k).lv = 0:=fun k=>h0
  refine ⟨O,by rw [hf];simp [Zr],T,fun n p h=>?_,fun n p h=>?_,fun n p h=>?_,fun n p h hl=>?_,fun n m p q hn hm _ ne=>?_,fun n p h v hv=>?_,fun n p h hl=>?_⟩
  . obtain ⟨_,rfl⟩:=QJ h
    exact ⟨Nat.le_refl _,fun _=>by omega⟩
  . obtain ⟨a,rfl⟩:=QJ h
    exact O.page a
  . obtain ⟨a,rfl⟩:=QJ h
    exact ug T a
  . obtain ⟨a,rfl⟩:=QJ h
    rw [lvp] at hl;omega
  . obtain ⟨a,rfl⟩:=QJ hn
    obtain ⟨b,rfl⟩:=QJ hm
    rcases Nat.lt_or_gt_of_ne ne with l | l
    . exact .inl (Uw O l b)
    . exact .inr (Uw O l a)
  . obtain ⟨a,rfl⟩:=QJ h
    obtain ⟨i,b1,b2⟩:=uQ a hv
    exact ⟨i,Q7 L i,J9 b1,rfl,b2⟩
  . obtain ⟨a,rfl⟩:=QJ h
    rw [lvp] at hl;omega
def QT (room:Nat) (L:Lv):Lv:=⟨qp L.rows L.m L.fork L.first,room + 1,true,L.lv + 1,L.first + L.q⟩
theorem nextL_get {i:Nat} {r:Int × Int}:(QT room L).rows[i]? = some r ↔ i < L.q /\ r = (X1 L.rows L.m L.fork i,((L.first + i:Nat):Int)):=by
  show ((List.range L.q).map fun k=>(X1 L.rows L.m L.fork k,((L.first + k:Nat):Int)))[i]? = some r ↔ _
  rw [List.getElem?_map]
  by_cases h:i < L.q
  . rw [List.getElem?_range h]
    exact ⟨fun e=>⟨h,(Option.some.inj e).symm⟩,fun e=>by rw [e.2];rfl⟩
  . rw [List.getElem?_eq_none (by simp;omega)]
    exact ⟨fun e=>(by cases e),fun e=>absurd e.1 h⟩
theorem JA:(QT room L).rows.length = L.q:=jJ _ _ _ _
theorem Lv.Ok.next (O:L.Ok room) (h2:2 <= L.q):(QT room L).Ok room where
  room2:=O.room2
  m1:=rfl
  fk:=⟨fun _=>Nat.succ_pos _,fun _=>rfl⟩
  rise:=by
    rw [List.pairwise_iff_getElem]
    intro i j hi hj hij
    obtain ⟨a1,a2⟩:=(nextL_get (room:=room)).mp (List.getElem?_eq_getElem hi)
    obtain ⟨b1,b2⟩:=(nextL_get (room:=room)).mp (List.getElem?_eq_getElem hj)
    rw [a2,b2]
    exact O.beg_lt hij b1
  two:=fun _=>by rw [JA];exact h2
theorem gk (O:L.Ok room) (hn:1 <= L.rows.length) {i:Nat} (hi:i < L.rows.length):∃ k,k < L.q /\ L.s k <= i /\ i < L.s (k + 1):=by
  have key:∀ j,j <= L.q -> L.s j <= i ∨ ∃ k,k < j /\ L.s k <= i /\ i < L.s (k + 1):=by
    intro j
    induction j with
    | zero=>intro _;exact .inl (by have:L.s 0 = 0:=jw O.m_pos _;omega)
    | succ j ih =>
      intro hj
      rcases ih (by omega) with h | ⟨k,a,b,c⟩
      . by_cases e:L.s (j + 1) <= i
        . exact .inl e
        . exact .inr ⟨j,by omega,h,by omega⟩
      . exact .inr ⟨k,by omega,b,c⟩
  rcases key L.q (Nat.le_refl _) with h | ⟨k,a,b,c⟩
  . rw [L.s_end] at h;omega
  . exact ⟨k,a,b,c⟩
def bgN (n0:Nat) (bg:Bg) (L:Lv):Bg:=fun n=>if n < n0 then bg n else bgL L (n - n0)
theorem Pt.next (P:Pt room pg bg L) (h2:2 <= L.q):Pt room (pg ++ Zr (QT room L)) (bgN pg.length bg (QT room L)) (QT room L):=by
  let N:=QT room L
  have O':N.Ok room:=P.ok.next h2
  have len:=P.len
  have Nf:N.first = pg.length:=by show L.first + L.q = _;omega
  have n1:1 <= N.rows.length:=by show 1 <= (QT room L).rows.length;rw [JA];omega
  have bo:∀ n,n < pg.length -> bgN pg.length bg N n = bg n:=fun n h=>by unfold bgN;rw [if_pos h]
  have bn:∀ k,bgN pg.length bg N (N.first + k) = bgL N k:=fun k=>by unfold bgN;rw [Nf,if_neg (by omega),Nat.add_sub_cancel_left]
  have go:∀ {n p},pg[n]? = some p -> (pg ++ Zr N)[n]? = some p:=fun {n p} h=>by
    rw [List.getElem?_append_left (List.getElem?_eq_some_iff.mp h).1];exact h
  have T:∀ k,k < N.q -> (pg ++ Zr N)[N.first + k]? = some (Q7 N k) /\ bgN pg.length bg N (N.first + k) = bgL N k:=fun k h=>by
    refine ⟨?_,bn k⟩
    rw [Nf,List.getElem?_append_right (by omega),Nat.add_sub_cancel_left];exact J9 h
  have cs:∀ {n p},(pg ++ Zr N)[n]? = some p -> (n < pg.length /\ pg[n]? = some p) ∨ ∃ k,k < N.q /\ n = N.first + k /\ p = Q7 N k:=fun {n p} h=>by
    by_cases c:n < pg.length
    . rw [List.getElem?_append_left c] at h;exact .inl ⟨c,h⟩
    . rw [List.getElem?_append_right (by omega)] at h
      obtain ⟨a,b⟩:=QJ h
      exact .inr ⟨n - pg.length,a,by omega,b⟩
  have lvN:N.lv = L.lv + 1:=rfl
  refine ⟨O',?_,T,fun n p h=>?_,fun n p h=>?_,fun n p h=>?_,fun n p h hl j x hx=>?_,fun n m p q hn hm hl ne=>?_,fun n p h v hv=>?_,fun n p h hl=>?_⟩
  . rw [List.length_append,Nf];simp [Zr,N]
  . rcases cs h with ⟨c,h⟩ | ⟨k,a,b,rfl⟩
    . have:=(P.lvl n p h).1
      exact ⟨Nat.le_succ_of_le this,fun e=>absurd (show p.lv = L.lv + 1 from e) (by omega)⟩
    . exact ⟨Nat.le_refl _,fun _=>by rw [b];exact Nat.le_add_right _ _⟩
  . rcases cs h with ⟨c,h⟩ | ⟨k,a,rfl,rfl⟩
    . rw [bo n c];exact P.page n p h
    . rw [bn];exact O'.page a
  . rcases cs h with ⟨c,h⟩ | ⟨k,a,rfl,rfl⟩
    . rcases P.link n p h with a | ⟨x,s,q,a1,a2,a3,a4,a5⟩
      . exact .inl a
      . exact .inr ⟨x,s,q,a1,a2,go a3,a4,by rw [bo s (List.getElem?_eq_some_iff.mp a3).1];exact a5⟩
    . exact ug T a
  . rcases cs h with ⟨c,h⟩ | ⟨k,a,rfl,rfl⟩
    . obtain ⟨cc,q,a1,a2,a3,a4⟩:=P.kid n p h hl j x hx
      exact ⟨cc,q,a1,go a2,a3,by rw [bo cc (List.getElem?_eq_some_iff.mp a2).1,bo n c];exact a4⟩
    . have hx:((QI N.rows N.m N.fork k).map (·.2))[j]? = some x:=hx
      rw [List.getElem?_map] at hx
      obtain ⟨r,hr,rfl⟩:=Option.map_eq_some_iff.mp hx
      obtain ⟨b1,b2⟩:=chunk_get.mp hr
      obtain ⟨c1,rfl⟩:=nextL_get.mp b2
      obtain ⟨d1,d2⟩:=P.top (N.s k + j) c1
      refine ⟨L.first + (N.s k + j),Q7 L (N.s k + j),rfl,go d1,rfl,?_⟩
      rw [bo _ (List.getElem?_eq_some_iff.mp d1).1,d2,bn]
      cases j with
      | zero =>
        show bgL L (N.s k + 0) = bgL N k
        unfold bgL
        by_cases k0:k = 0
        . subst k0
          have:N.s 0 = 0:=jw O'.m_pos _
          rw [this,if_pos rfl,if_pos rfl]
        . have sp:=O'.s_mono_lt n1 (i:=0) (j:=k) (by omega) (by omega)
          rw [if_neg (by omega),if_neg k0]
          obtain ⟨r',e1,e2⟩:=O'.beg n1 a
          obtain ⟨_,rfl⟩:=nextL_get.mp e1
          rw [e2];rfl
      | succ j =>
        show bgL L (N.s k + (j + 1)) = (((QI N.rows N.m N.fork k).drop 1).map (·.1))[j]?
        rw [List.getElem?_map,List.getElem?_drop,show 1 + j = j + 1 by omega,hr]
        unfold bgL
        rw [if_neg (by omega)];rfl
  . rcases cs hn with ⟨c,hn⟩ | ⟨k,a,rfl,rfl⟩
    . rcases cs hm with ⟨c',hm⟩ | ⟨k',a',rfl,rfl⟩
      . rw [bo n c,bo m c'];exact P.dis n m p q hn hm hl ne
      . have:=(P.lvl n p hn).1
        have hl:p.lv = N.lv:=hl
        omega
    . rcases cs hm with ⟨c',hm⟩ | ⟨k',a',rfl,rfl⟩
      . have:=(P.lvl m q hm).1
        have hl:N.lv = q.lv:=hl
        omega
      . rw [bn,bn]
        rcases Nat.lt_or_gt_of_ne (show k ≠ k' from fun e=>ne (by rw [e])) with l | l
        . exact .inl (Uw O' l a')
        . exact .inr (Uw O' l a)
  . rcases cs h with ⟨c,h⟩ | ⟨k,a,rfl,rfl⟩
    . rw [bo n c] at hv
      obtain ⟨m,q,a1,a2,a3⟩:=P.pred n p h v hv
      exact ⟨m,q,go a1,a2,a3⟩
    . rw [bn] at hv
      obtain ⟨i,b1,b2⟩:=uQ a hv
      exact ⟨N.first + i,Q7 N i,(T i b1).1,rfl,b2⟩
  . rcases cs h with ⟨c,h⟩ | ⟨k,a,rfl,rfl⟩
    . by_cases e:p.lv = L.lv
      . have fn:=(P.lvl n p h).2 e
        have hi:n - L.first < N.rows.length:=by show n - L.first < (QT room L).rows.length;rw [JA];omega
        obtain ⟨k,k1,k2,k3⟩:=gk O' n1 hi
        refine ⟨N.first + k,Q7 N k,(T k k1).1,Nat.succ_pos _,?_⟩
        show (n:Int) ∈ (QI N.rows N.m N.fork k).map (·.2)
        refine List.mem_map.mpr ⟨_,List.mem_of_getElem? (chunk_get.mpr ⟨by omega,show N.rows[N.s k + (n - L.first - N.s k)]? = some (X1 L.rows L.m L.fork (n - L.first),((L.first + (n - L.first):Nat):Int)) from nextL_get.mpr ⟨by omega,by rw [show N.s k + (n - L.first - N.s k) = n - L.first by omega]⟩⟩),?_⟩
        show ((L.first + (n - L.first):Nat):Int) = n
        omega
      . have:=(P.lvl n p h).1
        obtain ⟨m,f,a1,a2,a3⟩:=P.told n p h (by omega)
        exact ⟨m,f,go a1,a2,a3⟩
    . exact absurd hl (Nat.lt_irrefl _)
end
end TP
namespace TP
open TR
structure Pk (room:Nat) (L0:Lv) (pg:List Pg) (bg:Bg) (L:Lv):Prop where
  pt:Pt room pg bg L
  ok0:L0.Ok room
  lf:∀ k,k < L0.q -> pg[k]? = some (Q7 L0 k) /\ bg k = bgL L0 k
  lf0:∀ (n:Nat) (p:Pg),pg[n]? = some p -> p.lv = 0 -> n < L0.q
  khi:∀ (n:Nat) (p:Pg),pg[n]? = some p -> 0 < p.lv -> ∀ (j:Nat) (k:Int),p.ps[j]? = some k -> ∃ (c:Nat) (q:Pg),k = (c:Int) /\ pg[c]? = some q /\ q.hi = if j < p.ks.length then p.ks[j]? else p.hi
  ne:∀ (n:Nat) (p:Pg),pg[n]? = some p -> 0 < p.lv -> 1 <= p.ks.length
  small:2 ^ L.lv * L.q <= L0.q
  lv0:L0.lv = 0
  first0:L0.first = 0
theorem Qff {n m k:Nat} (hm:3 <= m) (hn:2 <= n) (h:k < qn n m):sx n m true k + 2 <= sx n m true (k + 1):=by
  obtain ⟨h1,h2,h3⟩:=Zf (n:=n) (m:=m) (by omega)
  have mx:max 1 n = n:=by omega
  rw [mx] at h2 h3
  have mul:(k + 1) * m = k * m + m:=by rw [Nat.add_mul,Nat.one_mul]
  unfold sx
  rw [if_neg (by omega:¬ k = qn n m)]
  by_cases e:k + 1 = qn n m
  . rw [if_pos e]
    have hk:k * m = (qn n m - 1) * m:=by rw [<- e];simp
    split
    . rename_i c
      obtain ⟨_,c1,c2,c3⟩:=c
      have:1 * m <= k * m:=Nat.mul_le_mul_right _ (by omega)
      omega
    . rename_i c
      by_cases q1:1 < qn n m
      . have:¬ n = (qn n m - 1) * m + 1:=fun z=>c ⟨rfl,q1,z,e⟩
        omega
      . have:k = 0:=by omega
        subst this;omega
  . rw [if_neg e]
    have:¬ (True /\ 1 < qn n m /\ n = (qn n m - 1) * m + 1 /\ k + 1 = qn n m):=fun z=>e z.2.2.2
    rw [if_neg (show ¬ (true = true /\ 1 < qn n m /\ n = (qn n m - 1) * m + 1 /\ k + 1 = qn n m) from fun z=>e z.2.2.2)]
    split <;> omega
section
variable {room:Nat} {L0 L:Lv} {pg:List Pg} {bg:Bg}
theorem ksF (L:Lv) (hf:L.fork = true) (k j:Nat):(Q7 L k).ks[j]? = ((QI L.rows L.m L.fork k)[j + 1]?).map (·.1):=by
  show (((QI L.rows L.m L.fork k).drop (if L.fork then 1 else 0)).map (·.1))[j]? = _
  rw [if_pos hf,List.getElem?_map,List.getElem?_drop,Nat.add_comm 1 j]
theorem Lv.Ok.ksLen (O:L.Ok room) (hf:L.fork = true) {k:Nat} (hk:k < L.q):(Q7 L k).ks.length + 1 = L.s (k + 1) - L.s k /\ 1 <= (Q7 L k).ks.length:=by
  have n2:=O.two hf
  have c:=XL (rows:=L.rows) (m:=L.m) (fork:=L.fork) O.m_pos O.m3 (by omega) hk
  have e:(Q7 L k).ks.length = (QI L.rows L.m L.fork k).length - 1:=by
    show (((QI L.rows L.m L.fork k).drop (if L.fork then 1 else 0)).map (·.1)).length = _
    rw [if_pos hf,List.length_map,List.length_drop]
  have f:L.s k + 2 <= L.s (k + 1):=by
    unfold Lv.s;rw [hf];exact Qff (O.m3 hf) n2 hk
  have c1:(QI L.rows L.m L.fork k).length = L.s (k + 1) - L.s k:=c.1
  omega
theorem Qau (O:L.Ok room) (h2:2 <= L.q):2 * (QT room L).q <= L.q:=by
  have e:(QT room L).q = qn L.q (room + 1):=by show qn (QT room L).rows.length (room + 1) = _;rw [JA]
  obtain ⟨h1,_,h3⟩:=Zf (n:=L.q) (m:=room + 1) (by omega)
  have mx:max 1 L.q = L.q:=by omega
  rw [mx] at h3
  rw [e]
  have r2:=O.room2
  have:(qn L.q (room + 1) - 1) * 3 <= (qn L.q (room + 1) - 1) * (room + 1):=Nat.mul_le_mul_left _ (by omega)
  omega
theorem Pk.base (O:L.Ok room) (h0:L.lv = 0) (hf:L.first = 0):Pk room L (Zr L) (bgL L) L where
  pt:=Pt.base O h0 hf
  ok0:=O
  lf:=fun k h=>⟨J9 h,rfl⟩
  lf0:=fun n p h _=>(QJ h).1
  khi:=fun n p h hl=>by
    obtain ⟨_,rfl⟩:=QJ h
    exact absurd (show 0 < L.lv from hl) (by omega)
  ne:=fun n p h hl=>by
    obtain ⟨_,rfl⟩:=QJ h
    exact absurd (show 0 < L.lv from hl) (by omega)
  small:=by rw [h0];simp
  lv0:=h0
  first0:=hf
theorem Pk.next (P:Pk room L0 pg bg L) (h2:2 <= L.q):Pk room L0 (pg ++ Zr (QT room L)) (bgN pg.length bg (QT room L)) (QT room L):=by
  have Q:=P.pt.next h2
  have len:=P.pt.len
  have O':=P.pt.ok.next h2
  have nf:(QT room L).first = pg.length:=by show L.first + L.q = _;omega
  have n1:1 <= (QT room L).rows.length:=by rw [JA];omega
  have go:∀ {n p},pg[n]? = some p -> (pg ++ Zr (QT room L))[n]? = some p:=fun {n p} h=>by
    rw [List.getElem?_append_left (List.getElem?_eq_some_iff.mp h).1];exact h
  have cs:∀ {n p},(pg ++ Zr (QT room L))[n]? = some p -> (n < pg.length /\ pg[n]? = some p) ∨ ∃ k,k < (QT room L).q /\ n = (QT room L).first + k /\ p = Q7 (QT room L) k:=fun {n p} h=>by
    by_cases c:n < pg.length
    . rw [List.getElem?_append_left c] at h;exact .inl ⟨c,h⟩
    . rw [List.getElem?_append_right (by omega)] at h
      obtain ⟨a,b⟩:=QJ h
      exact .inr ⟨n - pg.length,a,by omega,b⟩
  refine ⟨Q,P.ok0,fun k h=>?_,fun n p h hl=>?_,fun n p h hl j x hx=>?_,fun n p h hl=>?_,?_,P.lv0,P.first0⟩
  . obtain ⟨a,b⟩:=P.lf k h
    refine ⟨go a,?_⟩
    unfold bgN;rw [if_pos (List.getElem?_eq_some_iff.mp a).1];exact b
  . rcases cs h with ⟨c,h⟩ | ⟨k,a,b,rfl⟩
    . exact P.lf0 n p h hl
    . exact absurd (show L.lv + 1 = 0 from hl) (by omega)
  . rcases cs h with ⟨c,h⟩ | ⟨k,a,b,rfl⟩
    . obtain ⟨cc,q,a1,a2,a3⟩:=P.khi n p h hl j x hx
      exact ⟨cc,q,a1,go a2,a3⟩
    . have hx:((QI (QT room L).rows (QT room L).m (QT room L).fork k).map (·.2))[j]? = some x:=hx
      rw [List.getElem?_map] at hx
      obtain ⟨r,hr,rfl⟩:=Option.map_eq_some_iff.mp hx
      obtain ⟨b1,b2⟩:=chunk_get.mp hr
      obtain ⟨c1,rfl⟩:=nextL_get.mp b2
      obtain ⟨d1,d2⟩:=P.pt.top ((QT room L).s k + j) c1
      refine ⟨L.first + ((QT room L).s k + j),Q7 L ((QT room L).s k + j),rfl,go d1,?_⟩
      obtain ⟨k1,k2⟩:=O'.ksLen rfl a
      show (if (QT room L).s k + j + 1 = L.q then none else some (X1 L.rows L.m L.fork ((QT room L).s k + j + 1))) = _
      by_cases cj:j < (Q7 (QT room L) k).ks.length
      . rw [if_pos cj,ksF _ rfl]
        have le:=O'.s_le n1 (k:=k + 1) (by omega)
        rw [JA] at le
        have e:(QI (QT room L).rows (QT room L).m (QT room L).fork k)[j + 1]? = some (X1 L.rows L.m L.fork ((QT room L).s k + (j + 1)),((L.first + ((QT room L).s k + (j + 1)):Nat):Int)):=chunk_get.mpr ⟨by omega,nextL_get.mpr ⟨by omega,rfl⟩⟩
        rw [e,if_neg (by omega)];rfl
      . rw [if_neg cj]
        have ij:(QT room L).s k + j + 1 = (QT room L).s (k + 1):=by omega
        rw [ij]
        show _ = if k + 1 = (QT room L).q then none else some (X1 (QT room L).rows (QT room L).m (QT room L).fork (k + 1))
        by_cases ek:k + 1 = (QT room L).q
        . have:=(QT room L).s_end
          rw [<- ek,JA] at this
          rw [if_pos ek,if_pos this]
        . have lt:=O'.s_mono_lt n1 (i:=k + 1) (j:=(QT room L).q) (by omega) (Nat.le_refl _)
          rw [(QT room L).s_end,JA] at lt
          rw [if_neg ek,if_neg (by omega)]
          obtain ⟨r',e1,e2⟩:=O'.beg n1 (k:=k + 1) (by omega)
          obtain ⟨_,rfl⟩:=nextL_get.mp e1
          rw [e2]
  . rcases cs h with ⟨c,h⟩ | ⟨k,a,b,rfl⟩
    . exact P.ne n p h hl
    . exact (O'.ksLen rfl a).2
  . have a:=P.small
    have b:=Qau P.pt.ok h2
    show 2 ^ (L.lv + 1) * _ <= _
    rw [Nat.pow_succ,Nat.mul_assoc]
    exact Nat.le_trans (Nat.mul_le_mul_left _ b) a
def xk (room:Nat):Nat -> Lv -> List Pg -> List Pg
  | 0,_,P=>P
  | k + 1,L,P=>if L.q <= 1 then P else xk room k (QT room L) (P ++ Zr (QT room L))
theorem Pk.all:∀ (k:Nat) {L:Lv} {pg:List Pg} {bg:Bg},Pk room L0 pg bg L -> L.q <= k + 1 -> ∃ bg' L',Pk room L0 (xk room k L pg) bg' L' /\ L'.q = 1
  | 0,L,pg,bg,P,h=>⟨bg,L,P,by have:=P.pt.ok.q1;omega⟩
  | k + 1,L,pg,bg,P,h=>by
    have q1:=P.pt.ok.q1
    unfold xk
    by_cases c:L.q <= 1
    . rw [if_pos c];exact ⟨bg,L,P,by omega⟩
    . rw [if_neg c]
      have:=Qau P.pt.ok (by omega)
      exact Pk.all k (P.next (by omega)) (by omega)
end
section
variable {room:Nat} {L0 L:Lv} {pg:List Pg} {bg:Bg} {n:Nat} {p:Pg} {key:Int}
theorem Pk.step (P:Pk room L0 pg bg L) (hn:pg[n]? = some p) (h0:0 < p.lv) (h1:leB (bg n) key) (h2:ltH key p.hi):∃ (c:Nat) (q:Pg),p.ps[cLe p.ks key]? = some (c:Int) /\ pg[c]? = some q /\ q.lv + 1 = p.lv /\ leB (bg c) key /\ ltH key q.hi:=by
  have O:=P.pt.page n p hn
  have pl:=O.parts
  rw [if_neg (by omega)] at pl
  have cl:cLe p.ks key <= p.ks.length:=List.length_filter_le _ _
  obtain ⟨x,hx⟩:∃ x,p.ps[cLe p.ks key]? = some x:=⟨_,List.getElem?_eq_getElem (by omega)⟩
  obtain ⟨c,q,rfl,a1,a2,a3⟩:=P.pt.kid n p hn h0 _ x hx
  obtain ⟨c',q',e,b1,b2⟩:=P.khi n p hn h0 _ _ hx
  have:c = c':=by omega
  subst this
  rw [a1] at b1;cases b1
  refine ⟨c,q,hx,a1,a2,fun v hv=>?_,fun v hv=>?_⟩
  . rw [a3] at hv
    cases e:cLe p.ks key with
    | zero=>rw [e] at hv;exact h1 v hv
    | succ j=>rw [e] at hv;exact (QaP O.sorted hv).mp (by omega)
  . rw [b2] at hv
    split at hv
    . have:=mt (QaP O.sorted hv (k:=key)).mpr (by omega)
      omega
    . exact h2 v hv
theorem Qa3 (O:L0.Ok room) (h0:L0.lv = 0) (k:Nat):prs (Q7 L0 k) = QI L0.rows L0.m L0.fork k:=by
  have f:L0.fork = false:=by cases e:L0.fork with | false=>rfl | true=>have:=O.fk.mp e;omega
  show (((QI L0.rows L0.m L0.fork k).drop (if L0.fork then 1 else 0)).map (·.1)).zip ((QI L0.rows L0.m L0.fork k).map (·.2)) = _
  rw [f]
  show (((QI L0.rows L0.m false k).drop 0).map (·.1)).zip ((QI L0.rows L0.m false k).map (·.2)) = _
  rw [List.drop_zero]
  generalize QI L0.rows L0.m false k = c
  induction c with
  | nil=>rfl
  | cons a b ih=>rw [List.map_cons,List.map_cons,List.zip_cons_cons,ih]
theorem G8 (O:L0.Ok room) {k:Nat} (h:k < L0.q):L0.rows.take (L0.s k) ++ QI L0.rows L0.m L0.fork k = L0.rows.take (L0.s (k + 1)):=by
  have le:L0.s k <= L0.s (k + 1):=by
    by_cases n1:1 <= L0.rows.length
    . exact Nat.le_of_lt (O.s_lt n1 h)
    . have r0:L0.rows = []:=List.length_eq_zero_iff.mp (by omega)
      have q1:L0.q = 1:=by
        obtain ⟨h1,h2,h3⟩:=Zf (n:=L0.rows.length) O.m_pos
        have hq:qn L0.rows.length L0.m = L0.q:=rfl
        rw [hq] at h1 h2 h3
        have:(L0.q - 1) * 1 <= (L0.q - 1) * L0.m:=Nat.mul_le_mul_left _ O.m_pos
        omega
      have:k = 0:=by omega
      subst this
      have:L0.s 0 = 0:=jw O.m_pos _
      omega
  show L0.rows.take (L0.s k) ++ (L0.rows.drop (L0.s k)).take (L0.s (k + 1) - L0.s k) = _
  rw [show L0.s (k + 1) = L0.s k + (L0.s (k + 1) - L0.s k) by omega,List.take_add,Nat.add_sub_cancel_left]
end
end TP
namespace TP
open TR
structure Px (pg:List Pg) (L:Lv):Prop where
  len:pg.length = L.first + L.q
  side:∀ (n:Nat) (p:Pg),pg[n]? = some p -> ∀ s,p.sd = some s -> s = n + 1
  mono:∀ (n m:Nat) (p q:Pg),pg[n]? = some p -> pg[m]? = some q -> p.lv < q.lv -> n < m
  le:∀ (n:Nat) (p:Pg),pg[n]? = some p -> p.lv <= L.lv
section
variable {room:Nat} {L:Lv} {pg:List Pg}
theorem x6 {k s:Nat} (h:(Q7 L k).sd = some s):s = L.first + k + 1:=by
  have h:(if k + 1 = L.q then none else some (L.first + (k + 1))) = some s:=h
  split at h
  . cases h
  . have:=Option.some.inj h;omega
theorem Px.base (hf:L.first = 0):Px (Zr L) L where
  len:=by rw [hf];simp [Zr]
  side:=fun n p h s hs=>by
    obtain ⟨_,rfl⟩:=QJ h
    have:=x6 hs
    omega
  mono:=fun n m p q hn hm hl=>by
    obtain ⟨_,rfl⟩:=QJ hn
    obtain ⟨_,rfl⟩:=QJ hm
    exact absurd hl (Nat.lt_irrefl _)
  le:=fun n p h=>by
    obtain ⟨_,rfl⟩:=QJ h
    exact Nat.le_refl _
theorem Px.next (P:Px pg L):Px (pg ++ Zr (QT room L)) (QT room L):=by
  have len:=P.len
  have nf:(QT room L).first = pg.length:=by show L.first + L.q = _;omega
  have cs:∀ {n p},(pg ++ Zr (QT room L))[n]? = some p -> (n < pg.length /\ pg[n]? = some p) ∨ ∃ k,k < (QT room L).q /\ n = (QT room L).first + k /\ p = Q7 (QT room L) k:=fun {n p} h=>by
    by_cases c:n < pg.length
    . rw [List.getElem?_append_left c] at h;exact .inl ⟨c,h⟩
    . rw [List.getElem?_append_right (by omega)] at h
      obtain ⟨a,b⟩:=QJ h
      exact .inr ⟨n - pg.length,a,by omega,b⟩
  refine ⟨by rw [List.length_append,nf];simp [Zr],fun n p h s hs=>?_,fun n m p q hn hm hl=>?_,fun n p h=>?_⟩
  . rcases cs h with ⟨c,h⟩ | ⟨k,a,b,rfl⟩
    . exact P.side n p h s hs
    . have:=x6 hs
      omega
  . rcases cs hn with ⟨c,h⟩ | ⟨k,a,b,rfl⟩
    . rcases cs hm with ⟨c',h'⟩ | ⟨k',a',b',rfl⟩
      . exact P.mono n m p q h h' hl
      . omega
    . rcases cs hm with ⟨c',h'⟩ | ⟨k',a',b',rfl⟩
      . have:=P.le m q h'
        have hl:L.lv + 1 < q.lv:=hl
        omega
      . exact absurd hl (Nat.lt_irrefl _)
  . rcases cs h with ⟨c,h⟩ | ⟨k,a,b,rfl⟩
    . exact Nat.le_succ_of_le (P.le n p h)
    . exact Nat.le_refl _
theorem Px.all:∀ (k:Nat) {L:Lv} {pg:List Pg},Px pg L -> ∃ L',Px (xk room k L pg) L'
  | 0,L,pg,P=>⟨L,P⟩
  | k + 1,L,pg,P=>by
    unfold xk
    by_cases c:L.q <= 1
    . rw [if_pos c];exact ⟨L,P⟩
    . rw [if_neg c];exact Px.all k P.next
end
section
variable {room:Nat} {L0 L:Lv} {pg:List Pg} {bg:Bg}
theorem Pk.tree (P:Pk room L0 pg bg L) (q1:L.q = 1):Tree ⟨room,pg,pg.length - 1,0,0⟩ bg /\ pg[pg.length - 1]? = some (Q7 L 0) /\ (Q7 L 0).lv = L.lv:=by
  have len:=P.pt.len
  obtain ⟨t1,t2⟩:=P.pt.top 0 (by omega)
  have e:L.first + 0 = pg.length - 1:=by omega
  rw [e] at t1 t2
  exact ⟨⟨P.pt.ok.room2,⟨_,t1,fun n p h=>(P.pt.lvl n p h).1⟩,t2,P.pt.page,P.pt.link,P.pt.kid,P.pt.dis,P.pt.pred⟩,t1,rfl⟩
theorem Pk.told' (P:Pk room L0 pg bg L):∀ (c:Nat) (q:Pg),pg[c]? = some q -> q.lv < L.lv -> ∃ (m:Nat) (f:Pg),pg[m]? = some f /\ f.lv = q.lv + 1 /\ (c:Int) ∈ f.ps:=fun c q hc hl=>by
  obtain ⟨m,f,h1,h2,h3⟩:=P.pt.told c q hc hl
  obtain ⟨j,hj⟩:=List.mem_iff_getElem?.mp h3
  obtain ⟨c',q',e,a1,a2,_⟩:=P.pt.kid m f h1 h2 j _ hj
  have:c = c':=by omega
  subst this
  rw [hc] at a1;cases a1
  exact ⟨m,f,h1,a2.symm,h3⟩
end
theorem yv:∀ (n:Nat) (l:List Nat),l.Pairwise (· < ·) -> (∀ x,x ∈ l ↔ x < n) -> l = List.range n:=by
  intro n l h1 h2
  have p:l.Perm (List.range n):=(List.perm_ext_iff_of_nodup (h1.imp fun h=>Nat.ne_of_lt h) List.nodup_range).mpr fun x=>by rw [h2,List.mem_range]
  exact p.eq_of_pairwise (fun a b _ _ hab hba=>absurd hab (Nat.lt_asymm hba)) h1 List.pairwise_lt_range
end TP
namespace D
open PySem PySem.Spec PyProof.Rows L2
section
variable {prog:Program} {w:World} {A:Around} {E:Value -> Shared -> Prop} {s:Shared}
end
section
variable {prog:Program} {w:World} {K:Type} [DecidableEq K] {knd:KeyKind prog w K} {A:Around} {R:Result -> Shared -> Prop}
end
section
variable {prog:Program} {w:World} {K:Type} [DecidableEq K] {knd:KeyKind prog w K} {A:Around} {E:Value -> Shared -> Prop} {s:Shared}
end
section
variable {X:Cx}
def lsG:DV -> M (List DV)
  | .lst ds=>pure ds
  | .ref n=>do
    match <- Zi n with
    | .lst ds=>pure ds
    | _=>failure
  | _=>failure
theorem xP {d:DV} {ds:List DV} {hp hp':Hs} {K:PySem.W.Frag} {ρ:List Addr} {B:Addr -> Prop} {H:Hp} {v:V} (W:WOk K ρ B hp H) (r:RepV K ρ B H d v) (h:lsG d hp = some (ds,hp')):hp = hp' /\ ∃ p xs,v = .ref p /\ SqL K H p xs /\ RepL K ρ B H ds xs:=by
  cases d with
  | lst xs =>
    obtain ⟨rfl,rfl⟩:=Qg h
    obtain ⟨a,ys,rfl,_,sq,l⟩:=r.lstI
    exact ⟨rfl,a,ys,rfl,sq,l⟩
  | ref n =>
    obtain ⟨o,hp1,e1,e2⟩:=Qe (show (Zi n >>= fun o=>(match o with | .lst ds=>pure ds | _=>failure:M (List DV))) hp = some (ds,hp') from h)
    obtain ⟨e3,rfl⟩:=Zo e1
    cases o with
    | lst zs =>
      obtain ⟨rfl,rfl⟩:=Qg e2
      obtain ⟨a,rfl,_,ys,h1,l1⟩:=RepV.refW W r e3
      exact ⟨rfl,a,ys,rfl,SqL.of h1,l1⟩
    | dic _=>cases e2
    | ins _ _=>cases e2
  | non=>cases h
  | bl _=>cases h
  | int _=>cases h
  | str _=>cases h
  | tup _=>cases h
def opM (o:Option α):M α:=match o with
  | some a=>pure a
  | none=>failure
theorem Qaw {o:Option α} {a:α} {hp hp':Hs} (h:opM o hp = some (a,hp')):o = some a /\ hp = hp':=by
  cases o with
  | none=>cases h
  | some z=>obtain ⟨rfl,rfl⟩:=Qg h;exact ⟨rfl,rfl⟩
end
end D
namespace D
open PySem PySem.Spec PyProof.Rows L2
def blM:List DV -> Option (List Bool)
  | []=>some []
  | .bl b :: r=>(blM r).map (b :: ·)
  | _=>none
def vA:List DV -> M DV:=QcV fun d=>do
  let ds <- lsG d
  let bs <- opM (blM ds)
  pure (.bl (bs.all id))
section
variable {prog:Program} {w:World} {A:Around} {E:Value -> Shared -> Prop} {s:Shared}
theorem gy (bs:List Bool):(List.range bs.length).all (fun i=>bs.getD i false) = bs.all id:=by
  induction bs with
  | nil=>rfl
  | cons b bs ih =>
    rw [List.length_cons,List.range_succ_eq_map,List.all_cons,List.all_map,List.all_cons,<- ih]
    rfl
theorem Vf {l:Addr} {items:Array Value} {bs:List Bool} {Q:Value -> Shared -> Prop} (hh:A.handled = none) (hl:s.heap.IsList l items) (hlen:items.size = bs.length) (hb:∀ (i:Nat) (v:Value),items[i]? = some v -> v = .bool (bs.getD i false))
    (h:∀ h' tk,(∀ b o,s.heap.get? b = some o -> h'.get? b = some o) -> Q (.bool (bs.all id)) { s with heap:=h',toks:=tk }):wpAny (model prog w) A (call (.builtin "all") [.ref l]) Q E s:=by
  refine call_all_walk (wpAny_pyIter_list hl ?_)
  have hne:l ≠ s.heap.objs.size:=fun e=>by
    obtain ⟨o,ho,_⟩:=hl
    exact Nat.lt_irrefl _ (e ▸ Heap.lt_size ho)
  refine ⟨s.heap.objs.size,_,_,_,_,_,fun i=>bs.getD i false,rfl,Walks.list (by exact hh) s.heap.objs.size l hne items,?_,fun i v s' Q' E' hP hQ=>?_,fun h' tk hk=>?_⟩
  . exact ⟨⟨_,Heap.get?_push_size _ rfl,rfl,rfl⟩,hl.push _⟩
  . have:v = .bool (bs.getD i false):=hb i v hP
    subst this
    exact wpAny_pure hQ
  . rw [hlen,gy]
    refine h h' tk fun b o e=>hk b o (fun z=>?_) (Heap.get?_push_of_some _ e)
    have:b = s.heap.objs.size:=by simpa using z
    exact Nat.lt_irrefl _ (this ▸ Heap.lt_size e)
end
section
variable {X:Cx}
theorem QbQ {K:PySem.W.Frag} {ρ:List Addr} {B:Addr -> Prop} {H:Hp}:∀ {ds:List DV} {bs:List Bool} {ys:List V} {its:List Value},blM ds = some bs -> RepL K ρ B H ds ys -> Vals ys its -> its.length = bs.length /\ ∀ (i:Nat) (v:Value),its[i]? = some v -> v = .bool (bs.getD i false):=by
  intro ds
  induction ds with
  | nil =>
    intro bs ys its h r v
    cases h
    unfold RepL at r;subst r
    cases v
    exact ⟨rfl,fun i v h=>by simp at h⟩
  | cons d ds ih =>
    intro bs ys its h r v
    unfold RepL at r
    obtain ⟨y,ys',rfl,r1,r2⟩:=r
    cases v with
    | @cons _ u _ us v1 v2 =>
    cases d <;> first | (simp [blM] at h;done) | skip
    rename_i b
    have h:(blM ds).map (b :: ·) = some bs:=h
    obtain ⟨bs',h1,rfl⟩:=Option.map_eq_some_iff.mp h
    obtain ⟨a1,a2⟩:=ih h1 r2 v2
    unfold RepV at r1
    subst r1
    cases v1
    refine ⟨by simp [a1],fun i v hv=>?_⟩
    cases i with
    | zero=>cases hv;rfl
    | succ i=>exact a2 i v hv
theorem QaG (hc:X.calm = true):CallR X (.builtin "all") (tPn X.K vA):=by
  intro pins s σ H xs us Q I r h
  obtain ⟨ρ,B,hp,ds,d,hp',W,rl,e,k⟩:=h
  obtain ⟨x,rfl,e⟩:=Vz e
  obtain ⟨zs,hp1,e1,e2⟩:=Qe e
  obtain ⟨bs,hp2,e3,e4⟩:=Qe e2
  obtain ⟨e5,rfl⟩:=Qaw e3
  obtain ⟨rfl,rfl⟩:=Qg e4
  obtain ⟨v,rfl,rv⟩:=rl.oneI
  obtain ⟨rfl,p,ys,rfl,sq,l⟩:=xP W rv e1
  obtain ⟨u,rfl,rx⟩:=Ki r
  cases rx
  obtain ⟨its,r',pl,hz⟩:=I.list sq
  obtain ⟨a1,a2⟩:=QbQ e5 l r'
  refine Vf (bs:=bs) (I.ok.hd hc) pl.isList (by simpa using a1) (fun i v h=>a2 i v (by simpa using h)) fun h' tk kp=>?_
  exact ⟨.bl (bs.all id),H,I.kept (t':=tk) kp,rfl,k _ ρ B H Gr.refl W (by unfold RepV;rfl)⟩
end
end D
namespace L2
open PySem PySem.Spec PyProof.Rows
theorem GQ:typeLookup (.type "zip") "__len__" = pure none:=am_miss_of_fast (by decide +kernel)
theorem Gm:typeLookup (.type "zip") "__length_hint__" = pure none:=am_miss_of_fast (by decide +kernel)
section
variable {X:Cx} {pins:List (Addr × Obj)} {σ:L2.St}
def PrsAt (H0 H:Hp) (xs ys:List V) (ts:List V):Prop:=∀ (m:Nat) (t:V),ts[m]? = some t -> ∃ (a:Addr) (x y:V),t = .ref a /\ xs[m]? = some x /\ ys[m]? = some y /\ H0 a = none /\ H a = some (.tup [x,y])
theorem PrsAt.grow {H0 H H':Hp} {xs ys ts:List V} (h:PrsAt H0 H xs ys ts) (k:∀ a o,(∀ l,o ≠ .lst l) -> H a = some o -> H' a = some o):PrsAt H0 H' xs ys ts:=fun m t ht=>by
  obtain ⟨a,x,y,e,h1,h2,h3,h4⟩:=h m t ht
  exact ⟨a,x,y,e,h1,h2,h3,k a _ (fun l=>by simp) h4⟩
theorem Qc2 {A:Around} {R:Result -> Shared -> Prop} {H0:Hp} {z p o i j a b S:Addr} {xs ys:List V} {res:Value} (hh:A.handled = none) (D:ZA z p o i j a b) (qa:SqT X.K H0 a xs) (qb:SqT X.K H0 b ys) (hS0:H0 S = none) (hSz:S ∉ [z,p,o,i,j]) :
    ∀ (k n : Nat) (s : Shared) (H : Hp) (ts : List V), min xs.length ys.length - n = k -> n <= min xs.length ys.length -> Inv X pins σ H s -> (∀ c ∈ [z, p, o, i, j], xB X pins H c) -> ZU s.heap z p o i j a b n -> (∀ c q, H0 c = some q -> H c = some q) ->
      H S = some (.lst ts) -> ts.length = n -> PrsAt H0 H xs ys ts ->
      (∀ (s':Shared) (H':Hp) (ts':List V),Inv X pins σ H' s' -> (∀ c q,H0 c = some q -> H' c = some q) -> H' S = some (.lst ts') -> ts'.length = min xs.length ys.length -> PrsAt H0 H' xs ys ts' -> R (.ok (.ret res)) s') ->
    codeAny (model X.prog X.w) A (.builtin "list.extend.loop" ⟨[.ref S,.ref z,res],[]⟩) R s:=by
  intro k
  induction k with
  | zero =>
    intro n s H ts hk hn I hf Z kp hS hl hP hR
    have sq:∀ {c:Addr} {vs:List V},SqT X.K H0 c vs -> SqT X.K H c vs:=fun {c vs} q=>by
      rcases q with q | q
      . exact .inl (by rcases q with q | ⟨oo,q⟩;exact .inl (kp _ _ q);exact .inr ⟨oo,kp _ _ q⟩)
      . exact .inr q
    obtain ⟨ia,ra,pa,_⟩:=I.tuple (sq qa)
    obtain ⟨ib,rb,pb,_⟩:=I.tuple (sq qb)
    have l1:=ra.length
    have l2:=rb.length
    obtain ⟨f0,fl0,zz0,hf0⟩:=Z.zz
    have hT:s.TypeIs (.ref z) "zip" := ⟨_,zz0,rfl⟩
    refine codeAny_builtin F.entry_extend_loop ?_
    rw [Around.under_plainId F.plain_extend_loop _]
    show wpAny _ A.in1 (pyNext (.ref z) >>= _) _ _ s
    refine wpAny_bind ?_
    unfold pyNext
    refine wpAny_bind (wpAny_attempt (wpAny_callSpecial?_slot (name:=Str.ofString "__next__") hT F.slot_zip_next (wpAny_call_entry F.slot_zip_next hT F.entry_zip_next
      (ue (by exact hh) D Z (show s.heap.IsTuple a ia.toArray from pa) (show s.heap.IsTuple b ib.toArray from pb) (by rcases Nat.le_total xs.length ys.length with q | q;exact .inl (by simp;omega);exact .inr (by simp;omega)) fun g x kp' hx=>?_) (F.args_zip_next_1 _))))
    obtain ⟨ox,h1,h2⟩:=hx
    refine wpAny_bind (wpAny_isInstance (T := "StopIteration") (b:=true) ⟨ox,h1,h2⟩ isSubtype_stop ?_)
    refine wpAny_pure ?_
    refine wpAny_pure (hR _ H ts (I.turnL (t':=s.toks) hf fun c q hc e=>?_) kp hS (by omega) hP)
    simp only [List.mem_cons,List.not_mem_nil,or_false,not_or] at hc
    exact kp' c q hc.1 hc.2.2.1 hc.2.2.2.1 hc.2.2.2.2 e
  | succ k ih =>
    intro n s H ts hk hn I hf Z kp hS hl hP hR
    have sq:∀ {c:Addr} {vs:List V},SqT X.K H0 c vs -> SqT X.K H c vs:=fun {c vs} q=>by
      rcases q with q | q
      . exact .inl (by rcases q with q | ⟨oo,q⟩;exact .inl (kp _ _ q);exact .inr ⟨oo,kp _ _ q⟩)
      . exact .inr q
    obtain ⟨ia,ra,pa,za⟩:=I.tuple (sq qa)
    obtain ⟨ib,rb,pb,_⟩:=I.tuple (sq qb)
    have hx:xs[n]? = some xs[n]:=List.getElem?_eq_getElem (by omega)
    have hy:ys[n]? = some ys[n]:=List.getElem?_eq_getElem (by omega)
    obtain ⟨u,hu,ru⟩:=ra.get hx
    obtain ⟨v,hv,rv⟩:=rb.get hy
    obtain ⟨f0,fl0,zz0,hf0⟩:=Z.zz
    have hT:s.TypeIs (.ref z) "zip" := ⟨_,zz0,rfl⟩
    refine codeAny_builtin F.entry_extend_loop ?_
    rw [Around.under_plainId F.plain_extend_loop _]
    show wpAny _ A.in1 (pyNext (.ref z) >>= _) _ _ s
    refine wpAny_bind ?_
    unfold pyNext
    refine wpAny_bind (wpAny_attempt (wpAny_callSpecial?_slot (name:=Str.ofString "__next__") hT F.slot_zip_next (wpAny_call_entry F.slot_zip_next hT F.entry_zip_next
      (ud D Z (show s.heap.IsTuple a ia.toArray from pa) (show s.heap.IsTuple b ib.toArray from pb) (by simpa using hu) (by simpa using hv) fun g' S' tp sz kp0=>wpAny_pure ?_) (F.args_zip_next_1 _))))
    have kp':∀ c q,c ∉ [z,p,o,i,j] -> s.heap.get? c = some q -> g'.get? c = some q:=fun c q hc e=>by
      simp only [List.mem_cons,List.not_mem_nil,or_false,not_or] at hc
      exact kp0 c q hc.1 hc.2.2.1 hc.2.2.2.1 hc.2.2.2.2 e
    have ne:∀ c ∈ [z,p,o,i,j],c ≠ s.heap.objs.size:=fun c hc e=>by
      obtain ⟨_,pp,⟨u1,u2,oo⟩,⟨oi,ei,_⟩,⟨oj,ej,_⟩⟩:=Z
      simp only [List.mem_cons,List.not_mem_nil,or_false] at hc
      rcases hc with rfl | rfl | rfl | rfl | rfl
      . exact Nat.ne_of_lt (Heap.lt_size zz0) e
      . exact Nat.ne_of_lt (Heap.lt_size pp) e
      . exact Nat.ne_of_lt (Heap.lt_size oo) e
      . exact Nat.ne_of_lt (Heap.lt_size ei) e
      . exact Nat.ne_of_lt (Heap.lt_size ej) e
    have fr:=I.fresh
    have I1:=I.turnNew (t':=s.toks) hf kp' (us:=[u,v]) (.cons ru (.cons rv .nil)) (show 2 <= sizeLine by decide) ⟨_,tp,rfl,_,rfl⟩
    have hSs:S ≠ s.heap.objs.size:=fun e=>by rw [e,fr] at hS;cases hS
    have hS1:upd H s.heap.objs.size (.tup [xs[n],ys[n]]) S = some (.lst ts):=by rw [QE hSs];exact hS
    obtain ⟨zl,its,c,vl,ll,e1⟩:=I1.lstM hS1
    have hz':(ts ++ [V.ref s.heap.objs.size]).length <= sizeLine:=by rw [List.length_append];simp;omega
    have I2:=I1.lset (t':=s.toks) (its':=its ++ [.ref s.heap.objs.size]) (f:=(·.push (.ref s.heap.objs.size))) hS1 e1 (by simp) (vl.append (.cons (show RelV (V.ref s.heap.objs.size) (Value.ref s.heap.objs.size) from rfl) .nil)) hz'
    show wpAny _ A.in1 (updateSeq S (·.push (.ref s.heap.objs.size)) >>= _) _ _ _
    refine wpAny_bind ?_
    refine wpAny_updateSeq (s:={ s with heap:=g' }) e1 rfl (wpAny_pure ⟨plainId_quiet F.plain_extend_loop _,ih (n + 1) _ _ (ts ++ [.ref s.heap.objs.size]) (by omega) (by omega) I2 (fun c hc=>?_) (S'.at fun c hc q e=>?_) (fun c q e=>?_) QR (by rw [List.length_append];simp;omega) ?_ hR⟩) (by simp;omega) (by simp;omega)
    . have f:=hf c hc
      refine ⟨?_,f.2⟩
      rw [QE (show c ≠ S from fun e=>hSz (e ▸ hc)),QE (ne c hc)];exact f.1
    . exact (Heap.get?_update_other _ _ (fun h:S = c=>hSz (h ▸ hc))).trans e
    . rw [QE (fun z=>by rw [z,hS0] at e;cases e),QE (fun z=>by have:=kp c q e;rw [z,fr] at this;cases this)];exact kp c q e
    . intro m t ht
      by_cases hm:m < ts.length
      . rw [List.getElem?_append_left hm] at ht
        obtain ⟨aa,x,y,r1,r2,r3,r4,r5⟩:=hP m t ht
        refine ⟨aa,x,y,r1,r2,r3,r4,?_⟩
        rw [QE (fun z=>by rw [z,hS] at r5;cases r5),QE (fun z=>by rw [z,fr] at r5;cases r5)];exact r5
      . rw [List.getElem?_append_right (by omega)] at ht
        have m0:m - ts.length = 0:=by have:=(List.getElem?_eq_some_iff.mp ht).1;simp at this;omega
        rw [m0] at ht
        cases ht
        have mn:m = n:=by omega
        subst mn
        refine ⟨_,_,_,rfl,hx,hy,?_,?_⟩
        . cases q:H0 s.heap.objs.size with
          | none=>rfl
          | some w=>rw [kp _ _ q] at fr;cases fr
        . rw [QE (Ne.symm hSs),QR]
theorem Qcb {H:Hp} {s:Shared} {E:Value -> Shared -> Prop} {Q:Value -> Shared -> Prop} {z p o i j a b:Addr} {xs ys:List V} (I:Inv X pins σ H s) (hc:X.calm = true) (D:ZA z p o i j a b) (Z:ZU s.heap z p o i j a b 0) (hf:∀ c ∈ [z,p,o,i,j],xB X pins H c)
    (qa:SqT X.K H a xs) (qb:SqT X.K H b ys) (q:∀ (s':Shared) (H':Hp) (ts:List V),Inv X pins σ H' s' -> (∀ c q,H c = some q -> H' c = some q) -> H' s.heap.objs.size = some (.lst ts) -> ts.length = min xs.length ys.length -> PrsAt H H' xs ys ts -> Q (.ref s.heap.objs.size) s') :
    wpAny (model X.prog X.w) X.A (call (.type "list") [.ref z]) Q E s:=by
  have hh:=I.ok.hd hc
  have lts:∀ c ∈ [z,p,o,i,j],c < s.heap.objs.size:=fun c hc=>by
    obtain ⟨⟨f0,fl0,zz0,hf0⟩,pp,⟨u1,u2,oo⟩,⟨oi,ei,_⟩,⟨oj,ej,_⟩⟩:=Z
    simp only [List.mem_cons,List.not_mem_nil,or_false] at hc
    rcases hc with rfl | rfl | rfl | rfl | rfl
    . exact Heap.lt_size zz0
    . exact Heap.lt_size pp
    . exact Heap.lt_size oo
    . exact Heap.lt_size ei
    . exact Heap.lt_size ej
  refine callType_codes (Q₁:=fun obj s₁=>obj = .ref s.heap.objs.size /\ s₁ = { s with heap:=s.heap.push { cls:=.type "list", data:=.seq #[] } }) F.called_list (F.typeCall_list_1 _) F.entry_list_init
    (code_list_new _ ⟨rfl,rfl⟩) fun obj s₁ h₁=>?_
  obtain ⟨rfl,rfl⟩:=h₁
  have hS:(s.heap.push { cls:=.type "list", data:=.seq #[] }).get? s.heap.objs.size = some { cls:=.type "list", data:=.seq #[] }:=Heap.get?_push_size _ rfl
  refine ⟨⟨_,hS,rfl⟩,F.args_list_init_2 _ _,?_⟩
  show wpAny _ _ (do let old <- Builtin.List.listItems (.ref s.heap.objs.size);Builtin.List.listUpdate (.ref s.heap.objs.size) (fun _=>#[]);letGo old.toList.reverse;Builtin.List.listExtendWith (.ref s.heap.objs.size) (.ref z) .none) _ _ _
  refine wpAny_bind ?_
  unfold Builtin.List.listItems
  refine wpAny_bind (wpAny_seqItems hS rfl (wpAny_pure ?_))
  show wpAny _ _ (updateSeq s.heap.objs.size (fun _=>#[]) >>= fun _=>letGo (#[]:Array Value).toList.reverse >>= fun _=>Builtin.List.listExtendWith (.ref s.heap.objs.size) (.ref z) .none) _ _ _
  refine wpAny_bind (wpAny_updateSeq hS rfl ?_)
  have hS₁:=Heap.get?_update_self (Obj.mapSeq (fun _=>(#[]:Array Value))) hS rfl
  refine wpAny_bind (wpAny_letGo ?_)
  have zne:z ≠ s.heap.objs.size:=Nat.ne_of_lt (lts z (by simp))
  obtain ⟨f0,fl0,zz0,hf0⟩:=Z.zz
  have zz1:((s.heap.push { cls:=.type "list", data:=.seq #[] }).update s.heap.objs.size (Obj.mapSeq fun _=>(#[]:Array Value))).get? z = _:=(Heap.get?_update_other _ _ (Ne.symm zne)).trans (Heap.get?_push_of_some _ zz0)
  have hT:∀ (s':Shared),s'.heap = (s.heap.push { cls:=.type "list", data:=.seq #[] }).update s.heap.objs.size (Obj.mapSeq fun _=>(#[]:Array Value)) -> s'.TypeIs (.ref z) "zip" := fun s' e=>⟨_,by rw [e];exact zz1,rfl⟩
  unfold Builtin.List.listExtendWith
  refine wpAny_bind (wpAny_typeOf (hT _ rfl) ?_)
  have h1:Builtin.List.listSameRef (.ref s.heap.objs.size) (.ref z) = false:=by simp [Builtin.List.listSameRef,Ne.symm zne]
  have h2:(Value.type "zip" == Value.type "list") = false:=by decide
  have h3:(Value.type "zip" == Value.type "tuple") = false:=by decide
  simp only [h1,h2,h3,Bool.or_false,Bool.false_eq_true,if_false]
  refine wpAny_bind (wpAny_pyIter_slot (hT _ rfl) F.slot_zip_iter (wpAny_call_entry F.slot_zip_iter (hT _ rfl) F.entry_zip_iter (wpAny_pure ⟨_,rfl, "zip", _,hT _ rfl,(F.slot_zip_next).1,?_⟩) (F.args_zip_iter_1 _)))
  refine wpAny_bind (wpAny_holding ?_)
  unfold Builtin.List.listLengthHint
  refine wpAny_bind (wpAny_specialOf (hT _ rfl) GQ ?_)
  show wpAny _ _ (specialOf (Value.ref z) (Str.ofString "__length_hint__") >>= _) _ _ _
  refine wpAny_bind (wpAny_specialOf (hT _ rfl) Gm ?_)
  refine wpAny_pure ?_
  show wpAny _ _ (rule "list.extend.makes-room" >>= fun _=>Builtin.List.listTouch (.ref s.heap.objs.size) >>= fun _ =>
    again (.builtin "list.extend.loop" ⟨[.ref s.heap.objs.size,.ref z,.none],[]⟩)) _ _ _
  refine wpAny_bind (wpAny_rule ?_)
  refine wpAny_bind ?_
  show wpAny _ _ (updateSeq s.heap.objs.size (·.push .none) >>= fun _=>updateSeq s.heap.objs.size (·.pop)) _ _ _
  refine wpAny_bind (wpAny_updateSeq hS₁ rfl ?_)
  have hS₂:=Heap.get?_update_self (Obj.mapSeq (·.push Value.none)) hS₁ rfl
  refine wpAny_updateSeq (hz:=by seq_fits) hS₂ rfl ?_
  have hS₃:=Heap.get?_update_self (Obj.mapSeq (·.pop)) hS₂ rfl
  have kept:∀ c u,s.heap.get? c = some u -> ((((s.heap.push { cls:=.type "list", data:=.seq #[] }).update s.heap.objs.size (Obj.mapSeq fun _=>(#[]:Array Value))).update s.heap.objs.size (Obj.mapSeq (·.push Value.none))).update s.heap.objs.size (Obj.mapSeq (·.pop))).get? c = some u:=fun c u e=>by
    have ne:s.heap.objs.size ≠ c:=Ne.symm (Nat.ne_of_lt (Heap.lt_size e))
    exact (Heap.get?_update_other _ _ ne).trans ((Heap.get?_update_other _ _ ne).trans ((Heap.get?_update_other _ _ ne).trans (Heap.get?_push_of_some _ e)))
  have I3:=I.laid (a:=s.heap.objs.size) (o:=.lst []) (t':=s.toks) kept (Nat.le_refl _) ⟨by simp,[],_,.nil,hS₃⟩
  refine wpAny_pure ⟨plainId_quiet F.plain_extend_loop _,Qc2 (H0:=H) (by exact hh) D qa qb I.fresh (fun hm=>Nat.lt_irrefl _ (lts _ hm)) _ 0 _ _ [] rfl (Nat.zero_le _) I3 (fun c hc=>?_) (Z.at fun c hc u e=>kept c u e) (fun c u e=>?_) QR rfl (fun m t ht=>by simp at ht) fun s' H' ts' J k1 k2 k3 k4=>⟨rfl,q s' H' ts' J k1 k2 k3 k4⟩⟩
  . have f:=hf c hc
    refine ⟨?_,f.2⟩
    rw [QE (Nat.ne_of_lt (lts c hc))];exact f.1
  . rw [QE (fun z=>by rw [z,I.fresh] at e;cases e)];exact e
theorem QdK {H:Hp} {s:Shared} {E:Value -> Shared -> Prop} {Q:Value -> Shared -> Prop} {a b:Addr} {xs ys:List V} (I:Inv X pins σ H s) (qa:SqT X.K H a xs) (qb:SqT X.K H b ys)
    (k:∀ (s':Shared) (z p o i j:Addr),Inv X pins σ H s' -> ZA z p o i j a b -> ZU s'.heap z p o i j a b 0 -> (∀ c ∈ [z,p,o,i,j],xB X pins H c) -> Q (.ref z) s'):wpAny (model X.prog X.w) X.A (call (.type "zip") [.ref a,.ref b]) Q E s:=by
  obtain ⟨ia,ra,pa,_⟩:=I.tuple qa
  obtain ⟨ib,rb,pb,_⟩:=I.tuple qb
  refine callType_new F.called_zip (by decide) (F.typeCall_zip_2 _ _) (F.newCall_zip_2 _ _) (fun obj=>F.args_object_init_3 obj _ _) F.entry_zip_new (vO a b ia.toArray ib.toArray) ⟨show s.heap.IsTuple a ia.toArray from pa,show s.heap.IsTuple b ib.toArray from pb,?_⟩
  have z1:(zt1 s.heap a).objs.size = s.heap.objs.size + 1:=Heap.size_push ..
  have z2:(zt2 s.heap a b).objs.size = s.heap.objs.size + 2:=by rw [Heap.size_push,z1]
  have z3:(zt3 s.heap a b).objs.size = s.heap.objs.size + 3:=by rw [Heap.size_push,z2]
  have z4:(zt4 s.heap a b).objs.size = s.heap.objs.size + 4:=by rw [Heap.size_push,z3]
  have g5:(zt5 s.heap a b).get? (zt4 s.heap a b).objs.size = some _:=Heap.get?_push_size _ rfl
  have g4:(zt5 s.heap a b).get? (zt3 s.heap a b).objs.size = some _:=Heap.get?_push_of_some _ (Heap.get?_push_size _ rfl)
  have g3:(zt5 s.heap a b).get? (zt2 s.heap a b).objs.size = some _:=Heap.get?_push_of_some _ (Heap.get?_push_of_some _ (Heap.get?_push_size _ rfl))
  have g2:(zt5 s.heap a b).get? (zt1 s.heap a).objs.size = some _:=Heap.get?_push_of_some _ (Heap.get?_push_of_some _ (Heap.get?_push_of_some _ (Heap.get?_push_size _ rfl)))
  have g1:(zt5 s.heap a b).get? s.heap.objs.size = some _:=Heap.get?_push_of_some _ (Heap.get?_push_of_some _ (Heap.get?_push_of_some _ (Heap.get?_push_of_some _ (Heap.get?_push_size _ rfl))))
  show _ /\ _
  have kp:∀ c o,s.heap.get? c = some o -> (zt5 s.heap a b).get? c = some o:=fun c o e=>Heap.get?_push_of_some _ (Heap.get?_push_of_some _ (Heap.get?_push_of_some _ (Heap.get?_push_of_some _ (Heap.get?_push_of_some _ e))))
  refine ⟨⟨_,g5,rfl⟩,?_⟩
  rw [z2,z3,z4] at g5
  rw [z1,z2] at g3
  rw [z3] at g4
  rw [z1] at g2
  rw [z4]
  have la:a < s.heap.objs.size:=by obtain ⟨o,e,_⟩:=pa;exact Heap.lt_size e
  have lb:b < s.heap.objs.size:=by obtain ⟨o,e,_⟩:=pb;exact Heap.lt_size e
  have D:ZA (s.heap.objs.size + 4) (s.heap.objs.size + 2) (s.heap.objs.size + 3) s.heap.objs.size (s.heap.objs.size + 1) a b:=by constructor <;> first | exact Nat.ne_of_lt la | exact Nat.ne_of_lt lb | exact Nat.ne_of_lt (Nat.lt_of_lt_of_le la (Nat.le_add_right _ _)) | exact Nat.ne_of_lt (Nat.lt_of_lt_of_le lb (Nat.le_add_right _ _)) | exact Nat.ne_of_lt (by omega) | exact Nat.ne_of_gt (by omega)
  have I1:Inv X pins σ H { s with heap:=zt5 s.heap a b }:=I.kept (t':=s.toks) kp
  have S:ZU (zt5 s.heap a b) (s.heap.objs.size + 4) (s.heap.objs.size + 2) (s.heap.objs.size + 3) s.heap.objs.size (s.heap.objs.size + 1) a b 0:=⟨⟨_,_,g5,.inl rfl⟩,g3,⟨_,_,g4⟩,⟨_,g1,rfl,rfl⟩,⟨_,g2,rfl,rfl⟩⟩
  refine k { s with heap:=zt5 s.heap a b } _ _ _ _ _ I1 D S fun c hc=>?_
  have hc':s.heap.objs.size <= c:=by
    simp only [List.mem_cons,List.not_mem_nil,or_false] at hc
    rcases hc with rfl | rfl | rfl | rfl | rfl <;> first | exact Nat.le_refl _ | exact Nat.le_add_right _ _
  exact I.fpOk hc' (I.hok.fresh hc')
end
section
variable {X:Cx}
theorem QcL {x y:Expr} {ta:TA} {p p' pos pos':Pos} (hgl:Gl X "list") (hml:X.mg "list" = none) (hg:Gl X "zip") (hm:X.mg "zip" = none) (hc:X.calm = true) (ha:PA X [x,y] ta)
    (hs:starEach [x,y] X.env = [(false,eval x X.env),(false,eval y X.env)]:=by rfl) (hs2:starEach [y] X.env = [(false,eval y X.env)]:=by rfl) (hs3:starEach [.Call (.Name "zip" p') [x,y] [] pos'] X.env = [(false,eval (.Call (.Name "zip" p') [x,y] [] pos') X.env)]:=by rfl) :
    PE X (.Call (.Name "list" p) [.Call (.Name "zip" p') [x,y] [] pos'] [] pos) (fun σ H Q=>ta σ H fun vs H1=>∃ a b xs ys,vs = [.ref a,.ref b] /\ SqT X.K H1 a xs /\ SqT X.K H1 b ys /\
      ∀ (l:Addr) (H':Hp) (ts:List V),H1 l = none -> (∀ c q,H1 c = some q -> H' c = some q) -> H' l = some (.lst ts) -> ts.length = min xs.length ys.length -> PrsAt H1 H' xs ys ts -> Q (.ref l) H'):=by
  intro pins s σ H Q I h
  refine wpAny_Call_Name_kw (Xh I hgl hml boot_list ?_)
  refine PyProof.Rows.callWith_type1 ?_ hs3 rfl
  rw [hs3]
  show wpAny _ _ (spliced ((false,eval (.Call (.Name "zip" p') [x,y] [] pos') X.env) :: [])) _ _ s
  refine Calls.spliced_cons (Call_ (Xh I hg hm boot_zip (PyProof.Rows.callWith_type1 (thn (ha pos' pins s σ H _ I h) fun us s1 ⟨vs,H1,I1,r1,q1⟩=>?_) (by rw [hs,hs2]) (by rw [hs2];rfl))))
  obtain ⟨a,b,xs,ys,e,qa,qb,q⟩:=q1
  subst e
  cases r1 with
  | cons r rr =>
    cases rr with
    | cons r' rr =>
      cases rr
      cases r
      cases r'
      refine QdK I1 qa qb fun s2 z pp o i j I2 D Z hf=>Calls.spliced_nil ?_
      refine Qcb I2 hc D Z hf qa qb fun s3 H3 ts I3 k1 k2 k3 k4=>⟨.ref s2.heap.objs.size,H3,I3,rfl,q _ H3 ts I2.fresh k1 k2 k3 k4⟩
end
end L2
namespace D
open PySem PySem.Spec PyProof.Rows L2
theorem RepL.of_get {K:PySem.W.Frag} {ρ:List Addr} {B:Addr -> Prop} {H:Hp}:∀ {ds:List DV} {ts:List V},ds.length = ts.length -> (∀ (m:Nat) (d:DV) (t:V),ds[m]? = some d -> ts[m]? = some t -> RepV K ρ B H d t) -> RepL K ρ B H ds ts
  | [],[],_,_=>by unfold RepL;rfl
  | [],_ :: _,h,_=>by cases h
  | _ :: _,[],h,_=>by cases h
  | d :: ds,t :: ts,h,f=>by
    unfold RepL
    exact ⟨t,ts,rfl,f 0 d t rfl rfl,RepL.of_get (Nat.succ.inj h) fun m x y h1 h2=>f (m + 1) x y h1 h2⟩
theorem Gr.more {K:PySem.W.Frag} {ρ:List Addr} {B:Addr -> Prop} {H H':Hp} (kp:∀ c q,H c = some q -> H' c = some q):Gr K ρ B H ρ B H' :=
  ⟨List.prefix_rfl,fun _ h=>h,fun _ h=>.inl h,fun _ z=>.inl z,fun a o _ h=>kp a o h,fun a q=>by
    cases e:H a with
    | none=>rfl
    | some o=>rw [kp a o e] at q;cases q⟩
theorem WOk.more {K:PySem.W.Frag} {ρ:List Addr} {B:Addr -> Prop} {hp:Hs} {H H':Hp} (W:WOk K ρ B hp H) (kp:∀ c q,H c = some q -> H' c = some q):WOk K ρ B hp H' where
  len:=W.len
  nd:=W.nd
  obj:=fun i a u e q=>by
    refine ORep.gs ((Gr.more kp).gs W.rb) ?_ (W.obj i a u e q)
    have:=W.bt a (W.rb a (List.mem_of_getElem? e))
    cases z:H a with
    | none=>exact absurd z this
    | some o=>exact kp a o z
  rb:=W.rb
  bt:=fun a h z=>by
    have:=W.bt a h
    cases y:H a with
    | none=>exact this y
    | some o=>rw [kp a o y] at z;cases z
  bk:=W.bk
section
variable {X:Cx} {f g:DEx}
end
end D
namespace L2
open PySem PySem.Spec PyProof.Rows
section
variable {X:Cx}
theorem Qbh {a:Expr} {ta:TA} {p p' pos pos':Pos} (hgt:Gl X "list") (hmt:X.mg "list" = none) (hg:Gl X "range") (hm:X.mg "range" = none) (hc:X.calm = true) (ha:PA X [a] ta)
    (hs:starEach [a] X.env = [(false,eval a X.env)]:=by rfl) (hs3:starEach [.Call (.Name "range" p') [a] [] pos'] X.env = [(false,eval (.Call (.Name "range" p') [a] [] pos') X.env)]:=by rfl) :
    PE X (.Call (.Name "list" p) [.Call (.Name "range" p') [a] [] pos'] [] pos) (fun σ H Q=>ta σ H fun vs H1=>∃ hi:Int,vs = [.int hi] /\ 0 <= hi /\ hi <= 2 ^ 20 /\ ∀ l,H1 l = none -> Q (.ref l) (upd H1 l (.lst ((xG 0 1 hi.toNat).map .int)))):=by
  intro pins s σ H Q I h
  refine wpAny_Call_Name_kw (Xh I hgt hmt boot_list ?_)
  refine PyProof.Rows.callWith_type1 ?_ hs3 rfl
  rw [hs3]
  show wpAny _ _ (spliced ((false,eval (.Call (.Name "range" p') [a] [] pos') X.env) :: [])) _ _ s
  refine Calls.spliced_cons (Call_ (Xh I hg hm boot_range (PyProof.Rows.callWith_type1 (thn (ha pos' pins s σ H _ I h) fun us s1 ⟨vs,H1,I1,r1,q1⟩=>?_) hs rfl)))
  obtain ⟨hi,e,q1,q2,q⟩:=q1
  subst e
  cases r1 with
  | cons r rr =>
    cases rr
    obtain ⟨t,rfl⟩:=r
    refine call_range_1 (Calls.spliced_nil ?_)
    have rc:rcnt hi 1 = hi.toNat:=by unfold rcnt;rw [show hi + 1 - 1 = hi by omega,Int.ediv_one]
    have I2:Inv X pins σ H1 { s1 with heap:=s1.heap.push { cls:=.type "range", data:=.fields #[.int 0 s1.toks,.int hi t,.int 1 (s1.toks + 1)] },toks:=s1.toks + 1 + 1 }:=I1.kept fun b o e=>Heap.get?_push_of_some _ e
    have n20:hi.toNat <= 2 ^ 20:=by omega
    refine call_list_range (n:=hi.toNat) (a:=0) (b:=hi) (c:=1) (I1.ok.hd hc) (IsRange.new ..) (kO (by decide) q1 (Int.lt_of_le_of_lt q2 (by decide)) (by decide)) (by rw [u5 (by decide) q1,rc]) (Nat.le_trans n20 (by decide)) fun h' tk acc c' k hS it=>?_
    have hf:H1 (s1.heap.push { cls:=.type "range", data:=.fields #[.int 0 s1.toks,.int hi t,.int 1 (s1.toks + 1)] }).objs.size = none:=I2.hok.fresh (Nat.le_refl _)
    refine ⟨.ref _,upd H1 _ (.lst ((xG 0 1 hi.toNat).map .int)),I2.laid (t':=tk) k (Nat.le_refl _) ?_,rfl,q _ hf⟩
    exact ⟨by rw [List.length_map];simp only [xG,List.length_map,List.length_range];exact Nat.le_trans n20 (by decide),acc.toList,c',yR it,by simpa using hS⟩
end
end L2
namespace D
open PySem PySem.Spec PyProof.Rows L2
section
variable {X:Cx} {a:Expr}
def Qd4:List DV -> M DV
  | [.int j]=>do QA (decide (0 <= j /\ j <= 100000));pure (.lst (QN 0 j.toNat))
  | _=>failure
def Ka (f:DAx):DEx:=fun env=>do let xs <- f env;Qd4 xs
theorem gh {ds:List DV} {d:DV} {hp hp':Hs} (h:Qd4 ds hp = some (d,hp')):∃ j:Int,ds = [.int j] /\ 0 <= j /\ j <= 100000 /\ d = .lst (QN 0 j.toNat) /\ hp = hp':=by
  unfold Qd4 at h
  split at h
  . obtain ⟨u,hp1,e1,e2⟩:=Qe h
    obtain ⟨h1,rfl⟩:=QB e1
    obtain ⟨rfl,rfl⟩:=Qg e2
    have:=of_decide_eq_true h1
    exact ⟨_,rfl,this.1,this.2,rfl,rfl⟩
  . cases h
theorem Qag {f:DAx} {p p' pos pos':Pos} (hmt:X.mg "list" = none) (hm:X.mg "range" = none) (hc:X.calm = true) (ha:DA X [a] f) (hgt:Gl X "list" := by rfl) (hg:Gl X "range" := by rfl)
    (hs:starEach [a] X.env = [(false,eval a X.env)]:=by rfl) (hs3:starEach [.Call (.Name "range" p') [a] [] pos'] X.env = [(false,eval (.Call (.Name "range" p') [a] [] pos') X.env)]:=by rfl) :
    DE X (.Call (.Name "list" p) [.Call (.Name "range" p') [a] [] pos'] [] pos) (Ka f) :=
  L2.PE.imp (Qbh hgt hmt hg hm hc ha hs hs3) fun σ H Q ⟨Z,env,ρ,B,hp,d,hp',S,e,k⟩=>by
    obtain ⟨xs,hp1,e1,e2⟩:=Qe e
    obtain ⟨hi,rfl,h1,h2,rfl,rfl⟩:=gh e2
    refine tDA.run S e1 fun vs ρ1 B1 H1 g1 S1 r1=>?_
    refine ⟨hi,r1.ints1,h1,Int.le_trans h2 (by decide),?_⟩
    rw [yx] at k
    exact Xx S1.wo (jK _) (k.after g1)
end
end D
namespace D
open PySem PySem.Spec PyProof.Rows L2
section
variable {X:Cx} {e:Expr} {f:DEx} {pos:Pos}
def uw (f:DEx):DEx:=fun env=>do let d <- f env;let ds <- lsG d;pure (.lst ds.reverse)
theorem Qb0 {p2 p3 p4:Pos} {j:Nat} (h:DE X e f):DE X (.Subscript e (.Slice none none (some (.UnaryOp .USub (.Constant (.int 1) j p4) p3)) p2) pos) (uw f) :=
  L2.PE.imp (Qef h) fun σ H Q ⟨Z,env,ρ,B,hp,d,hp',S,e,k⟩=>by
    obtain ⟨x,hp1,e1,e2⟩:=Qe e
    obtain ⟨ds,hp2,e3,e4⟩:=Qe e2
    obtain ⟨rfl,rfl⟩:=Qg e4
    refine tD.run S e1 fun v ρ1 B1 H1 g1 S1 r1=>?_
    obtain ⟨rfl,p,xs,rfl,sq,rl⟩:=xP S1.wo r1 e3
    exact ⟨p,xs,rfl,sq,Xx S1.wo rl.reverse (k.after g1)⟩
def Qa2 (x y:DV):M DV:=do
  let xs <- lsG x
  let ys <- lsG y
  QA (Xs (xs ++ ys))
  pure (.lst (xs ++ ys))
theorem Qd2:P2 X (binaryOp .Add) Qa2:=by
  intro pins s σ H x y v u Q I rx ry h
  obtain ⟨ρ,B,hp,dx,dy,d,hp',W,r1,r2,e,k⟩:=h
  obtain ⟨xs,hp1,e1,e⟩:=Qe e
  obtain ⟨ys,hp2,e2,e⟩:=Qe e
  obtain ⟨_,hp3,e3,e⟩:=Qe e
  obtain ⟨hs,rfl⟩:=QB e3
  obtain ⟨rfl,rfl⟩:=Qg e
  obtain ⟨rfl,a,vs,rfl,sa,la⟩:=xP W r1 e1
  obtain ⟨rfl,b,us,rfl,sb,lb⟩:=xP W r2 e2
  refine u6 pins s σ H _ _ v u Q I rx ry ⟨a,b,vs,us,rfl,rfl,sa,sb,?_,Xx W (la.append lb) k⟩
  have:=of_decide_eq_true hs
  rw [List.length_append,la.length,lb.length] at this
  exact Nat.le_trans this (by decide)
def u0 (f g:DEx):DEx:=fun env=>do
  let ds <- Qab f g env
  Y9 (.lst ds)
def rmv (H:Hp) (l:Addr):Hp:=fun a=>if a = l then none else H a
theorem Qb7 {H:Hp} {l:Addr} {o:HO} (h:H l = some o):upd (rmv H l) l o = H:=by
  funext a
  by_cases e:a = l
  . subst e;rw [QR,h]
  . rw [QE e];unfold rmv;rw [if_neg e]
theorem Qca {x y:Expr} {g:DEx} {p p' pos pos':Pos} (hml:X.mg "list" = none) (hm:X.mg "zip" = none) (hc:X.calm = true) (hx:DE X x f) (hy:DE X y g) (hgl:Gl X "list" := by rfl) (hg:Gl X "zip" := by rfl)
    (hs:starEach [x,y] X.env = [(false,eval x X.env),(false,eval y X.env)]:=by rfl) (hs2:starEach [y] X.env = [(false,eval y X.env)]:=by rfl) (hs3:starEach [.Call (.Name "zip" p') [x,y] [] pos'] X.env = [(false,eval (.Call (.Name "zip" p') [x,y] [] pos') X.env)]:=by rfl) :
    DE X (.Call (.Name "list" p) [.Call (.Name "zip" p') [x,y] [] pos'] [] pos) (u0 f g) :=
  L2.PE.imp (QcL hgl hml hg hm hc (zk hx (zk hy pa_nil (by rw [hs2];rfl)) (by rw [hs,hs2])) hs hs2 hs3).kf fun σ H Q ⟨Z,env,ρ,B,hp,d,hp',S,e,k⟩=>by
    obtain ⟨ds,hp0,e0,e⟩:=Qe e
    cases e
    obtain ⟨d1,hp1,e1,e0⟩:=Qe e0
    obtain ⟨xs,hp2,e2,e0⟩:=Qe e0
    obtain ⟨rfl,rfl⟩:=YA e2
    obtain ⟨d2,hp3,e3,e0⟩:=Qe e0
    obtain ⟨ys,hp4,e4,e0⟩:=Qe e0
    obtain ⟨rfl,rfl⟩:=YA e4
    obtain ⟨rfl,rfl⟩:=Qg e0
    refine tD.run S e1 fun v ρ1 B1 H1 g1 S1 r1=>tD.run S1 e3 fun u ρ2 B2 H2 g2 S2 r2=>?_
    obtain ⟨a,vs,rfl,na,qa,la⟩:=(RepV.grow S1.wo.rb g2 _ _ r1).tupI
    obtain ⟨b,us,rfl,nb,qb,lb⟩:=r2.tupI
    refine ⟨a,b,vs,us,rfl,qa,qb,fun l H' ts hn kp hl len pr kf=>?_⟩
    have lf:(rmv H' l) l = none:=by unfold rmv;rw [if_pos rfl]
    have kl:X.K.lookup l = none:=kf l _ hl
    have kp0:∀ c q,H2 c = some q -> (rmv H' l) c = some q:=fun c q e=>by
      unfold rmv
      rw [if_neg (fun z=>by rw [z,hn] at e;cases e)];exact kp c q e
    have W0:=S2.wo.more kp0
    have g3:Gr X.K ρ2 B2 H2 ρ2 B2 (rmv H' l):=Gr.more kp0
    have g4:Gr X.K ρ2 B2 (rmv H' l) (ρ2 ++ [l]) (zr B2 l) (upd (rmv H' l) l (.lst ts)):=Gr.wnew lf kl
    have rl:RepL X.K ρ2 B2 (rmv H' l) (Yw xs ys) ts:=RepL.of_get (by rw [jr,la.length,lb.length];exact len.symm) fun m d t h1 h2=>by
      obtain ⟨x',y',q1,q2,rfl⟩:=jH h1
      obtain ⟨u',hu,ru⟩:=la.get q1
      obtain ⟨v',hv,rv⟩:=lb.get q2
      obtain ⟨aa,x2,y2,rfl,p1,p2,p3,p4⟩:=pr m t h2
      rw [hu] at p1;cases p1
      rw [hv] at p2;cases p2
      have p5:(rmv H' l) aa = some (.tup [u',v']):=by
        unfold rmv
        rw [if_neg (fun z=>by rw [z,hl] at p4;cases p4)];exact p4
      exact Y3 (fun z=>S2.wo.bt aa z p3) (SqT.of p5) (RepL.gs (g3.gs S2.wo.rb) _ _ (RepL.cons ru (RepL.one rv)))
    have oR:ORep X.K (ρ2 ++ [l]) (zr B2 l) (upd (rmv H' l) l (.lst ts)) l (.lst (Yw xs ys)):=⟨ts,QR,RepL.gs (g4.gs W0.rb) _ _ rl⟩
    have W1:=W0.wnew lf kl oR
    have g5:=(g1.trans g2).trans (g3.trans g4)
    rw [Qb7 hl] at W1 g5
    refine k _ _ _ _ g5 W1 ?_
    unfold RepV
    exact ⟨l,rfl,by rw [<- S2.wo.len];simp⟩
end
end D
namespace K63
open PySem PySem.Spec PyProof.Rows L2 D
def top (i:Nat):Stmt:=PySem.Challenge.pw_sidelink_k63_whole_packed_is_sound.main.body.getD i (.Pass ⟨0,0,0,0⟩)
abbrev Za:Stmt:=Yi (top 11) 12
def Xg:DSx:=sIf (XD (eB (YU leD ltD (eC (.int 0)) (Qc 1) (QU Zd (Qb (qx "Shelf" "kept" (Qc 0)) (Qk)))))) (Qde) (ZJ)
def Q0:List DV -> M DV:=Zl 2 Xg
abbrev Zn:Stmt:=Yi (top 11) 5
def Yg:DSx:=Qy (Zu (Zt "Shelf" "check_number" 2 Q0 (Qc 0) (Qb (Qc 1) (Qk)))) (Ye "Shelf" "top" (Qc 0) (Qc 1))
def ZE:List DV -> M DV:=Zl 2 Yg
abbrev Jz:Stmt:=Yi (top 11) 3
def xu:DSx:=Qy (zE "Shelf" "write_count" zo (Qc 0) (eC (.int 1))) (Qy (Zu (JC "list" Zs (qx "Shelf" "kept" (Qc 0)) (Qb (Qc 1) (Qk)))) (Q9 (Qh XW (QU Zd (Qb (qx "Shelf" "kept" (Qc 0)) (Qk))) (eC (.int 1)))))
def JB:List DV -> M DV:=Zl 2 xu
abbrev ZK:Stmt:=Yi (top 11) 2
def zF:DSx:=Qy (Zu (Zt "Shelf" "check_number" 2 Q0 (Qc 0) (Qb (Qc 1) (Qk)))) (Qy (zE "Shelf" "write_count" zo (Qc 0) (eC (.int 1))) (zp (Qc 2) (gSb (qx "Shelf" "kept" (Qc 0)) (Qc 1))))
def Jg:List DV -> M DV:=Zl 3 zF
abbrev Zx:Stmt:=Yi (top 11) 0
def YL:DSx:=Qy (Ye "Shelf" "page_room" (Qc 0) (Qc 1)) (Qy (Ye "Shelf" "kept" (Qc 0) (JR (Qb (eC (.tup [.int 0,.tup [],.tup [],.non,.non])) (Qk)))) (Qy (Ye "Shelf" "top" (Qc 0) (eC (.int 0))) (Qy (Ye "Shelf" "read_count" (Qc 0) (eC (.int 0))) (Ye "Shelf" "write_count" (Qc 0) (eC (.int 0))))))
def Zw:List DV -> M DV:=Zl 2 YL
abbrev J1:Stmt:=top 18
def Y6:DSx:=Zu (Zt "Shelf" "lay" 2 JB (Qc 2) (Qb (Qc 3) (Qk)))
def Ug:DSx:=YO (xLs (Kx (Qc 0) (Zz (eC (.int 1))) (Xr))) (gN 3) (Y6)
def G9:DSx:=Qy (QP 2 (qQ "Shelf" 2 Zw (Qb (Qc 1) (Qk)))) (Qy (Zu (Zt "Shelf" "write" 3 Jg (Qc 2) (Qb (eC (.int 0)) (Qb (Qh ixG (Qc 0) (eC (.int 0))) (Qk))))) (Qy (Ug) (Qy (Zu (Zt "Shelf" "make_root" 2 ZE (Qc 2) (Qb (Qh XW (QU Zd (Qb (Qc 0) (Qk))) (eC (.int 1))) (Qk)))) (Q9 (Qc 2)))))
def Y8:List DV -> M DV:=Zl 4 G9
abbrev YM:Stmt:=top 17
def zR:DSx:=Qy (QP 5 (Qh Zb (Qc 4) (eC (.int 1)))) (Qy (QP 6 (Qh eqG (Qc 5) (QU Zd (Qb (Qc 1) (Qk))))) (Qy (QP 7 (eIf (eB (Qc 6)) (eC .non) (Qh ixG (Qh ixG (Qc 1) (Qc 5)) (eC (.int 0))))) (Qy (QP 8 (eIf (eB (Qc 6)) (eC .non) (Qh Zb (Qc 2) (Qc 5)))) (Zu (JC "list" Zs (Qc 3) (Qb (JD (Qb (Qc 0) (Qb (Qh ixG (Qh ixG (Qc 1) (Qc 4)) (eC (.int 1))) (Qb (Qh ixG (Qh ixG (Qc 1) (Qc 4)) (eC (.int 2))) (Qb (Qc 7) (Qb (Qc 8) (Qk))))))) (Qk)))))))
def GF:DSx:=jP (Vn (Qb (QU Zd (Qb (Qc 1) (Qk))) (Qk))) (gN 4) (zR)
def kF:DSx:=Qy (QP 3 (JR (Qk))) (Qy (GF) (Q9 (Qc 3)))
def Yz:List DV -> M DV:=Zl 9 kF
abbrev Z8:Stmt:=top 16
def ja:DSx:=Qy (QP 2 (Qh QcC (ZX (Qb (Qc 1) (Qk))) (Qh gH (Qc 0) (Qc 1)))) (Qy (QP 3 (Qh Z2 (Qc 0) (Qc 1))) (Qy (sIf (eB (Qh eqD (Qc 3) (eC (.int 1)))) (Q9 (Qh Zb (eSl (Qc 2) (Xr) (Zz (qi (eC (.int 1))))) (ZX (Qb (Qh XW (Qc 1) (eC (.int 1))) (Qb (eC (.int 2)) (Qk)))))) (ZJ)) (Q9 (eIf (eB (Qh gtD (Qc 3) (eC (.int 0)))) (Qh Zb (Qc 2) (ZX (Qb (Qc 3) (Qk)))) (Qc 2)))))
def JE:List DV -> M DV:=Zl 4 ja
abbrev Jb:Stmt:=top 15
def xX:DEx:=Js false (xLs (eSl (Qc 0) (Zz (Qc 4)) (Zz (Qc 6)))) [] (UZ) (Qh ixG (Qc 0) (eC (.int 0)))
def XS:DSx:=Qy (QP 6 (Qh Zb (Qc 4) (Qc 5))) (Qy (QP 7 (xX)) (Qy (zq 3 (JD (Qb (Qh ixG (Qc 7) (eC (.int 0))) (Qb (QU UY (Qb (eSl (Qc 7) (Zz (eC (.int 1))) (Xr)) (Qk))) (Qb (K4 (Qb (Qh Zb (Qc 1) (Qc 4)) (Qb (Qh Zb (Qc 1) (Qc 6)) (Qk)))) (Qk)))))) (QP 4 (Qc 6))))
def y3:DSx:=YO (xLs (Qt 2 JE (Qb (QU Zd (Qb (Qc 0) (Qk))) (Qb (Qc 2) (Qk))))) (gN 5) (XS)
def UE:DSx:=Qy (zn 3) (Qy (QP 4 (eC (.int 0))) (Qy (y3) (qr 3 (Q9 (Qc 3)))))
def JL:List DV -> M DV:=Zl 8 UE
abbrev Z9:Stmt:=top 14
def qK:DEx:=Js false (xLs (Qc 4)) [] (UZ) (Qh ixG (Qc 0) (eC (.int 1)))
def yV:DEx:=Js false (xLs (Qc 4)) [] (UZ) (Qh ixG (Qc 0) (eC (.int 0)))
def X4:DSx:=Qy (QP 4 (Kx (Qc 0) (Zz (Qc 3)) (Zz (Qh Zb (Qc 3) (Qc 1))))) (Qy (QP 5 (QU UY (Qb (yV) (Qk)))) (zq 2 (JD (Qb (Qh ixG (Qc 5) (eC (.int 0))) (Qb (Qc 5) (Qb (QU UY (Qb (qK) (Qk))) (Qk)))))))
def qI:DSx:=jP (QbS (Qb (eC (.int 0)) (Qb (QU Zd (Qb (Qc 0) (Qk))) (Qb (Qc 1) (Qk))))) (gN 3) (X4)
def UF:DSx:=Qy (sIf (XD (qw (Qc 0))) (Q9 (ZX (Qb (JD (Qb (eC .non) (Qb (JD (Qk)) (Qb (JD (Qk)) (Qk))))) (Qk)))) (ZJ)) (Qy (zn 2) (Qy (qI) (qr 2 (Q9 (Qc 2)))))
def XF:List DV -> M DV:=Zl 6 UF
abbrev Yy:Stmt:=top 13
def zP:DSx:=Qy (xY 2 zo (eC (.int 1))) (Qy (QP 3 (Qt 3 JL (Qb (Qc 3) (Qb (Qh XW (QU Zd (Qb (Qc 4) (Qk))) (QU Zd (Qb (Qc 3) (Qk)))) (Qb (Qh Zb (Qc 1) (eC (.int 1))) (Qk)))))) (Zu (JC "list" Jl (Qc 4) (Qb (Qt 3 Yz (Qb (Qc 2) (Qb (Qc 3) (Qb (QU Zd (Qb (Qc 4) (Qk))) (Qk))))) (Qk)))))
def zW:DSx:=ZZ (eB (Qh gtD (QU Zd (Qb (Qc 3) (Qk))) (eC (.int 1)))) (zP) 100000
def kD:DSx:=Qy (QP 2 (eC (.int 0))) (Qy (QP 3 (Qt 2 XF (Qb (Qc 0) (Qb (Qc 1) (Qk))))) (Qy (QP 4 (Qt 3 Yz (Qb (Qc 2) (Qb (Qc 3) (Qb (eC (.int 0)) (Qk)))))) (Qy (zW) (Q9 (Qt 2 Y8 (Qb (Qc 4) (Qb (Qc 1) (Qk))))))))
def XX:List DV -> M DV:=Zl 5 kD
abbrev ZM:Stmt:=Yi (top 11) 8
def zJ:DSx:=Q9 (QU Zd (Qb (qx "Shelf" "kept" (Qc 0)) (Qk)))
def ZF:List DV -> M DV:=Zl 1 zJ
abbrev Z5:Stmt:=Yi (top 11) 4
def jI:DSx:=Q9 (qx "Shelf" "top" (Qc 0))
def QV:List DV -> M DV:=Zl 1 jI
abbrev ZB:Stmt:=Yi (top 11) 11
def xC:DSx:=Q9 (QU Qes (Qb (qx "Shelf" "kept" (Qc 0)) (Qk)))
def Q1:List DV -> M DV:=Zl 1 xC
abbrev Jw:Stmt:=top 27
def KB:DSx:=Qy (sIf (eOr (XD (qw (Qc 1))) (XD (qw (Qh ixG (Qh ixG (Qc 0) (Qh ixG (Qc 1) (eC (.int 0)))) (eC (.int 2)))))) (Q9 (eC .non)) (ZJ)) (Q9 (Qh ixG (Qh ixG (Qh ixG (Qc 0) (Qh ixG (Qc 1) (eC (.int 0)))) (eC (.int 2))) (eC (.int 0))))
def Ju:List DV -> M DV:=Zl 2 KB
abbrev J0:Stmt:=top 26
def YX:DSx:=Qy (zp (eC (.bl true)) (gSb (Qc 2) (Qc 4))) (Qy (Zu (JC "list" Zs (Qc 3) (Qb (Qc 4) (Qk)))) (QP 4 (Qh ixG (Qh ixG (Qc 0) (Qc 4)) (eC (.int 4)))))
def jG:DSx:=ZZ (Xw (eB (Qh yi (Qc 4) (eC .non))) (Xw (eB (YU leD ltD (eC (.int 0)) (Qc 4) (QU Zd (Qb (Qc 0) (Qk))))) (eB (Qh yD (Qc 4) (Qc 2))))) (YX) 100000
def GY:DSx:=Qy (QP 3 (JR (Qk))) (Qy (QP 4 (Qc 1)) (Qy (jG) (Q9 (Qc 3))))
def Y1:List DV -> M DV:=Zl 5 GY
abbrev ZQ:Stmt:=top 25
def Xk:DSx:=Qy (QP 5 (Qt 3 Y1 (Qb (Qc 0) (Qb (Qc 4) (Qb (Qc 3) (Qk)))))) (Qy (Zu (JC "list" Zs (Qc 2) (Qb (Qc 5) (Qk)))) (QP 4 (Qt 2 Ju (Qb (Qc 0) (Qb (Qc 5) (Qk))))))
def qm:DSx:=ZZ (eB (Qh leD (QU Zd (Qb (Qc 2) (Qk))) (Qh ixG (Qh ixG (Qc 0) (Qc 1)) (eC (.int 0))))) (Xk) 100000
def Vg:DSx:=Qy (QP 2 (JR (Qk))) (Qy (QP 3 (Xl)) (Qy (QP 4 (Qc 1)) (Qy (qm) (Q9 (Qc 2)))))
def QX:List DV -> M DV:=Zl 6 Vg
abbrev YI:Stmt:=top 20
def Qby:DSx:=Q9 (Qt 2 QX (Qb (Zt "Shelf" "picture" 1 Q1 (Qc 0) Qk) (Qb (Zt "Shelf" "root" 1 QV (Qc 0) Qk) (Qk))))
def Z1:List DV -> M DV:=Zl 1 Qby
abbrev Z7:Stmt:=top 34
def XZ:DSx:=Qy (QP 8 (Qh ixG (Qc 4) (Qc 7))) (sIf (eOr (eB (Qh geD (Qc 7) (QU Zd (Qb (Qc 5) (Qk))))) (eOr (eB (Qh yD (Qc 8) (Qc 3))) (eB (Qh neG (Qh ixG (Qc 3) (Qc 8)) (Qh ixG (Qc 5) (Qc 7)))))) (Zu (JC "list" Zs (Qc 6) (Qb (JD (Qb (eC (.str "kid")) (Qb (Qc 0) (Qb (Qc 7) (Qk))))) (Qk)))) (ZJ))
def yT:DSx:=jP (Vn (Qb (QU Zd (Qb (Qc 4) (Qk))) (Qk))) (gN 7) (XZ)
def V6:DSx:=Qy (QP 4 (Qh ixG (Qc 1) (eC (.int 2)))) (Qy (QP 5 (Qh Zb (JD (Qb (Qc 2) (Qk))) (Qh ixG (Qc 1) (eC (.int 1))))) (Qy (QP 6 (JR (Qk))) (Qy (yT) (Q9 (Qc 6)))))
def JF:List DV -> M DV:=Zl 9 V6
abbrev ZI:Stmt:=top 33
def ye:DSx:=Q9 (eIf (eB (Qh eqG (Qh ixG (Qc 0) (eC (.int 0))) (eC (.int 0)))) (QU Zd (Qb (Qh ixG (Qc 0) (eC (.int 1))) (Qk))) (Qh Zb (QU Zd (Qb (Qh ixG (Qc 0) (eC (.int 1))) (Qk))) (eC (.int 1))))
def JK:List DV -> M DV:=Zl 1 ye
abbrev Jc:Stmt:=top 32
def XQ:DEx:=Js false (xOf (iTp (Qc 2))) [3] (UZ) (Qh ltD (Qc 0) (Qc 1))
def X6:DEx:=Js false (xOf (iTp (Qc 2))) [1] (UZ) (Qh leD (Qc 1) (Qc 0))
def qS:DEx:=Js false (xOf (Qab (Qc 2) (eSl (Qc 2) (Zz (eC (.int 1))) (Xr)))) [] (UZ) (Qh ltD (Qh ixG (Qc 0) (eC (.int 0))) (Qh ixG (Qc 0) (eC (.int 1))))
def UD:DSx:=Qy (QP 2 (Qh ixG (Qc 0) (eC (.int 1)))) (Qy (QP 3 (Qh ixG (Qc 0) (eC (.int 3)))) (Qy (sIf (XD (eB (QU vA (Qb (qS) (Qk))))) (Q9 (eC (.bl false))) (ZJ)) (Qy (sIf (Xw (eB (Qh yi (Qc 1) (eC .non))) (XD (eB (QU vA (Qb (X6) (Qk)))))) (Q9 (eC (.bl false))) (ZJ)) (Qy (sIf (Xw (eB (Qh yi (Qc 3) (eC .non))) (XD (eB (QU vA (Qb (XQ) (Qk)))))) (Q9 (eC (.bl false))) (ZJ)) (Q9 (jm (Qh isD (Qc 1) (eC .non)) (jm (Qh isD (Qc 3) (eC .non)) (Qh ltD (Qc 1) (Qc 3)))))))))
def Xv:List DV -> M DV:=Zl 4 UD
abbrev ZN:Stmt:=top 31
def Ve:DSx:=Qy (QP 5 (JR (Qk))) (Qy (sIf (eB (Qh neG (Qh ixG (Qc 1) (eC (.int 0))) (Qc 2))) (Zu (JC "list" Zs (Qc 5) (Qb (JD (Qb (eC (.str "level")) (Qb (Qc 0) (Qk)))) (Qk)))) (ZJ)) (Qy (sIf (XD (eB (Qt 2 Xv (Qb (Qc 1) (Qb (Qc 3) (Qk)))))) (Zu (JC "list" Zs (Qc 5) (Qb (JD (Qb (eC (.str "order")) (Qb (Qc 0) (Qk)))) (Qk)))) (ZJ)) (Qy (sIf (eB (Qh neG (QU Zd (Qb (Qh ixG (Qc 1) (eC (.int 2))) (Qk))) (Qt 1 JK (Qb (Qc 1) (Qk))))) (Zu (JC "list" Zs (Qc 5) (Qb (JD (Qb (eC (.str "parts")) (Qb (Qc 0) (Qk)))) (Qk)))) (ZJ)) (Qy (sIf (eOr (eB (Qh neG (Qh isD (Qh ixG (Qc 1) (eC (.int 3))) (eC .non)) (Qh isD (Qh ixG (Qc 1) (eC (.int 4))) (eC .non)))) (eB (Qh neG (Qh ixG (Qc 1) (eC (.int 4))) (Qc 4)))) (Zu (JC "list" Zs (Qc 5) (Qb (JD (Qb (eC (.str "links")) (Qb (Qc 0) (Qk)))) (Qk)))) (ZJ)) (Q9 (Qc 5))))))
def ZO:List DV -> M DV:=Zl 6 Ve
abbrev Jx:Stmt:=top 29
def zD:DSx:=Qy (zp (Qc 3) (gSb (Qc 2) (Qc 4))) (QP 3 (Qh ixG (Qh ixG (Qc 0) (Qc 4)) (eC (.int 3))))
def zL:DSx:=YO (xLs (Qc 1)) (gN 4) (zD)
def KJ:DSx:=Qy (QP 2 (Xl)) (Qy (QP 3 (eC .non)) (Qy (zL) (Q9 (Qc 2))))
def Xf:List DV -> M DV:=Zl 5 KJ
abbrev ZP:Stmt:=top 30
def Jn:DSx:=Qy (QP 8 (Qh ixG (Qc 1) (Qc 7))) (Qy (QP 9 (Qh ixG (Qc 0) (Qc 8))) (Qy (QP 10 (eIf (eB (Qh ltD (Qh Zb (Qc 7) (eC (.int 1))) (QU Zd (Qb (Qc 1) (Qk))))) (Qh ixG (Qc 1) (Qh Zb (Qc 7) (eC (.int 1)))) (eC .non))) (Qy (Zu (JC "list" Jl (Qc 6) (Qb (Qt 5 ZO (Qb (Qc 8) (Qb (Qc 9) (Qb (Qc 2) (Qb (Qh ixG (Qc 4) (Qc 8)) (Qb (Qc 10) (Qk))))))) (Qk)))) (sIf (eB (Qh gtD (Qc 2) (eC (.int 0)))) (Zu (JC "list" Jl (Qc 6) (Qb (Qt 4 JF (Qb (Qc 8) (Qb (Qc 9) (Qb (Qh ixG (Qc 4) (Qc 8)) (Qb (Qc 5) (Qk)))))) (Qk)))) (ZJ)))))
def xw:DSx:=jP (Vn (Qb (QU Zd (Qb (Qc 1) (Qk))) (Qk))) (gN 7) (Jn)
def Vh:DSx:=Qy (QP 4 (Qt 2 Xf (Qb (Qc 0) (Qb (Qc 1) (Qk))))) (Qy (QP 5 (Qt 2 Xf (Qb (Qc 0) (Qb (Qc 3) (Qk))))) (Qy (QP 6 (JR (Qk))) (Qy (xw) (Q9 (Qc 6)))))
def J8:List DV -> M DV:=Zl 11 Vh
abbrev YH:Stmt:=top 21
def qj:DSx:=Qy (QP 5 (Qh XW (Qh XW (QU Zd (Qb (Qc 2) (Qk))) (eC (.int 1))) (Qc 4))) (Qy (QP 6 (eIf (eB (Qh gtD (Qc 5) (eC (.int 0)))) (Qh ixG (Qc 2) (Qh Zb (Qc 4) (eC (.int 1)))) (ZX (Qk)))) (Zu (JC "list" Jl (Qc 3) (Qb (Qt 4 J8 (Qb (Qc 1) (Qb (Qh ixG (Qc 2) (Qc 4)) (Qb (Qc 5) (Qb (Qc 6) (Qk)))))) (Qk)))))
def vi:DSx:=jP (Vn (Qb (QU Zd (Qb (Qc 2) (Qk))) (Qk))) (gN 4) (qj)
def Qbk:DSx:=Qy (QP 1 (Zt "Shelf" "picture" 1 Q1 (Qc 0) Qk)) (Qy (QP 2 (Qt 2 QX (Qb (Qc 1) (Qb (Zt "Shelf" "root" 1 QV (Qc 0) Qk) (Qk))))) (Qy (QP 3 (JR (Qk))) (Qy (vi) (Q9 (Qc 3)))))
def X5:List DV -> M DV:=Zl 7 Qbk
abbrev JY:Stmt:=top 22
def vD:DSx:=Q9 (Qh eqG (Qt 1 X5 (Qb (Qc 0) (Qk))) (ZX (Qk)))
def XU:List DV -> M DV:=Zl 1 vD
abbrev XJ:Stmt:=top 28
def qB:DSx:=zp (eC (.bl true)) (gSb (Qc 2) (Qc 4))
def xi:DSx:=jP (iTp (Qh ixG (Qh ixG (Qc 0) (Qc 3)) (eC (.int 2)))) (gN 4) (qB)
def xh:DSx:=xi
def qy:DSx:=YO (xLs (Qc 1)) (gN 3) (xh)
def kc:DSx:=Qy (QP 2 (Xl)) (Qy (qy) (Q9 (Qc 2)))
def YG:List DV -> M DV:=Zl 5 kc
abbrev YC:Stmt:=top 23
def zN:DEx:=Js true (xLs (Qh ixG (Qc 2) (Qc 4))) [5] (eB (Qh yD (Qc 0) (Qc 1))) (Qc 0)
def zT:DSx:=Qy (QP 5 (Qt 2 YG (Qb (Qc 1) (Qb (Qh ixG (Qc 2) (Qh XW (Qc 4) (eC (.int 1)))) (Qk))))) (Zu (JC "list" Jl (Qc 3) (Qb (zN) (Qk))))
def vB:DSx:=jP (QcJ (Qb (eC (.int 1)) (Qb (QU Zd (Qb (Qc 2) (Qk))) (Qk)))) (gN 4) (zT)
def QaO:DSx:=Qy (QP 1 (Zt "Shelf" "picture" 1 Q1 (Qc 0) Qk)) (Qy (QP 2 (Qt 2 QX (Qb (Qc 1) (Qb (Zt "Shelf" "root" 1 QV (Qc 0) Qk) (Qk))))) (Qy (QP 3 (JR (Qk))) (Qy (vB) (Q9 (Qc 3)))))
def qL:List DV -> M DV:=Zl 6 QaO
abbrev J2:Stmt:=top 24
def XB:DSx:=Zu (JC "list" Jl (Qc 2) (Qb (u0 (Qh ixG (Qh ixG (Qc 1) (Qc 3)) (eC (.int 1))) (Qh ixG (Qh ixG (Qc 1) (Qc 3)) (eC (.int 2)))) (Qk)))
def YT:DSx:=YO (xLs (Qh ixG (Qt 2 QX (Qb (Qc 1) (Qb (Zt "Shelf" "root" 1 QV (Qc 0) Qk) (Qk)))) (qi (eC (.int 1))))) (gN 3) (XB)
def vj:DSx:=Qy (QP 1 (Zt "Shelf" "picture" 1 Q1 (Qc 0) Qk)) (Qy (QP 2 (JR (Qk))) (Qy (YT) (Q9 (Qc 2))))
def Z0:List DV -> M DV:=Zl 4 vj
abbrev J5:Stmt:=top 40
def Xz:DSx:=QP 2 (Qh Qa2 (Qc 2) (Qc 3))
def UJ:DSx:=YO (xLs (uw (Qt 1 Z1 (Qb (Qc 0) (Qk))))) (gN 3) (Xz)
def vL:DSx:=Qy (sIf (eOr (eB (Qh neG (Qt 1 X5 (Qb (Qc 0) (Qk))) (ZX (Qk)))) (eOr (eB (Qh yi (Qt 1 XU (Qb (Qc 0) (Qk))) (eC (.bl true)))) (eOr (eB (Qh neG (Qt 1 qL (Qb (Qc 0) (Qk))) (ZX (Qk)))) (eB (Qh neG (Qt 1 Z0 (Qb (Qc 0) (Qk))) (Qc 1)))))) (Q9 (eC (.bl false))) (ZJ)) (Qy (QP 2 (ZX (Qk))) (Qy (UJ) (Q9 (Yf (Qh eqG (Qc 2) (Ka (Qb (Zt "Shelf" "pages" 1 ZF (Qc 0) Qk) (Qk)))) (Qh eqG (Qh ixG (Qc 2) (qi (eC (.int 1)))) (Zt "Shelf" "root" 1 QV (Qc 0) Qk))))))
def Jp:List DV -> M DV:=Zl 4 vL
abbrev Jt:Stmt:=top 37
def Kz:DSx:=Qy (QP 2 (Qh Zb (Qh Zb (Qh Zb (Qh Z2 (Qc 0) (eC (.int 715827883))) (Qh JT (Qc 1) (Qc 1))) (Qh JT (eC (.int 3)) (Qc 1))) (eC (.int 11)))) (Q9 (Qh gH (Qh Z2 (Qh JT (Qh Z2 (Qh JT (Qc 2) (Qc 2)) (eC (.int 715827883))) (Qh Zb (Qc 2) (Qh JT (eC (.int 7)) (Qc 1)))) (eC (.int 715827883))) (eC (.int 9))))
def Qv:List DV -> M DV:=Zl 3 Kz
abbrev J6:Stmt:=top 38
def GP:DSx:=Qy (QP 2 (Qh Z2 (Qt 2 Qv (Qb (Qc 0) (Qb (eC (.int 2)) (Qk)))) (eC (.int 4)))) (Qy (sIf (eB (Qh eqD (Qc 2) (eC (.int 0)))) (Q9 (Qh Z2 (Qt 2 Qv (Qb (Qc 0) (Qb (eC (.int 3)) (Qk)))) (eC (.int 10)))) (ZJ)) (Qy (sIf (eB (Qh eqD (Qc 2) (eC (.int 1)))) (Q9 (QU QaU (Qb (eC (.int 240)) (Qb (Qh Zb (Qh JT (Qh JT (Qc 1) (Qh Zb (Qc 1) (eC (.int 1)))) (Qh Zb (eC (.int 1)) (Qh Z2 (Qt 2 Qv (Qb (Qc 0) (Qb (eC (.int 3)) (Qk)))) (eC (.int 3))))) (Qh JT (Qh Z2 (Qt 2 Qv (Qb (Qc 0) (Qb (eC (.int 4)) (Qk)))) (eC (.int 3))) (Qc 1))) (Qk))))) (ZJ)) (Qy (sIf (eB (Qh eqD (Qc 2) (eC (.int 2)))) (Q9 (QU QaU (Qb (eC (.int 240)) (Qb (Qh Zb (Qh JT (Qh JT (Qc 1) (Qh Zb (Qc 1) (eC (.int 1)))) (Qh Zb (Qc 1) (eC (.int 1)))) (Qh Z2 (Qt 2 Qv (Qb (Qc 0) (Qb (eC (.int 4)) (Qk)))) (Qh Zb (Qh JT (eC (.int 2)) (Qc 1)) (eC (.int 1))))) (Qk))))) (ZJ)) (Q9 (Qh Z2 (Qt 2 Qv (Qb (Qc 0) (Qb (eC (.int 3)) (Qk)))) (eC (.int 200)))))))
def YV:List DV -> M DV:=Zl 3 GP
abbrev ZL:Stmt:=top 36
def Yo:DSx:=Qy (sIf (eB (Qh ltD (Qc 1) (QU qE (Qb (Qc 0) (Qk))))) (Q9 (Qh ixD (Qc 0) (Qc 1))) (ZJ)) (Q9 (eC (.int 0)))
def QL:List DV -> M DV:=Zl 2 Yo
abbrev Jy:Stmt:=top 39
def Yp:DSx:=Qy (QP 6 (Qh Zb (Qt 2 QL (Qb (Qc 0) (Qb (Qh Z2 (Qc 5) (QU gF (Qb (eC (.int 1)) (Qb (QU qE (Qb (Qc 0) (Qk))) (Qk))))) (Qk)))) (Qc 5))) (Qy (QP 7 (Qh XW (Qh Z2 (Qt 2 Qv (Qb (Qc 6) (Qb (eC (.int 7)) (Qk)))) (eC (.int 9))) (eC (.int 4)))) (Qy (sIf (eB (Qh eqD (Qh Z2 (Qt 2 Qv (Qb (Qc 6) (Qb (eC (.int 8)) (Qk)))) (eC (.int 3))) (eC (.int 0)))) (QP 7 (Qh XW (Qh Z2 (Qh Zb (Qh JT (Qc 6) (eC (.int 13))) (Qh Yt (eC (.int 10)) (eC (.int 30)))) (Qh Zb (Qh JT (eC (.int 2)) (Qh Yt (eC (.int 10)) (eC (.int 30)))) (eC (.int 1)))) (Qh Yt (eC (.int 10)) (eC (.int 30))))) (ZJ)) (Qy (zq 4 (JD (Qb (Qc 2) (Qb (Qc 7) (Qk))))) (QP 2 (Qh Zb (Qh Zb (Qc 2) (eC (.int 1))) (Qh JT (Qh Z2 (Qt 2 Qv (Qb (Qc 6) (Qb (eC (.int 9)) (Qk)))) (Qh ixD (ZX (Qb (eC (.int 1)) (Qb (eC (.int 3)) (Qb (Qh JT (eC (.int 8)) (Qh Yt (eC (.int 10)) (eC (.int 7)))) (Qk))))) (Qc 3))) (Qh ixD (ZX (Qb (eC (.int 1)) (Qb (eC (.int 1)) (Qb (Qh Yt (eC (.int 10)) (eC (.int 19))) (Qk))))) (Qc 3))))))))
def zC:DSx:=jP (Vn (Qb (Qc 1) (Qk))) (gN 5) (Yp)
def KM:DSx:=Qy (QP 2 (Qh XW (Qh Z2 (Qt 2 Qv (Qb (Qt 2 QL (Qb (Qc 0) (Qb (eC (.int 1)) (Qk)))) (Qb (eC (.int 5)) (Qk)))) (eC (.int 40))) (eC (.int 30)))) (Qy (QP 3 (Qh Z2 (Qt 2 Qv (Qb (Qt 2 QL (Qb (Qc 0) (Qb (eC (.int 1)) (Qk)))) (Qb (eC (.int 6)) (Qk)))) (eC (.int 3)))) (Qy (sIf (eB (Qh eqD (Qc 3) (eC (.int 2)))) (QP 2 (Qh XW (Qt 2 Qv (Qb (Qt 2 QL (Qb (Qc 0) (Qb (eC (.int 1)) (Qk)))) (Qb (eC (.int 5)) (Qk)))) (Qh Yt (eC (.int 10)) (eC (.int 30))))) (ZJ)) (Qy (zn 4) (Qy (zC) (qr 4 (Q9 (Qc 4)))))))
def Ya:List DV -> M DV:=Zl 8 KM
abbrev jq:Stmt:=top 41
def Qe9:DSx:=Qy (QP 1 (Qt 2 QL (Qb (Qc 0) (Qb (eC (.int 0)) (Qk))))) (Qy (QP 2 (Qh Zb (eC (.int 2)) (Qh Z2 (Qt 2 Qv (Qb (Qc 1) (Qb (eC (.int 1)) (Qk)))) (eC (.int 7))))) (Qy (QP 3 (Qt 2 Ya (Qb (Qc 0) (Qb (Qt 2 YV (Qb (Qc 1) (Qb (Qc 2) (Qk)))) (Qk))))) (Qy (QP 4 (Qt 2 XX (Qb (QU Qes (Qb (Qc 3) (Qk))) (Qb (Qc 2) (Qk))))) (Qy (sIf (eOr (XD (eB (Qt 2 Jp (Qb (Qc 4) (Qb (Qc 3) (Qk)))))) (eB (Qh neG (QU Zd (Qb (Qh ixG (Qt 1 Z1 (Qb (Qc 4) (Qk))) (eC (.int 0))) (Qk))) (eC (.int 1))))) (Q9 (eC (.bl false))) (ZJ)) (Qy (QP 5 (Qt 1 Z0 (Qb (Qc 4) (Qk)))) (Qy (QP 6 (Qh Zb (eC (.int 2)) (Qh Z2 (Qt 2 Qv (Qb (Qc 1) (Qb (eC (.int 11)) (Qk)))) (eC (.int 7))))) (Q9 (Yf (Qt 2 Jp (Qb (Qt 2 XX (Qb (Qc 5) (Qb (Qc 2) (Qk)))) (Qb (Qc 3) (Qk)))) (Qt 2 Jp (Qb (Qt 2 XX (Qb (Qc 5) (Qb (Qc 6) (Qk)))) (Qb (Qc 3) (Qk))))))))))))
def Kf:List DV -> M DV:=Zl 7 Qe9
section
variable {P:Program} {w:World} {K:PySem.W.Frag} {mg:Str -> Option Value} {base:Heap} {g:Addr} {fd:FuncData}
theorem JU:QG ["self", "number"] ["self", "number"] (Qm Za):=⟨rfl,rfl,rfl,by decide +kernel,rfl,by decide +kernel,by decide +kernel⟩
theorem YW {C:Addr} (F:Fun K "check_number" "Shelf.check_number" Za g fd) (nc:ClsN K "Shelf" C) (cl:Cls K C) (me:jY K C "check_number" g) (z_len:mg "len" = none) (k_Shelf_kept:X9 K "Shelf" "kept"):Xq P w K mg base "Shelf" "check_number" 1 2 Q0 :=
  XN nc cl me F JU (fun _ _ _ _ _ _ us hl=>match us,hl with | [_,_],_=>rfl) fun cdv A outer s H E hr=>by
    have Sc:=JU
    refine Qp ?_;(refine Jk ?_ ?_ ?_;(refine YQ ?_;(refine KL QbP vH ?_ ?_ ?_;exact Qn;exact Qa 1;(refine Q2 Zq z_len PySem.boot_len ?_;(refine Qd ?_ ?_;(refine zX k_Shelf_kept ?_;exact Qa 0);exact Qj))));(refine Qp ?_;exact QbR);exact Zj)
theorem XR:QG ["self", "number"] ["self", "number"] (Qm Zn):=⟨rfl,rfl,rfl,by decide +kernel,rfl,by decide +kernel,by decide +kernel⟩
theorem zt {C:Addr} (F:Fun K "make_root" "Shelf.make_root" Zn g fd) (nc:ClsN K "Shelf" C) (cl:Cls K C) (me:jY K C "make_root" g) (h_Shelf_check_number:Xq P w K mg base "Shelf" "check_number" 1 2 Q0) (k_Shelf_top:X9 K "Shelf" "top"):Xq P w K mg base "Shelf" "make_root" 2 2 ZE :=
  XN nc cl me F XR (fun _ _ _ _ _ _ us hl=>match us,hl with | [_,_],_=>rfl) fun cdv A outer s H E hr=>by
    have Sc:=XR
    refine Qi ?_ ?_;(refine Zm ?_;(refine z0 h_Shelf_check_number hr (by decide) QH ?_ ?_;exact Qa 0;(refine Qd ?_ ?_;exact Qa 1;exact Qj)));(refine Qp ?_;(refine jM k_Shelf_top ?_ ?_;exact Qa 0;exact Qa 1))
theorem ji:QG ["self", "page"] ["self", "page"] (Qm Jz):=⟨rfl,rfl,rfl,by decide +kernel,rfl,by decide +kernel,by decide +kernel⟩
theorem Vq {C:Addr} (F:Fun K "lay" "Shelf.lay" Jz g fd) (nc:ClsN K "Shelf" C) (cl:Cls K C) (me:jY K C "lay" g) (z_len:mg "len" = none) (k_Shelf_kept:X9 K "Shelf" "kept") (k_Shelf_write_count:X9 K "Shelf" "write_count"):Xq P w K mg base "Shelf" "lay" 1 2 JB :=
  XN nc cl me F ji (fun _ _ _ _ _ _ us hl=>match us,hl with | [_,_],_=>rfl) fun cdv A outer s H E hr=>by
    have Sc:=ji
    refine Qi ?_ ?_;(refine VS k_Shelf_write_count ?_ ?_;exact Qa 0;exact Qn);(refine Qi ?_ ?_;(refine Zm ?_;(refine Jq JN PySem.F.plainAttrs_list PySem.F.slot_list_append PySem.F.type_list_append ?_ ?_;(refine zX k_Shelf_kept ?_;exact Qa 0);(refine Qd ?_ ?_;exact Qa 1;exact Qj)));(refine Qp ?_;(refine QS ?_;(refine Qq qT ?_ ?_;(refine Q2 Zq z_len PySem.boot_len ?_;(refine Qd ?_ ?_;(refine zX k_Shelf_kept ?_;exact Qa 0);exact Qj));exact Qn))))
theorem qC:QG ["self", "number", "page"] ["self", "number", "page"] (Qm ZK):=⟨rfl,rfl,rfl,by decide +kernel,rfl,by decide +kernel,by decide +kernel⟩
theorem xD {C:Addr} (F:Fun K "write" "Shelf.write" ZK g fd) (nc:ClsN K "Shelf" C) (cl:Cls K C) (me:jY K C "write" g) (h_Shelf_check_number:Xq P w K mg base "Shelf" "check_number" 1 2 Q0) (k_Shelf_kept:X9 K "Shelf" "kept") (k_Shelf_write_count:X9 K "Shelf" "write_count"):Xq P w K mg base "Shelf" "write" 2 3 Jg :=
  XN nc cl me F qC (fun _ _ _ _ _ _ us hl=>match us,hl with | [_,_,_],_=>rfl) fun cdv A outer s H E hr=>by
    have Sc:=qC
    refine Qi ?_ ?_;(refine Zm ?_;(refine z0 h_Shelf_check_number hr (by decide) QH ?_ ?_;exact Qa 0;(refine Qd ?_ ?_;exact Qa 1;exact Qj)));(refine Qi ?_ ?_;(refine VS k_Shelf_write_count ?_ ?_;exact Qa 0;exact Qn);(refine Qp ?_;(refine US ?_ ?_;exact Qa 2;(refine V2 (QK hr) ?_ ?_;(refine zX k_Shelf_kept ?_;exact Qa 0);exact Qa 1))))
theorem Yj:QG ["self", "room"] ["self", "room"] (Qm Zx):=⟨rfl,rfl,rfl,by decide +kernel,rfl,by decide +kernel,by decide +kernel⟩
theorem zU {C:Addr} (F:Fun K "__init__" "Shelf.__init__" Zx g fd) (nc:ClsN K "Shelf" C) (hm:mg "Shelf" = some (.ref C)) (me:Mk K C g) {a_EMPTY_LEAF:Addr} (g_EMPTY_LEAF:mg "EMPTY_LEAF" = some (.ref a_EMPTY_LEAF)) (q_EMPTY_LEAF:KRep K (.tup [.int 0,.tup [],.tup [],.non,.non]) (.ref a_EMPTY_LEAF)) (k_Shelf_write_count:X9 K "Shelf" "write_count") (k_Shelf_read_count:X9 K "Shelf" "read_count") (k_Shelf_top:X9 K "Shelf" "top") (k_Shelf_kept:X9 K "Shelf" "kept") (k_Shelf_page_room:X9 K "Shelf" "page_room"):QcX P w K mg base "Shelf" 1 2 Zw :=
  QaW nc hm me F Yj (fun _ _ _ _ _ _ us hl=>match us,hl with | [_,_],_=>rfl) fun cdv A outer s H E hr=>by
    have Sc:=Yj
    refine Qi ?_ ?_;(refine jM k_Shelf_page_room ?_ ?_;exact Qa 0;exact Qa 1);(refine Qi ?_ ?_;(refine jM k_Shelf_kept ?_ ?_;exact Qa 0;(refine Xe ?_;(refine Qd ?_ ?_;exact QbK rfl g_EMPTY_LEAF q_EMPTY_LEAF;exact Qj)));(refine Qi ?_ ?_;(refine jM k_Shelf_top ?_ ?_;exact Qa 0;exact Qn);(refine Qi ?_ ?_;(refine jM k_Shelf_read_count ?_ ?_;exact Qa 0;exact Qn);(refine Qp ?_;(refine jM k_Shelf_write_count ?_ ?_;exact Qa 0;exact Qn)))))
theorem xf:QG ["pages", "room", "shelf", "page"] ["pages", "room"] (Qm J1):=⟨rfl,rfl,rfl,by decide +kernel,rfl,by decide +kernel,by decide +kernel⟩
theorem V9 (F:Fun K "shelf_of" "shelf_of" J1 g fd) (hm:mg "shelf_of" = some (.ref g)) (h_Shelf_make_root:Xq P w K mg base "Shelf" "make_root" 2 2 ZE) (h_Shelf_lay:Xq P w K mg base "Shelf" "lay" 1 2 JB) (h_Shelf_write:Xq P w K mg base "Shelf" "write" 2 3 Jg) (h_Shelf___init__:QcX P w K mg base "Shelf" 1 2 Zw) (z_len:mg "len" = none):Has P w K mg base "shelf_of" 3 2 Y8 :=
  Zk F xf hm (fun _ _ _ _ _ _ us hl=>match us,hl with | [_,_],_=>rfl) fun cdv A outer s H E hr=>by
    have Sc:=xf
    refine Qi ?_ ?_;(refine Qx 2 Sc.nd ?_;(refine Qcq h_Shelf___init__ hr (by decide) QH ?_;(refine Qd ?_ ?_;exact Qa 1;exact Qj)));(refine Qi ?_ ?_;(refine Zm ?_;(refine z0 h_Shelf_write hr (by decide) QH ?_ ?_;exact Qa 2;(refine Qd ?_ ?_;exact Qn;(refine Qd ?_ ?_;(refine QD (QK hr) ?_ ?_;exact Qa 0;exact Qn);exact Qj))));(refine Qi ?_ ?_;(refine q8 PassesOwn.never rfl ?_ ?_ ?_;(refine Xa ?_;(refine QbA ?_ ?_ ?_;exact Qa 0;(refine Yk ?_;exact Qn);exact xO));exact ZR 3 Sc.nd;(refine Qp ?_;(refine Zm ?_;(refine z0 h_Shelf_lay hr (by decide) QH ?_ ?_;exact Qa 2;(refine Qd ?_ ?_;exact Qa 3;exact Qj)))));(refine Qi ?_ ?_;(refine Zm ?_;(refine z0 h_Shelf_make_root hr (by decide) QH ?_ ?_;exact Qa 2;(refine Qd ?_ ?_;(refine Qq qT ?_ ?_;(refine Q2 Zq z_len PySem.boot_len ?_;(refine Qd ?_ ?_;exact Qa 0;exact Qj));exact Qn);exact Qj)));(refine Qp ?_;(refine QS ?_;exact Qa 2)))))
theorem Vu:QG ["level", "fills", "first", "pages", "place", "behind", "is_last", "high", "side"] ["level", "fills", "first"] (Qm YM):=⟨rfl,rfl,rfl,by decide +kernel,rfl,by decide +kernel,by decide +kernel⟩
theorem GB (F:Fun K "linked" "linked" YM g fd) (hm:mg "linked" = some (.ref g)) (z_len:mg "len" = none) (z_range:mg "range" = none):Has P w K mg base "linked" 1 3 Yz :=
  Zk F Vu hm (fun _ _ _ _ _ _ us hl=>match us,hl with | [_,_,_],_=>rfl) fun cdv A outer s H E hr=>by
    have Sc:=Vu
    refine Qi ?_ ?_;(refine Qx 3 Sc.nd ?_;(refine Xe ?_;exact Qj));(refine Qi ?_ ?_;(refine qJ PassesOwn.never rfl ?_ ?_ ?_;(refine YF rfl z_range ?_;(refine Qd ?_ ?_;(refine Q2 Zq z_len PySem.boot_len ?_;(refine Qd ?_ ?_;exact Qa 1;exact Qj));exact Qj));exact ZR 4 Sc.nd;(refine Qi ?_ ?_;(refine Qx 5 Sc.nd ?_;(refine Qq Zv ?_ ?_;exact Qa 4;exact Qn));(refine Qi ?_ ?_;(refine Qx 6 Sc.nd ?_;(refine Xm (Gw hr.units) ?_ ?_ (QW _);exact Qa 5;(refine Q2 Zq z_len PySem.boot_len ?_;(refine Qd ?_ ?_;exact Qa 1;exact Qj))));(refine Qi ?_ ?_;(refine Qx 7 Sc.nd ?_;(refine VV ?_ ?_ ?_;(refine jd ?_;exact Qa 6);exact JZ;(refine QD (QK hr) ?_ ?_;(refine QD (QK hr) ?_ ?_;exact Qa 1;exact Qa 5);exact Qn)));(refine Qi ?_ ?_;(refine Qx 8 Sc.nd ?_;(refine VV ?_ ?_ ?_;(refine jd ?_;exact Qa 6);exact JZ;(refine Qq Zv ?_ ?_;exact Qa 2;exact Qa 5)));(refine Qp ?_;(refine Zm ?_;(refine Jq JN PySem.F.plainAttrs_list PySem.F.slot_list_append PySem.F.type_list_append ?_ ?_;exact Qa 3;(refine Qd ?_ ?_;(refine J3 ?_;(refine Qd ?_ ?_;exact Qa 0;(refine Qd ?_ ?_;(refine QD (QK hr) ?_ ?_;(refine QD (QK hr) ?_ ?_;exact Qa 1;exact Qa 4);exact Qn);(refine Qd ?_ ?_;(refine QD (QK hr) ?_ ?_;(refine QD (QK hr) ?_ ?_;exact Qa 1;exact Qa 4);exact Qn);(refine Qd ?_ ?_;exact Qa 7;(refine Qd ?_ ?_;exact Qa 8;exact Qj))))));exact Qj)))))))));(refine Qp ?_;(refine QS ?_;exact Qa 3)))
theorem zG:QG ["kids", "most", "counts", "rest"] ["kids", "most"] (Qm Z8):=⟨rfl,rfl,rfl,by decide +kernel,rfl,by decide +kernel,by decide +kernel⟩
theorem ya (F:Fun K "kid_counts" "kid_counts" Z8 g fd) (hm:mg "kid_counts" = some (.ref g)):Has P w K mg base "kid_counts" 1 2 JE :=
  Zk F zG hm (fun _ _ _ _ _ _ us hl=>match us,hl with | [_,_],_=>rfl) fun cdv A outer s H E hr=>by
    have Sc:=zG
    refine Qi ?_ ?_;(refine Qx 2 Sc.nd ?_;(refine Qq QdA ?_ ?_;(refine XT ?_;(refine Qd ?_ ?_;exact Qa 1;exact Qj));(refine Qq Qdg ?_ ?_;exact Qa 0;exact Qa 1)));(refine Qi ?_ ?_;(refine Qx 3 Sc.nd ?_;(refine Qq JP ?_ ?_;exact Qa 0;exact Qa 1));(refine Qi ?_ ?_;(refine Jk ?_ ?_ ?_;(refine Q8 (ka hr.units) ?_ ?_ (QW _);exact Qa 3;exact Qn);(refine Qp ?_;(refine QS ?_;(refine Qq Zv ?_ ?_;(refine uo ?_ ?_ ?_;exact Qa 2;exact xO;(refine Yk ?_;(refine vf ?_;exact Qn)));(refine XT ?_;(refine Qd ?_ ?_;(refine Qq qT ?_ ?_;exact Qa 1;exact Qn);(refine Qd ?_ ?_;exact Qn;exact Qj))))));exact Zj);(refine Qp ?_;(refine QS ?_;(refine VV ?_ ?_ ?_;(refine Q8 Qcm ?_ ?_ (QW _);exact Qa 3;exact Qn);(refine Qq Zv ?_ ?_;exact Qa 2;(refine XT ?_;(refine Qd ?_ ?_;exact Qa 3;exact Qj)));exact Qa 2)))))
theorem zA:QG ["kids", "first", "most", "fills", "start", "count", "stop", "begins"] ["kids", "first", "most"] (Qm Jb):=⟨rfl,rfl,rfl,by decide +kernel,rfl,by decide +kernel,by decide +kernel⟩
theorem yz (F:Fun K "fork_fills" "fork_fills" Jb g fd) (hm:mg "fork_fills" = some (.ref g)) (h_kid_counts:Has P w K mg base "kid_counts" 1 2 JE) (z_len:mg "len" = none) (z_tuple:mg "tuple" = none) (z_range:mg "range" = none):Has P w K mg base "fork_fills" 2 3 JL :=
  Zk F zA hm (fun _ _ _ _ _ _ us hl=>match us,hl with | [_,_,_],_=>rfl) fun cdv A outer s H E hr=>by
    have Sc:=zA
    refine Qi ?_ ?_;exact GW 3 Sc.nd;(refine Qi ?_ ?_;(refine Qx 4 Sc.nd ?_;exact Qn);(refine Qi ?_ ?_;(refine q8 PassesOwn.never rfl ?_ ?_ ?_;(refine Xa ?_;(refine Qz h_kid_counts hr (by decide) QH ?_;(refine Qd ?_ ?_;(refine Q2 Zq z_len PySem.boot_len ?_;(refine Qd ?_ ?_;exact Qa 0;exact Qj));(refine Qd ?_ ?_;exact Qa 2;exact Qj))));exact ZR 5 Sc.nd;(refine Qi ?_ ?_;(refine Qx 6 Sc.nd ?_;(refine Qq Zv ?_ ?_;exact Qa 4;exact Qa 5));(refine Qi ?_ ?_;(refine Qam 7 Sc.nd (caps:=[]) (idx:=[]) ⟨by with_unfolding_all rfl,by decide +kernel,rfl,by decide +kernel,rfl,(by exact trivial),by with_unfolding_all rfl,(by exact trivial),by decide⟩ rfl ?_ ?_ ?_;(refine Xa ?_;(refine uo ?_ ?_ ?_;exact Qa 0;(refine Yk ?_;exact Qa 4);(refine Yk ?_;exact Qa 6)));(exact fun _ _ _ _=>by exact zh);(exact fun _ _ _ _=>by refine QD (QK hr) ?_ ?_;exact Qa 0;exact Qn));(refine Qi ?_ ?_;(refine GG 3 ?_;(refine J3 ?_;(refine Qd ?_ ?_;(refine QD (QK hr) ?_ ?_;exact Qa 7;exact Qn);(refine Qd ?_ ?_;(refine KR yG z_tuple boot_tuple ?_;(refine Qd ?_ ?_;(refine uo ?_ ?_ ?_;exact Qa 7;(refine Yk ?_;exact Qn);exact xO);exact Qj));(refine Qd ?_ ?_;(refine Qcf z_tuple z_range rfl ?_;(refine Qd ?_ ?_;(refine Qq Zv ?_ ?_;exact Qa 1;exact Qa 4);(refine Qd ?_ ?_;(refine Qq Zv ?_ ?_;exact Qa 1;exact Qa 6);exact Qj)));exact Qj)))));(refine Qp ?_;(refine Qx 4 Sc.nd ?_;exact Qa 6))))));(refine Qp ?_;(refine vC 3 ?_;(refine QS ?_;exact Qa 3)))))
theorem zw:QG ["table", "room", "fills", "start", "pairs", "keys"] ["table", "room"] (Qm Z9):=⟨rfl,rfl,rfl,by decide +kernel,rfl,by decide +kernel,by decide +kernel⟩
theorem yN (F:Fun K "leaf_fills" "leaf_fills" Z9 g fd) (hm:mg "leaf_fills" = some (.ref g)) (z_len:mg "len" = none) (z_range:mg "range" = none) (z_tuple:mg "tuple" = none):Has P w K mg base "leaf_fills" 1 2 XF :=
  Zk F zw hm (fun _ _ _ _ _ _ us hl=>match us,hl with | [_,_],_=>rfl) fun cdv A outer s H E hr=>by
    have Sc:=zw
    refine Qi ?_ ?_;(refine Jk ?_ ?_ ?_;(refine YQ ?_;(refine GU ?_;exact Qa 0));(refine Qp ?_;(refine QS ?_;(refine XT ?_;(refine Qd ?_ ?_;(refine J3 ?_;(refine Qd ?_ ?_;exact JZ;(refine Qd ?_ ?_;(refine J3 ?_;exact Qj);(refine Qd ?_ ?_;(refine J3 ?_;exact Qj);exact Qj))));exact Qj))));exact Zj);(refine Qi ?_ ?_;exact GW 2 Sc.nd;(refine Qi ?_ ?_;(refine qJ PassesOwn.never rfl ?_ ?_ ?_;(refine gj rfl z_range ?_;(refine Qd ?_ ?_;exact Qn;(refine Qd ?_ ?_;(refine Q2 Zq z_len PySem.boot_len ?_;(refine Qd ?_ ?_;exact Qa 0;exact Qj));(refine Qd ?_ ?_;exact Qa 1;exact Qj))));exact ZR 3 Sc.nd;(refine Qi ?_ ?_;(refine Qx 4 Sc.nd ?_;(refine QbA ?_ ?_ ?_;exact Qa 0;(refine Yk ?_;exact Qa 3);(refine Yk ?_;(refine Qq Zv ?_ ?_;exact Qa 3;exact Qa 1))));(refine Qi ?_ ?_;(refine Qx 5 Sc.nd ?_;(refine KR yG z_tuple boot_tuple ?_;(refine Qd ?_ ?_;(refine Yv (caps:=[]) (idx:=[]) ⟨by with_unfolding_all rfl,by decide +kernel,rfl,by decide +kernel,rfl,(by exact trivial),by with_unfolding_all rfl,(by exact trivial),by decide⟩ rfl ?_ ?_ ?_;(refine Xa ?_;exact Qa 4);(exact fun _ _ _ _=>by exact zh);(exact fun _ _ _ _=>by refine QD (QK hr) ?_ ?_;exact Qa 0;exact Qn));exact Qj)));(refine Qp ?_;(refine GG 2 ?_;(refine J3 ?_;(refine Qd ?_ ?_;(refine QD (QK hr) ?_ ?_;exact Qa 5;exact Qn);(refine Qd ?_ ?_;exact Qa 5;(refine Qd ?_ ?_;(refine KR yG z_tuple boot_tuple ?_;(refine Qd ?_ ?_;(refine Yv (caps:=[]) (idx:=[]) ⟨by with_unfolding_all rfl,by decide +kernel,rfl,by decide +kernel,rfl,(by exact trivial),by with_unfolding_all rfl,(by exact trivial),by decide⟩ rfl ?_ ?_ ?_;(refine Xa ?_;exact Qa 4);(exact fun _ _ _ _=>by exact zh);(exact fun _ _ _ _=>by refine QD (QK hr) ?_ ?_;exact Qa 0;exact Qn));exact Qj));exact Qj)))))))));(refine Qp ?_;(refine vC 2 ?_;(refine QS ?_;exact Qa 2)))))
theorem VP:QG ["table", "room", "level", "fills", "pages"] ["table", "room"] (Qm Yy):=⟨rfl,rfl,rfl,by decide +kernel,rfl,by decide +kernel,by decide +kernel⟩
theorem Gx (F:Fun K "packed" "packed" Yy g fd) (hm:mg "packed" = some (.ref g)) (h_shelf_of:Has P w K mg base "shelf_of" 3 2 Y8) (h_linked:Has P w K mg base "linked" 1 3 Yz) (h_fork_fills:Has P w K mg base "fork_fills" 2 3 JL) (h_leaf_fills:Has P w K mg base "leaf_fills" 1 2 XF) (z_len:mg "len" = none):Has P w K mg base "packed" 4 2 XX :=
  Zk F VP hm (fun _ _ _ _ _ _ us hl=>match us,hl with | [_,_],_=>rfl) fun cdv A outer s H E hr=>by
    have Sc:=VP
    refine Qi ?_ ?_;(refine Qx 2 Sc.nd ?_;exact Qn);(refine Qi ?_ ?_;(refine Qx 3 Sc.nd ?_;(refine Qz h_leaf_fills hr (by decide) QH ?_;(refine Qd ?_ ?_;exact Qa 0;(refine Qd ?_ ?_;exact Qa 1;exact Qj))));(refine Qi ?_ ?_;(refine Qx 4 Sc.nd ?_;(refine Qz h_linked hr (by decide) QH ?_;(refine Qd ?_ ?_;exact Qa 2;(refine Qd ?_ ?_;exact Qa 3;(refine Qd ?_ ?_;exact Qn;exact Qj)))));(refine Qi ?_ ?_;(refine yH 100000 PassesOwn.never ?_ ?_;(refine Q8 Qcm ?_ ?_ (QW _);(refine Q2 Zq z_len PySem.boot_len ?_;(refine Qd ?_ ?_;exact Qa 3;exact Qj));exact Qn);(refine Qi ?_ ?_;(refine gJ 2 Sc.nd ?_;exact Qn);(refine Qi ?_ ?_;(refine Qx 3 Sc.nd ?_;(refine Qz h_fork_fills hr (by decide) QH ?_;(refine Qd ?_ ?_;exact Qa 3;(refine Qd ?_ ?_;(refine Qq qT ?_ ?_;(refine Q2 Zq z_len PySem.boot_len ?_;(refine Qd ?_ ?_;exact Qa 4;exact Qj));(refine Q2 Zq z_len PySem.boot_len ?_;(refine Qd ?_ ?_;exact Qa 3;exact Qj)));(refine Qd ?_ ?_;(refine Qq Zv ?_ ?_;exact Qa 1;exact Qn);exact Qj)))));(refine Qp ?_;(refine Zm ?_;(refine Jq YK PySem.F.plainAttrs_list PySem.F.slot_list_extend PySem.F.type_list_extend ?_ ?_;exact Qa 4;(refine Qd ?_ ?_;(refine Qz h_linked hr (by decide) QH ?_;(refine Qd ?_ ?_;exact Qa 2;(refine Qd ?_ ?_;exact Qa 3;(refine Qd ?_ ?_;(refine Q2 Zq z_len PySem.boot_len ?_;(refine Qd ?_ ?_;exact Qa 4;exact Qj));exact Qj))));exact Qj)))))));(refine Qp ?_;(refine QS ?_;(refine Qz h_shelf_of hr (by decide) QH ?_;(refine Qd ?_ ?_;exact Qa 4;(refine Qd ?_ ?_;exact Qa 1;exact Qj))))))))
theorem qX:QG ["self"] ["self"] (Qm ZM):=⟨rfl,rfl,rfl,by decide +kernel,rfl,by decide +kernel,by decide +kernel⟩
theorem xJ {C:Addr} (F:Fun K "pages" "Shelf.pages" ZM g fd) (nc:ClsN K "Shelf" C) (cl:Cls K C) (me:jY K C "pages" g) (z_len:mg "len" = none) (k_Shelf_kept:X9 K "Shelf" "kept"):Xq P w K mg base "Shelf" "pages" 1 1 ZF :=
  XN nc cl me F qX (fun _ _ _ _ _ _ us hl=>match us,hl with | [_],_=>rfl) fun cdv A outer s H E hr=>by
    have Sc:=qX
    refine Qp ?_;(refine QS ?_;(refine Q2 Zq z_len PySem.boot_len ?_;(refine Qd ?_ ?_;(refine zX k_Shelf_kept ?_;exact Qa 0);exact Qj)))
theorem zK:QG ["self"] ["self"] (Qm Z5):=⟨rfl,rfl,rfl,by decide +kernel,rfl,by decide +kernel,by decide +kernel⟩
theorem yc {C:Addr} (F:Fun K "root" "Shelf.root" Z5 g fd) (nc:ClsN K "Shelf" C) (cl:Cls K C) (me:jY K C "root" g) (k_Shelf_top:X9 K "Shelf" "top"):Xq P w K mg base "Shelf" "root" 1 1 QV :=
  XN nc cl me F zK (fun _ _ _ _ _ _ us hl=>match us,hl with | [_],_=>rfl) fun cdv A outer s H E hr=>by
    have Sc:=zK
    refine Qp ?_;(refine QS ?_;(refine zX k_Shelf_top ?_;exact Qa 0))
theorem YJ:QG ["self"] ["self"] (Qm ZB):=⟨rfl,rfl,rfl,by decide +kernel,rfl,by decide +kernel,by decide +kernel⟩
theorem jv {C:Addr} (F:Fun K "picture" "Shelf.picture" ZB g fd) (nc:ClsN K "Shelf" C) (cl:Cls K C) (me:jY K C "picture" g) (z_list:mg "list" = none) (k_Shelf_kept:X9 K "Shelf" "kept"):Xq P w K mg base "Shelf" "picture" 1 1 Q1 :=
  XN nc cl me F YJ (fun _ _ _ _ _ _ us hl=>match us,hl with | [_],_=>rfl) fun cdv A outer s H E hr=>by
    have Sc:=YJ
    refine Qp ?_;(refine QS ?_;(refine KR QaY z_list boot_list ?_;(refine Qd ?_ ?_;(refine zX k_Shelf_kept ?_;exact Qa 0);exact Qj)))
theorem jo:QG ["pages", "numbers"] ["pages", "numbers"] (Qm Jw):=⟨rfl,rfl,rfl,by decide +kernel,rfl,by decide +kernel,by decide +kernel⟩
theorem Vm (F:Fun K "first_kid" "first_kid" Jw g fd) (hm:mg "first_kid" = some (.ref g)) {t_PARTS:Tok} (g_PARTS:mg "PARTS" = some (.int 2 t_PARTS)):Has P w K mg base "first_kid" 1 2 Ju :=
  Zk F jo hm (fun _ _ _ _ _ _ us hl=>match us,hl with | [_,_],_=>rfl) fun cdv A outer s H E hr=>by
    have Sc:=jo
    refine Qi ?_ ?_;(refine Jk ?_ ?_ ?_;(refine DW.pt ?_;(refine xg ?_ ?_;(refine YQ ?_;(refine GU ?_;exact Qa 1));(refine yh ?_;(refine YQ ?_;(refine GU ?_;(refine QD (QK hr) ?_ ?_;(refine QD (QK hr) ?_ ?_;exact Qa 0;(refine QD (QK hr) ?_ ?_;exact Qa 1;exact Qn));exact Zp rfl g_PARTS))))));(refine Qp ?_;(refine QS ?_;exact JZ));exact Zj);(refine Qp ?_;(refine QS ?_;(refine QD (QK hr) ?_ ?_;(refine QD (QK hr) ?_ ?_;(refine QD (QK hr) ?_ ?_;exact Qa 0;(refine QD (QK hr) ?_ ?_;exact Qa 1;exact Qn));exact Zp rfl g_PARTS);exact Qn)))
theorem xp:QG ["pages", "leftmost", "listed", "numbers", "number"] ["pages", "leftmost", "listed"] (Qm J0):=⟨rfl,rfl,rfl,by decide +kernel,rfl,by decide +kernel,by decide +kernel⟩
theorem Us (F:Fun K "side_run" "side_run" J0 g fd) (hm:mg "side_run" = some (.ref g)) (z_len:mg "len" = none) {t_SIDE:Tok} (g_SIDE:mg "SIDE" = some (.int 4 t_SIDE)):Has P w K mg base "side_run" 1 3 Y1 :=
  Zk F xp hm (fun _ _ _ _ _ _ us hl=>match us,hl with | [_,_,_],_=>rfl) fun cdv A outer s H E hr=>by
    have Sc:=xp
    refine Qi ?_ ?_;(refine Qx 3 Sc.nd ?_;(refine Xe ?_;exact Qj));(refine Qi ?_ ?_;(refine Qx 4 Sc.nd ?_;exact Qa 1);(refine Qi ?_ ?_;(refine yH 100000 PassesOwn.never ?_ ?_;(refine DW.pt ?_;(refine UU ?_ ?_;(refine Q8 uz ?_ ?_ (QW _);exact Qa 4;exact JZ);(refine UU ?_ ?_;(refine KL QbP vH ?_ ?_ ?_;exact Qn;exact Qa 4;(refine Q2 Zq z_len PySem.boot_len ?_;(refine Qd ?_ ?_;exact Qa 0;exact Qj)));(refine UR ?_;(refine Q8 (vw (QK hr)) ?_ ?_ (by with_unfolding_all rfl);exact Qa 4;exact Qa 2)))));(refine Qi ?_ ?_;(refine US ?_ ?_;exact xt;(refine V2 (QK hr) ?_ ?_;exact Qa 2;exact Qa 4));(refine Qi ?_ ?_;(refine Zm ?_;(refine Jq JN PySem.F.plainAttrs_list PySem.F.slot_list_append PySem.F.type_list_append ?_ ?_;exact Qa 3;(refine Qd ?_ ?_;exact Qa 4;exact Qj)));(refine Qp ?_;(refine Qx 4 Sc.nd ?_;(refine QD (QK hr) ?_ ?_;(refine QD (QK hr) ?_ ?_;exact Qa 0;exact Qa 4);exact Zp rfl g_SIDE))))));(refine Qp ?_;(refine QS ?_;exact Qa 3))))
theorem qG:QG ["pages", "root", "lists", "listed", "leftmost", "numbers"] ["pages", "root"] (Qm ZQ):=⟨rfl,rfl,rfl,by decide +kernel,rfl,by decide +kernel,by decide +kernel⟩
theorem xE (F:Fun K "level_lists" "level_lists" ZQ g fd) (hm:mg "level_lists" = some (.ref g)) (h_first_kid:Has P w K mg base "first_kid" 1 2 Ju) (h_side_run:Has P w K mg base "side_run" 1 3 Y1) (z_len:mg "len" = none) {t_LEVEL:Tok} (g_LEVEL:mg "LEVEL" = some (.int 0 t_LEVEL)):Has P w K mg base "level_lists" 2 2 QX :=
  Zk F qG hm (fun _ _ _ _ _ _ us hl=>match us,hl with | [_,_],_=>rfl) fun cdv A outer s H E hr=>by
    have Sc:=qG
    refine Qi ?_ ?_;(refine Qx 2 Sc.nd ?_;(refine Xe ?_;exact Qj));(refine Qi ?_ ?_;(refine Qx 3 Sc.nd ?_;exact x8);(refine Qi ?_ ?_;(refine Qx 4 Sc.nd ?_;exact Qa 1);(refine Qi ?_ ?_;(refine yH 100000 PassesOwn.never ?_ ?_;(refine Q8 QbP ?_ ?_ (QW _);(refine Q2 Zq z_len PySem.boot_len ?_;(refine Qd ?_ ?_;exact Qa 2;exact Qj));(refine QD (QK hr) ?_ ?_;(refine QD (QK hr) ?_ ?_;exact Qa 0;exact Qa 1);exact Zp rfl g_LEVEL));(refine Qi ?_ ?_;(refine Qx 5 Sc.nd ?_;(refine Qz h_side_run hr (by decide) QH ?_;(refine Qd ?_ ?_;exact Qa 0;(refine Qd ?_ ?_;exact Qa 4;(refine Qd ?_ ?_;exact Qa 3;exact Qj)))));(refine Qi ?_ ?_;(refine Zm ?_;(refine Jq JN PySem.F.plainAttrs_list PySem.F.slot_list_append PySem.F.type_list_append ?_ ?_;exact Qa 2;(refine Qd ?_ ?_;exact Qa 5;exact Qj)));(refine Qp ?_;(refine Qx 4 Sc.nd ?_;(refine Qz h_first_kid hr (by decide) QH ?_;(refine Qd ?_ ?_;exact Qa 0;(refine Qd ?_ ?_;exact Qa 5;exact Qj))))))));(refine Qp ?_;(refine QS ?_;exact Qa 2)))))
theorem VB:QG ["shelf"] ["shelf"] (Qm YI):=⟨rfl,rfl,rfl,by decide +kernel,rfl,by decide +kernel,by decide +kernel⟩
theorem vh (F:Fun K "levels" "levels" YI g fd) (hm:mg "levels" = some (.ref g)) (h_Shelf_root:Xq P w K mg base "Shelf" "root" 1 1 QV) (h_Shelf_picture:Xq P w K mg base "Shelf" "picture" 1 1 Q1) (h_level_lists:Has P w K mg base "level_lists" 2 2 QX):Has P w K mg base "levels" 3 1 Z1 :=
  Zk F VB hm (fun _ _ _ _ _ _ us hl=>match us,hl with | [_],_=>rfl) fun cdv A outer s H E hr=>by
    have Sc:=VB
    refine Qp ?_;(refine QS ?_;(refine Qz h_level_lists hr (by decide) QH ?_;(refine Qd ?_ ?_;(refine Ji h_Shelf_picture hr (by decide) QH ?_;exact Qa 0);(refine Qd ?_ ?_;(refine Ji h_Shelf_root hr (by decide) QH ?_;exact Qa 0);exact Qj))))
theorem zx:QG ["number", "page", "begin", "kid_begins", "kids", "wanted", "told", "place", "kid"] ["number", "page", "begin", "kid_begins"] (Qm Z7):=⟨rfl,rfl,rfl,by decide +kernel,rfl,by decide +kernel,by decide +kernel⟩
theorem xW (F:Fun K "kid_faults" "kid_faults" Z7 g fd) (hm:mg "kid_faults" = some (.ref g)) (z_len:mg "len" = none) (z_range:mg "range" = none) {t_KEYS:Tok} (g_KEYS:mg "KEYS" = some (.int 1 t_KEYS)) {t_PARTS:Tok} (g_PARTS:mg "PARTS" = some (.int 2 t_PARTS)):Has P w K mg base "kid_faults" 1 4 JF :=
  Zk F zx hm (fun _ _ _ _ _ _ us hl=>match us,hl with | [_,_,_,_],_=>rfl) fun cdv A outer s H E hr=>by
    have Sc:=zx
    refine Qi ?_ ?_;(refine Qx 4 Sc.nd ?_;(refine QD (QK hr) ?_ ?_;exact Qa 1;exact Zp rfl g_PARTS));(refine Qi ?_ ?_;(refine Qx 5 Sc.nd ?_;(refine Qq Zv ?_ ?_;(refine J3 ?_;(refine Qd ?_ ?_;exact Qa 2;exact Qj));(refine QD (QK hr) ?_ ?_;exact Qa 1;exact Zp rfl g_KEYS)));(refine Qi ?_ ?_;(refine Qx 6 Sc.nd ?_;(refine Xe ?_;exact Qj));(refine Qi ?_ ?_;(refine qJ PassesOwn.never rfl ?_ ?_ ?_;(refine YF rfl z_range ?_;(refine Qd ?_ ?_;(refine Q2 Zq z_len PySem.boot_len ?_;(refine Qd ?_ ?_;exact Qa 4;exact Qj));exact Qj));exact ZR 7 Sc.nd;(refine Qi ?_ ?_;(refine Qx 8 Sc.nd ?_;(refine QD (QK hr) ?_ ?_;exact Qa 4;exact Qa 7));(refine Qp ?_;(refine Jk ?_ ?_ ?_;(refine DW.pt ?_;(refine xg ?_ ?_;(refine Q8 QfT ?_ ?_ (QW _);exact Qa 7;(refine Q2 Zq z_len PySem.boot_len ?_;(refine Qd ?_ ?_;exact Qa 5;exact Qj)));(refine xg ?_ ?_;(refine Q8 (vw (QK hr)) ?_ ?_ (by with_unfolding_all rfl);exact Qa 8;exact Qa 3);(refine yh ?_;(refine Q8 (zZ hr.units) ?_ ?_ (QW _);(refine QD (QK hr) ?_ ?_;exact Qa 3;exact Qa 8);(refine QD (QK hr) ?_ ?_;exact Qa 5;exact Qa 7))))));(refine Qp ?_;(refine Zm ?_;(refine Jq JN PySem.F.plainAttrs_list PySem.F.slot_list_append PySem.F.type_list_append ?_ ?_;exact Qa 6;(refine Qd ?_ ?_;(refine J3 ?_;(refine Qd ?_ ?_;exact Vc;(refine Qd ?_ ?_;exact Qa 0;(refine Qd ?_ ?_;exact Qa 7;exact Qj))));exact Qj))));exact Zj))));(refine Qp ?_;(refine QS ?_;exact Qa 6)))))
theorem qo:QG ["page"] ["page"] (Qm ZI):=⟨rfl,rfl,rfl,by decide +kernel,rfl,by decide +kernel,by decide +kernel⟩
theorem jU (F:Fun K "wanted_parts" "wanted_parts" ZI g fd) (hm:mg "wanted_parts" = some (.ref g)) (z_len:mg "len" = none) {t_LEVEL:Tok} (g_LEVEL:mg "LEVEL" = some (.int 0 t_LEVEL)) {t_KEYS:Tok} (g_KEYS:mg "KEYS" = some (.int 1 t_KEYS)):Has P w K mg base "wanted_parts" 1 1 JK :=
  Zk F qo hm (fun _ _ _ _ _ _ us hl=>match us,hl with | [_],_=>rfl) fun cdv A outer s H E hr=>by
    have Sc:=qo
    refine Qp ?_;(refine QS ?_;(refine VV ?_ ?_ ?_;(refine Q8 (Gw hr.units) ?_ ?_ (QW _);(refine QD (QK hr) ?_ ?_;exact Qa 0;exact Zp rfl g_LEVEL);exact Qn);(refine Q2 Zq z_len PySem.boot_len ?_;(refine Qd ?_ ?_;(refine QD (QK hr) ?_ ?_;exact Qa 0;exact Zp rfl g_KEYS);exact Qj));(refine Qq Zv ?_ ?_;(refine Q2 Zq z_len PySem.boot_len ?_;(refine Qd ?_ ?_;(refine QD (QK hr) ?_ ?_;exact Qa 0;exact Zp rfl g_KEYS);exact Qj));exact Qn)))
theorem zI:QG ["page", "begin", "keys", "high"] ["page", "begin"] (Qm Jc):=⟨rfl,rfl,rfl,by decide +kernel,rfl,by decide +kernel,by decide +kernel⟩
theorem Vd (F:Fun K "is_ordered" "is_ordered" Jc g fd) (hm:mg "is_ordered" = some (.ref g)) (z_all:mg "all" = none) (z_zip:mg "zip" = none) {t_HIGH:Tok} (g_HIGH:mg "HIGH" = some (.int 3 t_HIGH)) {t_KEYS:Tok} (g_KEYS:mg "KEYS" = some (.int 1 t_KEYS)):Has P w K mg base "is_ordered" 1 2 Xv :=
  Zk F zI hm (fun _ _ _ _ _ _ us hl=>match us,hl with | [_,_],_=>rfl) fun cdv A outer s H E hr=>by
    have Sc:=zI
    refine Qi ?_ ?_;(refine Qx 2 Sc.nd ?_;(refine QD (QK hr) ?_ ?_;exact Qa 0;exact Zp rfl g_KEYS));(refine Qi ?_ ?_;(refine Qx 3 Sc.nd ?_;(refine QD (QK hr) ?_ ?_;exact Qa 0;exact Zp rfl g_HIGH));(refine Qi ?_ ?_;(refine Jk ?_ ?_ ?_;(refine YQ ?_;(refine jd ?_;(refine Q2 (QaG rfl) z_all boot_all ?_;(refine Qd ?_ ?_;(refine Yv (caps:=[]) (idx:=[]) ⟨by with_unfolding_all rfl,by decide +kernel,rfl,by decide +kernel,rfl,(by exact trivial),by with_unfolding_all rfl,(by exact trivial),by decide⟩ rfl ?_ ?_ ?_;(refine Qbp ?_;(refine QbV (by rfl) (by exact z_zip) ?_ ?_;exact Qa 2;(refine uo ?_ ?_ ?_;exact Qa 2;(refine Yk ?_;exact Qn);exact xO)));(exact fun _ _ _ _=>by exact zh);(exact fun _ _ _ _=>by refine Xm vH ?_ ?_ (QW _);(refine QD (QK hr) ?_ ?_;exact Qa 0;exact Qn);(refine QD (QK hr) ?_ ?_;exact Qa 0;exact Qn)));exact Qj))));(refine Qp ?_;(refine QS ?_;exact xt));exact Zj);(refine Qi ?_ ?_;(refine Jk ?_ ?_ ?_;(refine DW.pt ?_;(refine UU ?_ ?_;(refine Q8 uz ?_ ?_ (QW _);exact Qa 1;exact JZ);(refine UR ?_;(refine YQ ?_;(refine jd ?_;(refine Q2 (QaG rfl) z_all boot_all ?_;(refine Qd ?_ ?_;(refine Yv (caps:=["begin"]) (idx:=[1]) ⟨by with_unfolding_all rfl,by decide +kernel,rfl,by decide +kernel,rfl,(by exact ⟨rfl,trivial⟩),by with_unfolding_all rfl,(by exact ⟨rfl,.inl rfl,⟨_,rfl⟩,(fun h=>NameKind.noConfusion (Option.some.inj (show some NameKind.cell = some NameKind.local from h))),trivial⟩),by decide⟩ rfl ?_ ?_ ?_;(refine Qbp ?_;(refine vd ?_;exact Qa 2));(exact fun _ _ _ _=>by exact zh);(exact fun _ _ _ _=>by refine Xm QbP ?_ ?_ (QW _);exact Qa 1;exact Qa 0));exact Qj)))))));(refine Qp ?_;(refine QS ?_;exact xt));exact Zj);(refine Qi ?_ ?_;(refine Jk ?_ ?_ ?_;(refine DW.pt ?_;(refine UU ?_ ?_;(refine Q8 uz ?_ ?_ (QW _);exact Qa 3;exact JZ);(refine UR ?_;(refine YQ ?_;(refine jd ?_;(refine Q2 (QaG rfl) z_all boot_all ?_;(refine Qd ?_ ?_;(refine Yv (caps:=["high"]) (idx:=[3]) ⟨by with_unfolding_all rfl,by decide +kernel,rfl,by decide +kernel,rfl,(by exact ⟨rfl,trivial⟩),by with_unfolding_all rfl,(by exact ⟨rfl,.inl rfl,⟨_,rfl⟩,(fun h=>NameKind.noConfusion (Option.some.inj (show some NameKind.cell = some NameKind.local from h))),trivial⟩),by decide⟩ rfl ?_ ?_ ?_;(refine Qbp ?_;(refine vd ?_;exact Qa 2));(exact fun _ _ _ _=>by exact zh);(exact fun _ _ _ _=>by refine Xm vH ?_ ?_ (QW _);exact Qa 0;exact Qa 1));exact Qj)))))));(refine Qp ?_;(refine QS ?_;exact xt));exact Zj);(refine Qp ?_;(refine QS ?_;(refine Qdb ?_ ?_;(refine Xm QcG ?_ ?_ (QW _);exact Qa 1;exact JZ);(refine Qdb ?_ ?_;(refine Xm QcG ?_ ?_ (QW _);exact Qa 3;exact JZ);(refine GI ?_;(refine Xm vH ?_ ?_ (QW _);exact Qa 1;exact Qa 3))))))))))
theorem qH:QG ["number", "page", "level", "begin", "follower", "told"] ["number", "page", "level", "begin", "follower"] (Qm ZN):=⟨rfl,rfl,rfl,by decide +kernel,rfl,by decide +kernel,by decide +kernel⟩
theorem xA (F:Fun K "page_faults" "page_faults" ZN g fd) (hm:mg "page_faults" = some (.ref g)) (h_wanted_parts:Has P w K mg base "wanted_parts" 1 1 JK) (h_is_ordered:Has P w K mg base "is_ordered" 1 2 Xv) (z_len:mg "len" = none) {t_HIGH:Tok} (g_HIGH:mg "HIGH" = some (.int 3 t_HIGH)) {t_SIDE:Tok} (g_SIDE:mg "SIDE" = some (.int 4 t_SIDE)) {t_PARTS:Tok} (g_PARTS:mg "PARTS" = some (.int 2 t_PARTS)) {t_LEVEL:Tok} (g_LEVEL:mg "LEVEL" = some (.int 0 t_LEVEL)):Has P w K mg base "page_faults" 2 5 ZO :=
  Zk F qH hm (fun _ _ _ _ _ _ us hl=>match us,hl with | [_,_,_,_,_],_=>rfl) fun cdv A outer s H E hr=>by
    have Sc:=qH
    refine Qi ?_ ?_;(refine Qx 5 Sc.nd ?_;(refine Xe ?_;exact Qj));(refine Qi ?_ ?_;(refine Jk ?_ ?_ ?_;(refine Q8 (zZ hr.units) ?_ ?_ (QW _);(refine QD (QK hr) ?_ ?_;exact Qa 1;exact Zp rfl g_LEVEL);exact Qa 2);(refine Qp ?_;(refine Zm ?_;(refine Jq JN PySem.F.plainAttrs_list PySem.F.slot_list_append PySem.F.type_list_append ?_ ?_;exact Qa 5;(refine Qd ?_ ?_;(refine J3 ?_;(refine Qd ?_ ?_;exact Vc;(refine Qd ?_ ?_;exact Qa 0;exact Qj)));exact Qj))));exact Zj);(refine Qi ?_ ?_;(refine Jk ?_ ?_ ?_;(refine YQ ?_;(refine jd ?_;(refine Qz h_is_ordered hr (by decide) QH ?_;(refine Qd ?_ ?_;exact Qa 1;(refine Qd ?_ ?_;exact Qa 3;exact Qj)))));(refine Qp ?_;(refine Zm ?_;(refine Jq JN PySem.F.plainAttrs_list PySem.F.slot_list_append PySem.F.type_list_append ?_ ?_;exact Qa 5;(refine Qd ?_ ?_;(refine J3 ?_;(refine Qd ?_ ?_;exact Vc;(refine Qd ?_ ?_;exact Qa 0;exact Qj)));exact Qj))));exact Zj);(refine Qi ?_ ?_;(refine Jk ?_ ?_ ?_;(refine Q8 (zZ hr.units) ?_ ?_ (QW _);(refine Q2 Zq z_len PySem.boot_len ?_;(refine Qd ?_ ?_;(refine QD (QK hr) ?_ ?_;exact Qa 1;exact Zp rfl g_PARTS);exact Qj));(refine Qz h_wanted_parts hr (by decide) QH ?_;(refine Qd ?_ ?_;exact Qa 1;exact Qj)));(refine Qp ?_;(refine Zm ?_;(refine Jq JN PySem.F.plainAttrs_list PySem.F.slot_list_append PySem.F.type_list_append ?_ ?_;exact Qa 5;(refine Qd ?_ ?_;(refine J3 ?_;(refine Qd ?_ ?_;exact Vc;(refine Qd ?_ ?_;exact Qa 0;exact Qj)));exact Qj))));exact Zj);(refine Qi ?_ ?_;(refine Jk ?_ ?_ ?_;(refine DW.pt ?_;(refine xg ?_ ?_;(refine Q8 (zZ hr.units) ?_ ?_ (QW _);(refine Xm QcG ?_ ?_ (QW _);(refine QD (QK hr) ?_ ?_;exact Qa 1;exact Zp rfl g_HIGH);exact JZ);(refine Xm QcG ?_ ?_ (QW _);(refine QD (QK hr) ?_ ?_;exact Qa 1;exact Zp rfl g_SIDE);exact JZ));(refine yh ?_;(refine Q8 (zZ hr.units) ?_ ?_ (QW _);(refine QD (QK hr) ?_ ?_;exact Qa 1;exact Zp rfl g_SIDE);exact Qa 4))));(refine Qp ?_;(refine Zm ?_;(refine Jq JN PySem.F.plainAttrs_list PySem.F.slot_list_append PySem.F.type_list_append ?_ ?_;exact Qa 5;(refine Qd ?_ ?_;(refine J3 ?_;(refine Qd ?_ ?_;exact Vc;(refine Qd ?_ ?_;exact Qa 0;exact Qj)));exact Qj))));exact Zj);(refine Qp ?_;(refine QS ?_;exact Qa 5))))))
theorem jb:QG ["pages", "numbers", "begins", "begin", "number"] ["pages", "numbers"] (Qm Jx):=⟨rfl,rfl,rfl,by decide +kernel,rfl,by decide +kernel,by decide +kernel⟩
theorem Vj (F:Fun K "begins_of" "begins_of" Jx g fd) (hm:mg "begins_of" = some (.ref g)) {t_HIGH:Tok} (g_HIGH:mg "HIGH" = some (.int 3 t_HIGH)):Has P w K mg base "begins_of" 1 2 Xf :=
  Zk F jb hm (fun _ _ _ _ _ _ us hl=>match us,hl with | [_,_],_=>rfl) fun cdv A outer s H E hr=>by
    have Sc:=jb
    refine Qi ?_ ?_;(refine Qx 2 Sc.nd ?_;exact x8);(refine Qi ?_ ?_;(refine Qx 3 Sc.nd ?_;exact JZ);(refine Qi ?_ ?_;(refine q8 PassesOwn.never rfl ?_ ?_ ?_;(refine Xa ?_;exact Qa 1);exact ZR 4 Sc.nd;(refine Qi ?_ ?_;(refine US ?_ ?_;exact Qa 3;(refine V2 (QK hr) ?_ ?_;exact Qa 2;exact Qa 4));(refine Qp ?_;(refine Qx 3 Sc.nd ?_;(refine QD (QK hr) ?_ ?_;(refine QD (QK hr) ?_ ?_;exact Qa 0;exact Qa 4);exact Zp rfl g_HIGH)))));(refine Qp ?_;(refine QS ?_;exact Qa 2))))
theorem qV:QG ["pages", "numbers", "level", "beneath", "begins", "kid_begins", "told", "place", "number", "page", "follower"] ["pages", "numbers", "level", "beneath"] (Qm ZP):=⟨rfl,rfl,rfl,by decide +kernel,rfl,by decide +kernel,by decide +kernel⟩
theorem xF (F:Fun K "list_faults" "list_faults" ZP g fd) (hm:mg "list_faults" = some (.ref g)) (h_kid_faults:Has P w K mg base "kid_faults" 1 4 JF) (h_page_faults:Has P w K mg base "page_faults" 2 5 ZO) (h_begins_of:Has P w K mg base "begins_of" 1 2 Xf) (z_len:mg "len" = none) (z_range:mg "range" = none):Has P w K mg base "list_faults" 3 4 J8 :=
  Zk F qV hm (fun _ _ _ _ _ _ us hl=>match us,hl with | [_,_,_,_],_=>rfl) fun cdv A outer s H E hr=>by
    have Sc:=qV
    refine Qi ?_ ?_;(refine Qx 4 Sc.nd ?_;(refine Qz h_begins_of hr (by decide) QH ?_;(refine Qd ?_ ?_;exact Qa 0;(refine Qd ?_ ?_;exact Qa 1;exact Qj))));(refine Qi ?_ ?_;(refine Qx 5 Sc.nd ?_;(refine Qz h_begins_of hr (by decide) QH ?_;(refine Qd ?_ ?_;exact Qa 0;(refine Qd ?_ ?_;exact Qa 3;exact Qj))));(refine Qi ?_ ?_;(refine Qx 6 Sc.nd ?_;(refine Xe ?_;exact Qj));(refine Qi ?_ ?_;(refine qJ PassesOwn.never rfl ?_ ?_ ?_;(refine YF rfl z_range ?_;(refine Qd ?_ ?_;(refine Q2 Zq z_len PySem.boot_len ?_;(refine Qd ?_ ?_;exact Qa 1;exact Qj));exact Qj));exact ZR 7 Sc.nd;(refine Qi ?_ ?_;(refine Qx 8 Sc.nd ?_;(refine QD (QK hr) ?_ ?_;exact Qa 1;exact Qa 7));(refine Qi ?_ ?_;(refine Qx 9 Sc.nd ?_;(refine QD (QK hr) ?_ ?_;exact Qa 0;exact Qa 8));(refine Qi ?_ ?_;(refine Qx 10 Sc.nd ?_;(refine VV ?_ ?_ ?_;(refine Q8 vH ?_ ?_ (QW _);(refine Qq Zv ?_ ?_;exact Qa 7;exact Qn);(refine Q2 Zq z_len PySem.boot_len ?_;(refine Qd ?_ ?_;exact Qa 1;exact Qj)));(refine QD (QK hr) ?_ ?_;exact Qa 1;(refine Qq Zv ?_ ?_;exact Qa 7;exact Qn));exact JZ));(refine Qi ?_ ?_;(refine Zm ?_;(refine Jq YK PySem.F.plainAttrs_list PySem.F.slot_list_extend PySem.F.type_list_extend ?_ ?_;exact Qa 6;(refine Qd ?_ ?_;(refine Qz h_page_faults hr (by decide) QH ?_;(refine Qd ?_ ?_;exact Qa 8;(refine Qd ?_ ?_;exact Qa 9;(refine Qd ?_ ?_;exact Qa 2;(refine Qd ?_ ?_;(refine QD (QK hr) ?_ ?_;exact Qa 4;exact Qa 8);(refine Qd ?_ ?_;exact Qa 10;exact Qj))))));exact Qj)));(refine Qp ?_;(refine Jk ?_ ?_ ?_;(refine Q8 Qcm ?_ ?_ (QW _);exact Qa 2;exact Qn);(refine Qp ?_;(refine Zm ?_;(refine Jq YK PySem.F.plainAttrs_list PySem.F.slot_list_extend PySem.F.type_list_extend ?_ ?_;exact Qa 6;(refine Qd ?_ ?_;(refine Qz h_kid_faults hr (by decide) QH ?_;(refine Qd ?_ ?_;exact Qa 8;(refine Qd ?_ ?_;exact Qa 9;(refine Qd ?_ ?_;(refine QD (QK hr) ?_ ?_;exact Qa 4;exact Qa 8);(refine Qd ?_ ?_;exact Qa 5;exact Qj)))));exact Qj))));exact Zj)))))));(refine Qp ?_;(refine QS ?_;exact Qa 6)))))
theorem VO:QG ["shelf", "pages", "lists", "told", "place", "level", "beneath"] ["shelf"] (Qm YH):=⟨rfl,rfl,rfl,by decide +kernel,rfl,by decide +kernel,by decide +kernel⟩
theorem G0 (F:Fun K "faults" "faults" YH g fd) (hm:mg "faults" = some (.ref g)) (h_list_faults:Has P w K mg base "list_faults" 3 4 J8) (h_Shelf_root:Xq P w K mg base "Shelf" "root" 1 1 QV) (h_level_lists:Has P w K mg base "level_lists" 2 2 QX) (h_Shelf_picture:Xq P w K mg base "Shelf" "picture" 1 1 Q1) (z_len:mg "len" = none) (z_range:mg "range" = none):Has P w K mg base "faults" 4 1 X5 :=
  Zk F VO hm (fun _ _ _ _ _ _ us hl=>match us,hl with | [_],_=>rfl) fun cdv A outer s H E hr=>by
    have Sc:=VO
    refine Qi ?_ ?_;(refine Qx 1 Sc.nd ?_;(refine Ji h_Shelf_picture hr (by decide) QH ?_;exact Qa 0));(refine Qi ?_ ?_;(refine Qx 2 Sc.nd ?_;(refine Qz h_level_lists hr (by decide) QH ?_;(refine Qd ?_ ?_;exact Qa 1;(refine Qd ?_ ?_;(refine Ji h_Shelf_root hr (by decide) QH ?_;exact Qa 0);exact Qj))));(refine Qi ?_ ?_;(refine Qx 3 Sc.nd ?_;(refine Xe ?_;exact Qj));(refine Qi ?_ ?_;(refine qJ PassesOwn.never rfl ?_ ?_ ?_;(refine YF rfl z_range ?_;(refine Qd ?_ ?_;(refine Q2 Zq z_len PySem.boot_len ?_;(refine Qd ?_ ?_;exact Qa 2;exact Qj));exact Qj));exact ZR 4 Sc.nd;(refine Qi ?_ ?_;(refine Qx 5 Sc.nd ?_;(refine Qq qT ?_ ?_;(refine Qq qT ?_ ?_;(refine Q2 Zq z_len PySem.boot_len ?_;(refine Qd ?_ ?_;exact Qa 2;exact Qj));exact Qn);exact Qa 4));(refine Qi ?_ ?_;(refine Qx 6 Sc.nd ?_;(refine VV ?_ ?_ ?_;(refine Q8 Qcm ?_ ?_ (QW _);exact Qa 5;exact Qn);(refine QD (QK hr) ?_ ?_;exact Qa 2;(refine Qq Zv ?_ ?_;exact Qa 4;exact Qn));(refine XT ?_;exact Qj)));(refine Qp ?_;(refine Zm ?_;(refine Jq YK PySem.F.plainAttrs_list PySem.F.slot_list_extend PySem.F.type_list_extend ?_ ?_;exact Qa 3;(refine Qd ?_ ?_;(refine Qz h_list_faults hr (by decide) QH ?_;(refine Qd ?_ ?_;exact Qa 1;(refine Qd ?_ ?_;(refine QD (QK hr) ?_ ?_;exact Qa 2;exact Qa 4);(refine Qd ?_ ?_;exact Qa 5;(refine Qd ?_ ?_;exact Qa 6;exact Qj)))));exact Qj)))))));(refine Qp ?_;(refine QS ?_;exact Qa 3)))))
theorem j7:QG ["shelf"] ["shelf"] (Qm JY):=⟨rfl,rfl,rfl,by decide +kernel,rfl,by decide +kernel,by decide +kernel⟩
theorem Ub (F:Fun K "is_sound" "is_sound" JY g fd) (hm:mg "is_sound" = some (.ref g)) (h_faults:Has P w K mg base "faults" 4 1 X5):Has P w K mg base "is_sound" 5 1 XU :=
  Zk F j7 hm (fun _ _ _ _ _ _ us hl=>match us,hl with | [_],_=>rfl) fun cdv A outer s H E hr=>by
    have Sc:=j7
    refine Qp ?_;(refine QS ?_;(refine Xm (Gw hr.units) ?_ ?_ (QW _);(refine Qz h_faults hr (by decide) QH ?_;(refine Qd ?_ ?_;exact Qa 0;exact Qj));(refine XT ?_;exact Qj)))
theorem yw:QG ["pages", "numbers", "kids", "number", "kid"] ["pages", "numbers"] (Qm XJ):=⟨rfl,rfl,rfl,by decide +kernel,rfl,by decide +kernel,by decide +kernel⟩
theorem K2 (F:Fun K "kids_of" "kids_of" XJ g fd) (hm:mg "kids_of" = some (.ref g)) {t_PARTS:Tok} (g_PARTS:mg "PARTS" = some (.int 2 t_PARTS)):Has P w K mg base "kids_of" 1 2 YG :=
  Zk F yw hm (fun _ _ _ _ _ _ us hl=>match us,hl with | [_,_],_=>rfl) fun cdv A outer s H E hr=>by
    have Sc:=yw
    refine Qi ?_ ?_;(refine Qx 2 Sc.nd ?_;exact x8);(refine Qi ?_ ?_;(refine q8 PassesOwn.never rfl ?_ ?_ ?_;(refine Xa ?_;exact Qa 1);exact ZR 3 Sc.nd;(refine Qp ?_;(refine qJ PassesOwn.never rfl ?_ ?_ ?_;(refine vd ?_;(refine QD (QK hr) ?_ ?_;(refine QD (QK hr) ?_ ?_;exact Qa 0;exact Qa 3);exact Zp rfl g_PARTS));exact ZR 4 Sc.nd;(refine Qp ?_;(refine US ?_ ?_;exact xt;(refine V2 (QK hr) ?_ ?_;exact Qa 2;exact Qa 4))))));(refine Qp ?_;(refine QS ?_;exact Qa 2)))
theorem Vt:QG ["shelf", "pages", "lists", "told", "place", "kids"] ["shelf"] (Qm YC):=⟨rfl,rfl,rfl,by decide +kernel,rfl,by decide +kernel,by decide +kernel⟩
theorem va (F:Fun K "untold" "untold" YC g fd) (hm:mg "untold" = some (.ref g)) (h_kids_of:Has P w K mg base "kids_of" 1 2 YG) (h_Shelf_root:Xq P w K mg base "Shelf" "root" 1 1 QV) (h_level_lists:Has P w K mg base "level_lists" 2 2 QX) (h_Shelf_picture:Xq P w K mg base "Shelf" "picture" 1 1 Q1) (z_len:mg "len" = none) (z_range:mg "range" = none):Has P w K mg base "untold" 3 1 qL :=
  Zk F Vt hm (fun _ _ _ _ _ _ us hl=>match us,hl with | [_],_=>rfl) fun cdv A outer s H E hr=>by
    have Sc:=Vt
    refine Qi ?_ ?_;(refine Qx 1 Sc.nd ?_;(refine Ji h_Shelf_picture hr (by decide) QH ?_;exact Qa 0));(refine Qi ?_ ?_;(refine Qx 2 Sc.nd ?_;(refine Qz h_level_lists hr (by decide) QH ?_;(refine Qd ?_ ?_;exact Qa 1;(refine Qd ?_ ?_;(refine Ji h_Shelf_root hr (by decide) QH ?_;exact Qa 0);exact Qj))));(refine Qi ?_ ?_;(refine Qx 3 Sc.nd ?_;(refine Xe ?_;exact Qj));(refine Qi ?_ ?_;(refine qJ PassesOwn.never rfl ?_ ?_ ?_;(refine gZ rfl z_range ?_;(refine Qd ?_ ?_;exact Qn;(refine Qd ?_ ?_;(refine Q2 Zq z_len PySem.boot_len ?_;(refine Qd ?_ ?_;exact Qa 2;exact Qj));exact Qj)));exact ZR 4 Sc.nd;(refine Qi ?_ ?_;(refine Qx 5 Sc.nd ?_;(refine Qz h_kids_of hr (by decide) QH ?_;(refine Qd ?_ ?_;exact Qa 1;(refine Qd ?_ ?_;(refine QD (QK hr) ?_ ?_;exact Qa 2;(refine Qq qT ?_ ?_;exact Qa 4;exact Qn));exact Qj))));(refine Qp ?_;(refine Zm ?_;(refine Jq YK PySem.F.plainAttrs_list PySem.F.slot_list_extend PySem.F.type_list_extend ?_ ?_;exact Qa 3;(refine Qd ?_ ?_;(refine Yv (caps:=["kids"]) (idx:=[5]) ⟨by with_unfolding_all rfl,by decide +kernel,rfl,by decide +kernel,rfl,(by exact ⟨rfl,trivial⟩),by with_unfolding_all rfl,(by exact ⟨rfl,.inl rfl,⟨_,rfl⟩,(fun h=>NameKind.noConfusion (Option.some.inj (show some NameKind.cell = some NameKind.local from h))),trivial⟩),by decide⟩ rfl ?_ ?_ ?_;(refine Xa ?_;(refine QD (QK hr) ?_ ?_;exact Qa 2;exact Qa 4));(exact fun _ _ _ _=>by refine QcS ?_;(refine Q8 (vw (QK hr)) ?_ ?_ (by with_unfolding_all rfl);exact Qa 0;exact Qa 1));(exact fun _ _ _ _=>by exact Qa 0));exact Qj))))));(refine Qp ?_;(refine QS ?_;exact Qa 3)))))
theorem xm:QG ["shelf", "pages", "table", "number"] ["shelf"] (Qm J2):=⟨rfl,rfl,rfl,by decide +kernel,rfl,by decide +kernel,by decide +kernel⟩
theorem UA (F:Fun K "table_of" "table_of" J2 g fd) (hm:mg "table_of" = some (.ref g)) (h_Shelf_root:Xq P w K mg base "Shelf" "root" 1 1 QV) (h_level_lists:Has P w K mg base "level_lists" 2 2 QX) (h_Shelf_picture:Xq P w K mg base "Shelf" "picture" 1 1 Q1) (z_list:mg "list" = none) (z_zip:mg "zip" = none) {t_KEYS:Tok} (g_KEYS:mg "KEYS" = some (.int 1 t_KEYS)) {t_PARTS:Tok} (g_PARTS:mg "PARTS" = some (.int 2 t_PARTS)):Has P w K mg base "table_of" 3 1 Z0 :=
  Zk F xm hm (fun _ _ _ _ _ _ us hl=>match us,hl with | [_],_=>rfl) fun cdv A outer s H E hr=>by
    have Sc:=xm
    refine Qi ?_ ?_;(refine Qx 1 Sc.nd ?_;(refine Ji h_Shelf_picture hr (by decide) QH ?_;exact Qa 0));(refine Qi ?_ ?_;(refine Qx 2 Sc.nd ?_;(refine Xe ?_;exact Qj));(refine Qi ?_ ?_;(refine q8 PassesOwn.never rfl ?_ ?_ ?_;(refine Xa ?_;(refine QD (QK hr) ?_ ?_;(refine Qz h_level_lists hr (by decide) QH ?_;(refine Qd ?_ ?_;exact Qa 1;(refine Qd ?_ ?_;(refine Ji h_Shelf_root hr (by decide) QH ?_;exact Qa 0);exact Qj)));(refine vf ?_;exact Qn)));exact ZR 3 Sc.nd;(refine Qp ?_;(refine Zm ?_;(refine Jq YK PySem.F.plainAttrs_list PySem.F.slot_list_extend PySem.F.type_list_extend ?_ ?_;exact Qa 2;(refine Qd ?_ ?_;(refine Qca z_list z_zip rfl ?_ ?_;(refine QD (QK hr) ?_ ?_;(refine QD (QK hr) ?_ ?_;exact Qa 1;exact Qa 3);exact Zp rfl g_KEYS);(refine QD (QK hr) ?_ ?_;(refine QD (QK hr) ?_ ?_;exact Qa 1;exact Qa 3);exact Zp rfl g_PARTS));exact Qj)))));(refine Qp ?_;(refine QS ?_;exact Qa 2))))
theorem xa:QG ["shelf", "table", "numbers", "row"] ["shelf", "table"] (Qm J5):=⟨rfl,rfl,rfl,by decide +kernel,rfl,by decide +kernel,by decide +kernel⟩
theorem Um (F:Fun K "_law_good" "_law_good" J5 g fd) (hm:mg "_law_good" = some (.ref g)) (h_Shelf_pages:Xq P w K mg base "Shelf" "pages" 1 1 ZF) (h_Shelf_root:Xq P w K mg base "Shelf" "root" 1 1 QV) (h_levels:Has P w K mg base "levels" 3 1 Z1) (h_faults:Has P w K mg base "faults" 4 1 X5) (h_is_sound:Has P w K mg base "is_sound" 5 1 XU) (h_untold:Has P w K mg base "untold" 3 1 qL) (h_table_of:Has P w K mg base "table_of" 3 1 Z0) (z_list:mg "list" = none) (z_range:mg "range" = none):Has P w K mg base "_law_good" 6 2 Jp :=
  Zk F xa hm (fun _ _ _ _ _ _ us hl=>match us,hl with | [_,_],_=>rfl) fun cdv A outer s H E hr=>by
    have Sc:=xa
    refine Qi ?_ ?_;(refine Jk ?_ ?_ ?_;(refine DW.pt ?_;(refine xg ?_ ?_;(refine Q8 (zZ hr.units) ?_ ?_ (QW _);(refine Qz h_faults hr (by decide) QH ?_;(refine Qd ?_ ?_;exact Qa 0;exact Qj));(refine XT ?_;exact Qj));(refine xg ?_ ?_;(refine Q8 uz ?_ ?_ (QW _);(refine Qz h_is_sound hr (by decide) QH ?_;(refine Qd ?_ ?_;exact Qa 0;exact Qj));exact xt);(refine xg ?_ ?_;(refine Q8 (zZ hr.units) ?_ ?_ (QW _);(refine Qz h_untold hr (by decide) QH ?_;(refine Qd ?_ ?_;exact Qa 0;exact Qj));(refine XT ?_;exact Qj));(refine yh ?_;(refine Q8 (zZ hr.units) ?_ ?_ (QW _);(refine Qz h_table_of hr (by decide) QH ?_;(refine Qd ?_ ?_;exact Qa 0;exact Qj));exact Qa 1))))));(refine Qp ?_;(refine QS ?_;exact xt));exact Zj);(refine Qi ?_ ?_;(refine Qx 2 Sc.nd ?_;(refine XT ?_;exact Qj));(refine Qi ?_ ?_;(refine q8 PassesOwn.never rfl ?_ ?_ ?_;(refine Xa ?_;(refine Qb0 ?_;(refine Qz h_levels hr (by decide) QH ?_;(refine Qd ?_ ?_;exact Qa 0;exact Qj))));exact ZR 3 Sc.nd;(refine Qp ?_;(refine Qx 2 Sc.nd ?_;(refine Qq Qd2 ?_ ?_;exact Qa 2;exact Qa 3))));(refine Qp ?_;(refine QS ?_;(refine Qan ?_ ?_;(refine Xm (Gw hr.units) ?_ ?_ (QW _);exact Qa 2;(refine Qag z_list z_range rfl ?_;(refine Qd ?_ ?_;(refine Ji h_Shelf_pages hr (by decide) QH ?_;exact Qa 0);exact Qj)));(refine GI ?_;(refine Xm (Gw hr.units) ?_ ?_ (QW _);(refine QD (QK hr) ?_ ?_;exact Qa 2;(refine vf ?_;exact Qn));(refine Ji h_Shelf_root hr (by decide) QH ?_;exact Qa 0))))))))
theorem jg:QG ["cell", "turn", "number"] ["cell", "turn"] (Qm Jt):=⟨rfl,rfl,rfl,by decide +kernel,rfl,by decide +kernel,by decide +kernel⟩
theorem Vo (F:Fun K "_law_churn" "_law_churn" Jt g fd) (hm:mg "_law_churn" = some (.ref g)):Has P w K mg base "_law_churn" 1 2 Qv :=
  Zk F jg hm (fun _ _ _ _ _ _ us hl=>match us,hl with | [_,_],_=>rfl) fun cdv A outer s H E hr=>by
    have Sc:=jg
    refine Qi ?_ ?_;(refine Qx 2 Sc.nd ?_;(refine Qq Zv ?_ ?_;(refine Qq Zv ?_ ?_;(refine Qq Zv ?_ ?_;(refine Qq JP ?_ ?_;exact Qa 0;exact Qn);(refine Qq Xt ?_ ?_;exact Qa 1;exact Qa 1));(refine Qq Xt ?_ ?_;exact Qn;exact Qa 1));exact Qn));(refine Qp ?_;(refine QS ?_;(refine Qq Qdg ?_ ?_;(refine Qq JP ?_ ?_;(refine Qq Xt ?_ ?_;(refine Qq JP ?_ ?_;(refine Qq Xt ?_ ?_;exact Qa 2;exact Qa 2);exact Qn);(refine Qq Zv ?_ ?_;exact Qa 2;(refine Qq Xt ?_ ?_;exact Qn;exact Qa 1)));exact Qn);exact Qn)))
theorem xq:QG ["cell", "room", "kind"] ["cell", "room"] (Qm J6):=⟨rfl,rfl,rfl,by decide +kernel,rfl,by decide +kernel,by decide +kernel⟩
theorem Ul (F:Fun K "_law_size" "_law_size" J6 g fd) (hm:mg "_law_size" = some (.ref g)) (h_law_churn:Has P w K mg base "_law_churn" 1 2 Qv) (z_min:mg "min" = none):Has P w K mg base "_law_size" 2 2 YV :=
  Zk F xq hm (fun _ _ _ _ _ _ us hl=>match us,hl with | [_,_],_=>rfl) fun cdv A outer s H E hr=>by
    have Sc:=xq
    refine Qi ?_ ?_;(refine Qx 2 Sc.nd ?_;(refine Qq JP ?_ ?_;(refine Qz h_law_churn hr (by decide) QH ?_;(refine Qd ?_ ?_;exact Qa 0;(refine Qd ?_ ?_;exact Qn;exact Qj)));exact Qn));(refine Qi ?_ ?_;(refine Jk ?_ ?_ ?_;(refine Q8 (ka hr.units) ?_ ?_ (QW _);exact Qa 2;exact Qn);(refine Qp ?_;(refine QS ?_;(refine Qq JP ?_ ?_;(refine Qz h_law_churn hr (by decide) QH ?_;(refine Qd ?_ ?_;exact Qa 0;(refine Qd ?_ ?_;exact Qn;exact Qj)));exact Qn)));exact Zj);(refine Qi ?_ ?_;(refine Jk ?_ ?_ ?_;(refine Q8 (ka hr.units) ?_ ?_ (QW _);exact Qa 2;exact Qn);(refine Qp ?_;(refine QS ?_;(refine Q2 (Qdj rfl) z_min boot_min ?_;(refine Qd ?_ ?_;exact Qn;(refine Qd ?_ ?_;(refine Qq Zv ?_ ?_;(refine Qq Xt ?_ ?_;(refine Qq Xt ?_ ?_;exact Qa 1;(refine Qq Zv ?_ ?_;exact Qa 1;exact Qn));(refine Qq Zv ?_ ?_;exact Qn;(refine Qq JP ?_ ?_;(refine Qz h_law_churn hr (by decide) QH ?_;(refine Qd ?_ ?_;exact Qa 0;(refine Qd ?_ ?_;exact Qn;exact Qj)));exact Qn)));(refine Qq Xt ?_ ?_;(refine Qq JP ?_ ?_;(refine Qz h_law_churn hr (by decide) QH ?_;(refine Qd ?_ ?_;exact Qa 0;(refine Qd ?_ ?_;exact Qn;exact Qj)));exact Qn);exact Qa 1));exact Qj)))));exact Zj);(refine Qi ?_ ?_;(refine Jk ?_ ?_ ?_;(refine Q8 (ka hr.units) ?_ ?_ (QW _);exact Qa 2;exact Qn);(refine Qp ?_;(refine QS ?_;(refine Q2 (Qdj rfl) z_min boot_min ?_;(refine Qd ?_ ?_;exact Qn;(refine Qd ?_ ?_;(refine Qq Zv ?_ ?_;(refine Qq Xt ?_ ?_;(refine Qq Xt ?_ ?_;exact Qa 1;(refine Qq Zv ?_ ?_;exact Qa 1;exact Qn));(refine Qq Zv ?_ ?_;exact Qa 1;exact Qn));(refine Qq JP ?_ ?_;(refine Qz h_law_churn hr (by decide) QH ?_;(refine Qd ?_ ?_;exact Qa 0;(refine Qd ?_ ?_;exact Qn;exact Qj)));(refine Qq Zv ?_ ?_;(refine Qq Xt ?_ ?_;exact Qn;exact Qa 1);exact Qn)));exact Qj)))));exact Zj);(refine Qp ?_;(refine QS ?_;(refine Qq JP ?_ ?_;(refine Qz h_law_churn hr (by decide) QH ?_;(refine Qd ?_ ?_;exact Qa 0;(refine Qd ?_ ?_;exact Qn;exact Qj)));exact Qn))))))
theorem qY:QG ["script", "k"] ["script", "k"] (Qm ZL):=⟨rfl,rfl,rfl,by decide +kernel,rfl,by decide +kernel,by decide +kernel⟩
theorem xx (F:Fun K "_law_cell_at" "_law_cell_at" ZL g fd) (hm:mg "_law_cell_at" = some (.ref g)) (z_len:mg "len" = none):Has P w K mg base "_law_cell_at" 1 2 QL :=
  Zk F qY hm (fun _ _ _ _ _ _ us hl=>match us,hl with | [_,_],_=>rfl) fun cdv A outer s H E hr=>by
    have Sc:=qY
    refine Qi ?_ ?_;(refine Jk ?_ ?_ ?_;(refine Q8 vH ?_ ?_ (QW _);exact Qa 1;(refine Q2 kN z_len PySem.boot_len ?_;(refine Qd ?_ ?_;exact Qa 0;exact Qj)));(refine Qp ?_;(refine QS ?_;(refine Qbj ?_ ?_;exact Qa 0;exact Qa 1)));exact Zj);(refine Qp ?_;(refine QS ?_;exact Qn))
theorem jn:QG ["script", "size", "key", "wide", "table", "k", "cell", "worth"] ["script", "size"] (Qm Jy):=⟨rfl,rfl,rfl,by decide +kernel,rfl,by decide +kernel,by decide +kernel⟩
theorem Vi (F:Fun K "_law_table" "_law_table" Jy g fd) (hm:mg "_law_table" = some (.ref g)) (h_law_churn:Has P w K mg base "_law_churn" 1 2 Qv) (h_law_cell_at:Has P w K mg base "_law_cell_at" 1 2 QL) (z_range:mg "range" = none) (z_max:mg "max" = none) (z_len:mg "len" = none):Has P w K mg base "_law_table" 2 2 Ya :=
  Zk F jn hm (fun _ _ _ _ _ _ us hl=>match us,hl with | [_,_],_=>rfl) fun cdv A outer s H E hr=>by
    have Sc:=jn
    refine Qi ?_ ?_;(refine Qx 2 Sc.nd ?_;(refine Qq qT ?_ ?_;(refine Qq JP ?_ ?_;(refine Qz h_law_churn hr (by decide) QH ?_;(refine Qd ?_ ?_;(refine Qz h_law_cell_at hr (by decide) QH ?_;(refine Qd ?_ ?_;exact Qa 0;(refine Qd ?_ ?_;exact Qn;exact Qj)));(refine Qd ?_ ?_;exact Qn;exact Qj)));exact Qn);exact Qn));(refine Qi ?_ ?_;(refine Qx 3 Sc.nd ?_;(refine Qq JP ?_ ?_;(refine Qz h_law_churn hr (by decide) QH ?_;(refine Qd ?_ ?_;(refine Qz h_law_cell_at hr (by decide) QH ?_;(refine Qd ?_ ?_;exact Qa 0;(refine Qd ?_ ?_;exact Qn;exact Qj)));(refine Qd ?_ ?_;exact Qn;exact Qj)));exact Qn));(refine Qi ?_ ?_;(refine Jk ?_ ?_ ?_;(refine Q8 (ka hr.units) ?_ ?_ (QW _);exact Qa 3;exact Qn);(refine Qp ?_;(refine Qx 2 Sc.nd ?_;(refine Qq qT ?_ ?_;(refine Qz h_law_churn hr (by decide) QH ?_;(refine Qd ?_ ?_;(refine Qz h_law_cell_at hr (by decide) QH ?_;(refine Qd ?_ ?_;exact Qa 0;(refine Qd ?_ ?_;exact Qn;exact Qj)));(refine Qd ?_ ?_;exact Qn;exact Qj)));(refine Qq VL ?_ ?_;exact Qn;exact Qn))));exact Zj);(refine Qi ?_ ?_;exact GW 4 Sc.nd;(refine Qi ?_ ?_;(refine qJ PassesOwn.never rfl ?_ ?_ ?_;(refine YF rfl z_range ?_;(refine Qd ?_ ?_;exact Qa 1;exact Qj));exact ZR 5 Sc.nd;(refine Qi ?_ ?_;(refine Qx 6 Sc.nd ?_;(refine Qq Zv ?_ ?_;(refine Qz h_law_cell_at hr (by decide) QH ?_;(refine Qd ?_ ?_;exact Qa 0;(refine Qd ?_ ?_;(refine Qq JP ?_ ?_;exact Qa 5;(refine Q2 (Qe4 rfl) z_max boot_max ?_;(refine Qd ?_ ?_;exact Qn;(refine Qd ?_ ?_;(refine Q2 kN z_len PySem.boot_len ?_;(refine Qd ?_ ?_;exact Qa 0;exact Qj));exact Qj))));exact Qj)));exact Qa 5));(refine Qi ?_ ?_;(refine Qx 7 Sc.nd ?_;(refine Qq qT ?_ ?_;(refine Qq JP ?_ ?_;(refine Qz h_law_churn hr (by decide) QH ?_;(refine Qd ?_ ?_;exact Qa 6;(refine Qd ?_ ?_;exact Qn;exact Qj)));exact Qn);exact Qn));(refine Qi ?_ ?_;(refine Jk ?_ ?_ ?_;(refine Q8 (ka hr.units) ?_ ?_ (QW _);(refine Qq JP ?_ ?_;(refine Qz h_law_churn hr (by decide) QH ?_;(refine Qd ?_ ?_;exact Qa 6;(refine Qd ?_ ?_;exact Qn;exact Qj)));exact Qn);exact Qn);(refine Qp ?_;(refine Qx 7 Sc.nd ?_;(refine Qq qT ?_ ?_;(refine Qq JP ?_ ?_;(refine Qq Zv ?_ ?_;(refine Qq Xt ?_ ?_;exact Qa 6;exact Qn);(refine Qq VL ?_ ?_;exact Qn;exact Qn));(refine Qq Zv ?_ ?_;(refine Qq Xt ?_ ?_;exact Qn;(refine Qq VL ?_ ?_;exact Qn;exact Qn));exact Qn));(refine Qq VL ?_ ?_;exact Qn;exact Qn))));exact Zj);(refine Qi ?_ ?_;(refine GG 4 ?_;(refine J3 ?_;(refine Qd ?_ ?_;exact Qa 2;(refine Qd ?_ ?_;exact Qa 7;exact Qj))));(refine Qp ?_;(refine Qx 2 Sc.nd ?_;(refine Qq Zv ?_ ?_;(refine Qq Zv ?_ ?_;exact Qa 2;exact Qn);(refine Qq Xt ?_ ?_;(refine Qq JP ?_ ?_;(refine Qz h_law_churn hr (by decide) QH ?_;(refine Qd ?_ ?_;exact Qa 6;(refine Qd ?_ ?_;exact Qn;exact Qj)));(refine Qbj ?_ ?_;(refine XT ?_;(refine Qd ?_ ?_;exact Qn;(refine Qd ?_ ?_;exact Qn;(refine Qd ?_ ?_;(refine Qq Xt ?_ ?_;exact Qn;(refine Qq VL ?_ ?_;exact Qn;exact Qn));exact Qj))));exact Qa 3));(refine Qbj ?_ ?_;(refine XT ?_;(refine Qd ?_ ?_;exact Qn;(refine Qd ?_ ?_;exact Qn;(refine Qd ?_ ?_;(refine Qq VL ?_ ?_;exact Qn;exact Qn);exact Qj))));exact Qa 3))))))))));(refine Qp ?_;(refine vC 4 ?_;(refine QS ?_;exact Qa 4)))))))
theorem Qbc:QG ["script", "cell", "room", "table", "shelf", "again", "other"] ["script"] (Qm jq):=⟨rfl,rfl,rfl,by decide +kernel,rfl,by decide +kernel,by decide +kernel⟩
theorem law_fn (F:Fun K "law" "law" jq g fd) (h_packed:Has P w K mg base "packed" 4 2 XX) (h_law_good:Has P w K mg base "_law_good" 6 2 Jp) (h_law_churn:Has P w K mg base "_law_churn" 1 2 Qv) (h_table_of:Has P w K mg base "table_of" 3 1 Z0) (h_levels:Has P w K mg base "levels" 3 1 Z1) (h_law_size:Has P w K mg base "_law_size" 2 2 YV) (h_law_table:Has P w K mg base "_law_table" 2 2 Ya) (h_law_cell_at:Has P w K mg base "_law_cell_at" 1 2 QL) (z_len:mg "len" = none) (z_list:mg "list" = none):FnOk P w K mg base CX0 7 g fd ["script"] (spD K 1 Kf) :=
  Qet F Qbc fun cdv A outer s H E hr=>by
    have Sc:=Qbc
    refine Qi ?_ ?_;(refine Qx 1 Sc.nd ?_;(refine Qz h_law_cell_at hr (by decide) QH ?_;(refine Qd ?_ ?_;exact Qa 0;(refine Qd ?_ ?_;exact Qn;exact Qj))));(refine Qi ?_ ?_;(refine Qx 2 Sc.nd ?_;(refine Qq Zv ?_ ?_;exact Qn;(refine Qq JP ?_ ?_;(refine Qz h_law_churn hr (by decide) QH ?_;(refine Qd ?_ ?_;exact Qa 1;(refine Qd ?_ ?_;exact Qn;exact Qj)));exact Qn)));(refine Qi ?_ ?_;(refine Qx 3 Sc.nd ?_;(refine Qz h_law_table hr (by decide) QH ?_;(refine Qd ?_ ?_;exact Qa 0;(refine Qd ?_ ?_;(refine Qz h_law_size hr (by decide) QH ?_;(refine Qd ?_ ?_;exact Qa 1;(refine Qd ?_ ?_;exact Qa 2;exact Qj)));exact Qj))));(refine Qi ?_ ?_;(refine Qx 4 Sc.nd ?_;(refine Qz h_packed hr (by decide) QH ?_;(refine Qd ?_ ?_;(refine KR QaY z_list boot_list ?_;(refine Qd ?_ ?_;exact Qa 3;exact Qj));(refine Qd ?_ ?_;exact Qa 2;exact Qj))));(refine Qi ?_ ?_;(refine Jk ?_ ?_ ?_;(refine DW.pt ?_;(refine xg ?_ ?_;(refine YQ ?_;(refine jd ?_;(refine Qz h_law_good hr (by decide) QH ?_;(refine Qd ?_ ?_;exact Qa 4;(refine Qd ?_ ?_;exact Qa 3;exact Qj)))));(refine yh ?_;(refine Q8 (zZ hr.units) ?_ ?_ (QW _);(refine Q2 Zq z_len PySem.boot_len ?_;(refine Qd ?_ ?_;(refine QD (QK hr) ?_ ?_;(refine Qz h_levels hr (by decide) QH ?_;(refine Qd ?_ ?_;exact Qa 4;exact Qj));exact Qn);exact Qj));exact Qn))));(refine Qp ?_;(refine QS ?_;exact xt));exact Zj);(refine Qi ?_ ?_;(refine Qx 5 Sc.nd ?_;(refine Qz h_table_of hr (by decide) QH ?_;(refine Qd ?_ ?_;exact Qa 4;exact Qj)));(refine Qi ?_ ?_;(refine Qx 6 Sc.nd ?_;(refine Qq Zv ?_ ?_;exact Qn;(refine Qq JP ?_ ?_;(refine Qz h_law_churn hr (by decide) QH ?_;(refine Qd ?_ ?_;exact Qa 1;(refine Qd ?_ ?_;exact Qn;exact Qj)));exact Qn)));(refine Qp ?_;(refine QS ?_;(refine Qan ?_ ?_;(refine Qz h_law_good hr (by decide) QH ?_;(refine Qd ?_ ?_;(refine Qz h_packed hr (by decide) QH ?_;(refine Qd ?_ ?_;exact Qa 5;(refine Qd ?_ ?_;exact Qa 2;exact Qj)));(refine Qd ?_ ?_;exact Qa 3;exact Qj)));(refine GI ?_;(refine Qz h_law_good hr (by decide) QH ?_;(refine Qd ?_ ?_;(refine Qz h_packed hr (by decide) QH ?_;(refine Qd ?_ ?_;exact Qa 5;(refine Qd ?_ ?_;exact Qa 6;exact Qj)));(refine Qd ?_ ?_;exact Qa 3;exact Qj)))))))))))))
end
def _root_.PySem.W.Fast.tw5580655756582483731:Nat:=0
def _root_.PySem.W.Fast.tw10183843001943594383:Nat:=0
def _root_.PySem.W.Fast.tw12067003508933263361:Nat:=0
def _root_.PySem.W.Fast.tw12157479263300163918:Nat:=0
def _root_.PySem.W.Fast.tw10237252813851168330:Nat:=0
def _root_.PySem.W.Fast.tw8267787162463865801:Nat:=0
def _root_.PySem.W.Fast.tw13029149087660386227:Nat:=0
def _root_.PySem.W.Fast.tw7398406452086543898:Nat:=0
def _root_.PySem.W.Fast.tw14650890397300796039:Nat:=0
def _root_.PySem.W.Fast.tw16745411027112207624:Nat:=0
def _root_.PySem.W.Fast.tw12339043303118366804:Nat:=0
def _root_.PySem.W.Fast.tw495012061818526359:Nat:=0
def _root_.PySem.W.Fast.tw18188368957390029293:Nat:=0
def _root_.PySem.W.Fast.tw3994524609380606923:Nat:=0
def _root_.PySem.W.Fast.tw1883013597589897879:Nat:=0
def shF (r:Int) (k:Nat) (t a b:Int):List (Str × DV):=[("page_room", .int r),("kept", .ref k),("top", .int t),("read_count", .int a),("write_count", .int b)]
theorem Yu (r:Int) (k:Nat) (t a b:Int):List.lookup ("kept" : Str) (shF r k t a b) = some (DV.ref k):=by rfl
theorem Qcn (r:Int) (k:Nat) (t a b:Int):List.lookup ("top" : Str) (shF r k t a b) = some (DV.int t):=by rfl
theorem Qdk (r:Int) (k:Nat) (t a b:Int):List.lookup ("write_count" : Str) (shF r k t a b) = some (DV.int b):=by rfl
theorem K9 (r:Int) (k:Nat) (t a b c:Int):qF ("write_count" : Str) (.int c) (shF r k t a b) = shF r k t a c:=by rfl
theorem QaJ (r:Int) (k:Nat) (t a b c:Int):qF ("top" : Str) (.int c) (shF r k t a b) = shF r k c a b:=by rfl
theorem UB (r:Int) (k:Nat) (t a b:Int):(shF r k t a b).length = 5:=rfl
theorem Vy (r:Int) (k:Nat) (t a b:Int):List.lookup ("check_number" : Str) (shF r k t a b) = none:=by rfl
theorem gO (r:Int) (k:Nat) (t a b:Int):List.lookup ("lay" : Str) (shF r k t a b) = none:=by rfl
theorem Kj (r:Int) (k:Nat) (t a b:Int):List.lookup ("write" : Str) (shF r k t a b) = none:=by rfl
theorem XY (r:Int) (k:Nat) (t a b:Int):List.lookup ("root" : Str) (shF r k t a b) = none:=by rfl
theorem GH (r:Int) (k:Nat) (t a b:Int):List.lookup ("make_root" : Str) (shF r k t a b) = none:=by rfl
theorem Kl (r:Int) (k:Nat) (t a b:Int):List.lookup ("pages" : Str) (shF r k t a b) = none:=by rfl
section
variable {r t a b:Int} {n k:Nat} {ps:List DV} {hp:Hs}
theorem kY (h1:hp[n]? = some (.ins "Shelf" (shF r k t a b))) (h2:hp[k]? = some (.lst ps)):ZF [.ref n] hp = some (.int ps.length,hp):=by
  simp [ZF,zJ,Zl,Qy,QP,Q9,jh,sIf,ZJ,qr,jk,zn,zq,Qh,Qc,eC,eB,asB,Xw,eOr,XD,Yf,jm,jy,eIf,qi,Qk,Qb,JD,ZX,Qt,QU,QA,gN,ZY,Jh,XA,Xc,Xb,XH,JS,Yx,jB,Uo,ZV,XE,Zu,Ye,zE,xY,zp,gSb,yK,JC,qq,qx,yW,Vr,onI,onL,onD,Zs,Y4,yY,yB,ixG,Zd,qE,qP,qD,xy,asI,zo,ve,Zt,qQ,JR,Xl,yM,evP,X2,Y2,XO,X0,JV,YS,qf,YR,Z3,JX,Jr,h1,h2,Yu]
theorem jt (h1:hp[n]? = some (.ins "Shelf" (shF r k t a b))):QV [.ref n] hp = some (.int t,hp):=by
  simp [QV,jI,Zl,Qy,QP,Q9,jh,sIf,ZJ,qr,jk,zn,zq,Qh,Qc,eC,eB,asB,Xw,eOr,XD,Yf,jm,jy,eIf,qi,Qk,Qb,JD,ZX,Qt,QU,QA,gN,ZY,Jh,XA,Xc,Xb,XH,JS,Yx,jB,Uo,ZV,XE,Zu,Ye,zE,xY,zp,gSb,yK,JC,qq,qx,yW,Vr,onI,onL,onD,Zs,Y4,yY,yB,ixG,Zd,qE,qP,qD,xy,asI,zo,ve,Zt,qQ,JR,Xl,yM,evP,X2,Y2,XO,X0,JV,YS,qf,YR,Z3,JX,Jr,h1,Qcn]
theorem Ku {i:Int} (h1:hp[n]? = some (.ins "Shelf" (shF r k t a b))) (h2:hp[k]? = some (.lst ps)) (i0:0 <= i) (i1:i < ps.length) :
    Q0 [.ref n,.int i] hp = some (.non,hp):=by
  have q0:¬ i < 0:=by omega
  have q1:¬ (ps.length:Int) <= i:=by omega
  simp [Q0,Xg,Zl,Qy,QP,Q9,jh,sIf,ZJ,qr,jk,zn,zq,Qh,Qc,eC,eB,asB,Xw,eOr,XD,Yf,jm,jy,eIf,qi,Qk,Qb,JD,ZX,Qt,QU,QA,gN,ZY,Jh,XA,Xc,Xb,XH,JS,Yx,jB,Uo,ZV,XE,Zu,Ye,zE,xY,zp,gSb,yK,JC,qq,qx,yW,Vr,onI,onL,onD,Zs,Y4,yY,yB,ixG,Zd,qE,qP,qD,xy,asI,zo,ve,Zt,qQ,JR,Xl,yM,evP,X2,Y2,XO,X0,JV,YS,qf,YR,Z3,JX,Jr,YU,h1,h2,Yu,i0,i1,q0,q1]
theorem Ui {i:Nat} (h1:hp[n]? = some (.ins "Shelf" (shF r k t a b))) (h2:hp[k]? = some (.lst ps)) (i1:i < ps.length) :
    ZE [.ref n,.int i] hp = some (.non,hp.set n (.ins "Shelf" (shF r k i a b))):=by
  have c:=Ku (i:=(i:Int)) h1 h2 (by omega) (by omega)
  simp [ZE,Yg,Zl,Qy,QP,Q9,jh,sIf,ZJ,qr,jk,zn,zq,Qh,Qc,eC,eB,asB,Xw,eOr,XD,Yf,jm,jy,eIf,qi,Qk,Qb,JD,ZX,Qt,QU,QA,gN,ZY,Jh,XA,Xc,Xb,XH,JS,Yx,jB,Uo,ZV,XE,Zu,Ye,zE,xY,zp,gSb,yK,JC,qq,qx,yW,Vr,onI,onL,onD,Zs,Y4,yY,yB,ixG,Zd,qE,qP,qD,xy,asI,zo,ve,Zt,qQ,JR,Xl,yM,evP,X2,Y2,XO,X0,JV,YS,qf,YR,Z3,JX,Jr,h1,h2,c,Yu,QaJ,UB,Vy]
theorem kR {i:Nat} {d:DV} (h1:hp[n]? = some (.ins "Shelf" (shF r k t a b))) (h2:hp[k]? = some (.lst ps)) (hnk:n ≠ k) (i1:i < ps.length) :
    Jg [.ref n,.int i,d] hp = some (.non,(hp.set n (.ins "Shelf" (shF r k t a (b + 1)))).set k (.lst (ps.set i d))):=by
  have c:=Ku (i:=(i:Int)) h1 h2 (by omega) (by omega)
  simp [Jg,zF,Zl,Qy,QP,Q9,jh,sIf,ZJ,qr,jk,zn,zq,Qh,Qc,eC,eB,asB,Xw,eOr,XD,Yf,jm,jy,eIf,qi,Qk,Qb,JD,ZX,Qt,QU,QA,gN,ZY,Jh,XA,Xc,Xb,XH,JS,Yx,jB,Uo,ZV,XE,Zu,Ye,zE,xY,zp,gSb,yK,JC,qq,qx,yW,Vr,onI,onL,onD,Zs,Y4,yY,yB,ixG,Zd,qE,qP,qD,xy,asI,zo,ve,Zt,qQ,JR,Xl,yM,evP,X2,Y2,XO,X0,JV,YS,qf,YR,Z3,JX,Jr,h1,h2,c,Yu,Qdk,K9,UB,Vy,hnk,hnk.symm,ub i1]
theorem Qek {pg:DV} (h1:hp[n]? = some (.ins "Shelf" (shF r k t a b))) (h2:hp[k]? = some (.lst ps)) (hnk:n ≠ k) (hl:ps.length < 99999) :
    JB [.ref n,pg] hp = some (.int ps.length,(hp.set n (.ins "Shelf" (shF r k t a (b + 1)))).set k (.lst (ps ++ [pg]))):=by
  have hlim:ps.length < lim:=by unfold lim;omega
  simp [JB,xu,Zl,Qy,QP,Q9,jh,sIf,ZJ,qr,jk,zn,zq,Qh,Qc,eC,eB,asB,Xw,eOr,XD,Yf,jm,jy,eIf,qi,Qk,Qb,JD,ZX,Qt,QU,QA,gN,ZY,Jh,XA,Xc,Xb,XH,JS,Yx,jB,Uo,ZV,XE,Zu,Ye,zE,xY,zp,gSb,yK,JC,qq,qx,yW,Vr,onI,onL,onD,Zs,Y4,yY,yB,ixG,Zd,qE,qP,qD,xy,asI,zo,ve,Zt,qQ,JR,Xl,yM,evP,X2,Y2,XO,X0,JV,YS,qf,YR,Z3,JX,Jr,h1,h2,Yu,Qdk,K9,UB,hlim,hnk,hnk.symm]
end
theorem vN {c:Int} {n i:Nat} {d:DV} (h:(JG c n)[i]? = some d):i < n /\ d = .int ((i:Int) * c):=by
  have hi:i < n:=by have:=(List.getElem?_eq_some_iff.mp h).1;simpa [JG] using this
  unfold JG at h
  rw [Ys hi] at h
  exact ⟨hi,(Option.some.inj h).symm⟩
theorem QbM {n m:Nat} (hm:1 <= m):rcnt ((max 1 n:Nat):Int) (m:Int) = TP.qn n m:=by
  unfold rcnt TP.qn
  have:((max 1 n:Nat):Int) + (m:Int) - 1 = ((max 1 n + m - 1:Nat):Int):=by omega
  rw [this,<- Int.natCast_ediv,Int.toNat_natCast]
def RowsAt (w:Hs) (T:DV) (rows:TP.Rw):Prop:=T = .lst (prD rows) ∨ ∃ n,T = .ref n /\ w[n]? = some (.lst (prD rows))
theorem RowsAt.len {w:Hs} {T:DV} {rows:TP.Rw} (h:RowsAt w T rows) {f:DEx} {env:En} (hf:f env w = some (T,w)):QU Zd (Qb f Qk) env w = some (.int (rows.length:Int),w):=by
  rcases h with rfl | ⟨n,rfl,hn⟩
  . rw [zQ hf,Yd]
  . rw [Xd hf hn,Yd]
theorem RowsAt.tru {w:Hs} {T:DV} {rows:TP.Rw} (h:RowsAt w T rows) {f:DEx} {env:En} (hf:f env w = some (T,w)):qw f env w = some (!rows.isEmpty,w):=by
  have e:(prD rows).isEmpty = rows.isEmpty:=xS (Yd rows)
  unfold qw
  rw [Qf hf]
  rcases h with rfl | ⟨n,rfl,hn⟩
  . show some (!(prD rows).isEmpty,w) = _
    rw [e]
  . show (Zi n >>= _) w = _
    rw [Qf (QY hn)]
    show some (!(prD rows).isEmpty,w) = _
    rw [e]
theorem QdR {x:Int × Int} {w:Hs} {env:En}:Qh ixG (Qc 0) (eC (.int 0)) (.val (.tup [.int x.1,.int x.2]) :: env) w = some (.int x.1,w):=Q6 (i:=0) rfl rfl rfl
theorem QdH {x:Int × Int} {w:Hs} {env:En}:Qh ixG (Qc 0) (eC (.int 1)) (.val (.tup [.int x.1,.int x.2]) :: env) w = some (.int x.2,w):=Q6 (i:=1) rfl rfl rfl
theorem Qaz {w:Hs} {env:En} {f:DEx} {c:TP.Rw} (hf:f env w = some (.lst (prD c),w)) (hl:c.length < 100000):Js false (xLs f) [] UZ (Qh ixG (Qc 0) (eC (.int 0))) env w = some (.lst (c.map fun r=>.int r.1),w):=by
  rw [zf (m:=Qds) (nw:=false) (XM hf) (fun _ _=>rfl) (fun x hx=>by
    obtain ⟨p,_,rfl⟩:=List.mem_map.mp hx;exact QdR) (by rw [Yd];exact hl),uy];rfl
theorem QaC {w:Hs} {env:En} {f:DEx} {c:TP.Rw} (hf:f env w = some (.lst (prD c),w)) (hl:c.length < 100000):Js false (xLs f) [] UZ (Qh ixG (Qc 0) (eC (.int 1))) env w = some (.lst (c.map fun r=>.int r.2),w):=by
  rw [zf (m:=QfD) (nw:=false) (XM hf) (fun _ _=>rfl) (fun x hx=>by
    obtain ⟨p,_,rfl⟩:=List.mem_map.mp hx;exact QdH) (by rw [Yd];exact hl),uy];rfl
theorem V7 {w:Hs} {env:En} {f:DEx} {ds:List DV} (hf:f env w = some (.lst ds,w)):QU UY (Qb f Qk) env w = some (.tup ds,w):=JW (Zh hf) rfl
def sl3 (f:Nat -> DV):Nat -> Sl
  | 0=>.un
  | i + 1=>.val (f i)
theorem QaI (rows:TP.Rw) (m:Nat) (fork:Bool) (k:Nat):(TP.QI rows m fork k).length <= rows.length:=by
  unfold TP.QI;rw [List.length_take,List.length_drop];omega
theorem QbO {w:Hs} {T:DV} {rows:TP.Rw} {m:Nat} (hT:RowsAt w T rows) (hm:1 <= m) (hm2:m <= 100) (hl:rows.length <= 1000):XF [T,.int (m:Int)] w = some (.lst (Ze rows m false),w):=by
  by_cases h0:rows = []
  . subst h0
    have q1:TP.qn 0 m = 1:=by
      obtain ⟨a,b,c⟩:=TP.Zf (n:=0) hm
      unfold TP.qn at *
      have:(max 1 0 + m - 1) / m <= 1:=by
        refine Nat.le_of_lt_succ ((Nat.div_lt_iff_lt_mul (by omega)).mpr (by omega))
      omega
    refine Q3 (env:=[.val T,.val (.int m),.un,.un,.un,.un]) (Gf ((vM (Z6 (hT.tru (var_at rfl)))).trans (Q5 ?_)))
    have:Ze [] m false = [.tup [.non,.tup [],.tup []]]:=by
      unfold Ze
      rw [show ([]:TP.Rw).length = 0 from rfl,q1]
      show [Jj [] m false 0] = _
      simp [Jj,V3,VT,jT,TP.QI]
    rw [this];rfl
  have n1:1 <= rows.length:=by cases rows with | nil=>exact absurd rfl h0 | cons _ _=>simp
  have mx:max 1 rows.length = rows.length:=by omega
  have ne:rows.isEmpty = false:=by cases rows with | nil=>exact absurd rfl h0 | cons _ _=>rfl
  have qle:TP.qn rows.length m <= rows.length:=by
    obtain ⟨a,b,c⟩:=TP.Zf (n:=rows.length) hm
    have:(TP.qn rows.length m - 1) * 1 <= (TP.qn rows.length m - 1) * m:=Nat.mul_le_mul_left _ hm
    omega
  let q:=TP.qn rows.length m
  let J:Nat -> En:=fun i=>[.val T,.val (.int m),.acc ((List.range i).map (Jj rows m false)),sl3 (fun i=>.int ((i:Int) * m)) i,sl3 (fun i=>.lst (prD (TP.QI rows m false i))) i,sl3 (fun i=>.tup ((TP.QI rows m false i).map fun r=>.int r.1)) i]
  have loop:qI (J 0) w = some ((.nx,J q),w):=by
    have src:QbS (Qb (eC (.int 0)) (Qb (QU Zd (Qb (Qc 0) Qk)) (Qb (Qc 1) Qk))) (J 0) w = some (JG m q,w):=by
      unfold QbS
      rw [Qf (j9 (rfl:eC (.int 0) (J 0) w = some (.int 0,w)) (hT.len (var_at rfl)) (var_at rfl:Qc 1 (J 0) w = some (.int m,w)))]
      have e:=QbM (n:=rows.length) hm
      rw [mx] at e
      have ok:ok3 0 (rows.length:Int) (m:Int) = true:=decide_eq_true ⟨rfl,by omega,by omega,by omega,by omega⟩
      show (QA (ok3 0 (rows.length:Int) (m:Int)) >>= fun _=>pure (JG m (rcnt rows.length m)):M (List DV)) w = _
      rw [ok,e];rfl
    have len:(JG (m:Int) q).length = q:=by simp [JG]
    have body:=vW (b:=fun d env=>do let env' <- gN 3 d env;X4 env') J w (JG (m:Int) q) (fun i d hd=>by
      obtain ⟨hi,ed⟩:=vN hd
      subst ed
      have hi:i < TP.qn rows.length m:=hi
      have cl:=TP.Gz (rows:=rows) hm hi
      obtain ⟨_,c1⟩:=TP.XL (rows:=rows) (fork:=false) hm (by simp) n1 hi
      have c2:=QaI rows m false i
      obtain ⟨r0,rs,ec⟩:∃ r0 rs,TP.QI rows m false i = r0 :: rs:=by
        cases e:TP.QI rows m false i with
        | nil=>rw [e] at c1;simp at c1
        | cons a b=>exact ⟨a,b,rfl⟩
      let e3:En:=[.val T,.val (.int m),.acc ((List.range i).map (Jj rows m false)),.val (.int ((i:Int) * m)),sl3 (fun i=>.lst (prD (TP.QI rows m false i))) i,sl3 (fun i=>.tup ((TP.QI rows m false i).map fun r=>.int r.1)) i]
      let e4:En:=[.val T,.val (.int m),.acc ((List.range i).map (Jj rows m false)),.val (.int ((i:Int) * m)),.val (.lst (prD (TP.QI rows m false i))),sl3 (fun i=>.tup ((TP.QI rows m false i).map fun r=>.int r.1)) i]
      let e5:En:=[.val T,.val (.int m),.acc ((List.range i).map (Jj rows m false)),.val (.int ((i:Int) * m)),.val (.lst (prD (TP.QI rows m false i))),.val (.tup ((TP.QI rows m false i).map fun r=>.int r.1))]
      show X4 e3 w = _
      have im:((i:Int) * (m:Int)) = ((i * m:Nat):Int):=by simp
      have im2:((i:Int) * (m:Int) + (m:Int)) = ((i * m + m:Nat):Int):=by simp
      have s4:Kx (Qc 0) (Zz (Qc 3)) (Zz (Qh Zb (Qc 3) (Qc 1))) e3 w = some (.lst (prD (TP.QI rows m false i)),w):=by
        rw [gT (a:=i * m) (b:=i * m + m) (d:=T) (ds:=prD rows) (var_at rfl) (by rw [<- im];exact var_at rfl) (by rw [<- im2];exact xR (var_at rfl) (var_at rfl)) (by omega) hT,Qac,Qav,cl,Nat.add_sub_cancel_left]
      refine (Qo (env1:=e4) (hp1:=w) (Qs s4)).trans ?_
      refine (Qo (env1:=e5) (hp1:=w) (Qs (V7 (Qaz (var_at rfl) (by omega))))).trans ?_
      have fd:JD (Qb (Qh ixG (Qc 5) (eC (.int 0))) (Qb (Qc 5) (Qb (QU UY (Qb qK Qk)) Qk))) e5 w = some (Jj rows m false i,w):=by
        refine (x9 (ds:=[.int r0.1,.tup ((TP.QI rows m false i).map fun r=>.int r.1),.tup ((TP.QI rows m false i).map fun r=>.int r.2)]) (j9 (Q6 (i:=0) (var_at rfl) rfl (by rw [ec];rfl)) (var_at rfl) (V7 (QaC (var_at rfl) (by omega)))) (by simp)).trans ?_
        unfold Jj V3 VT jT
        rw [ec];rfl
      rw [vg fd (rfl:e5[2]? = _) (by rw [List.length_map,List.length_range];omega)]
      show some ((Fl.nx,_),w) = _
      congr 3
      show [_,_,Sl.acc ((List.range i).map (Jj rows m false) ++ [Jj rows m false i]),_,_,_] = J (i + 1)
      show _ = [_,_,Sl.acc ((List.range (i + 1)).map (Jj rows m false)),_,_,_]
      rw [List.range_succ,List.map_append];rfl)
    rw [len] at body
    exact J7 src body
  refine Q3 (env:=(J q).set 2 (.val (.lst (Ze rows m false)))) ?_
  refine (Qo ((JO (by rw [Z6 (hT.tru (var_at rfl)),ne];rfl)).trans JQ)).trans ((Qo (rfl:zn 2 _ w = some ((.nx,J 0),w))).trans ((Qo loop).trans ?_))
  exact Q5 rfl
theorem zg (rows:TP.Rw) (m:Nat) (fork:Bool):(Ze rows m fork).length = TP.qn rows.length m:=by simp [Ze]
theorem YB (rows:TP.Rw) (m:Nat) (fork:Bool) (lv first:Nat):(Z4 rows m fork lv first).length = TP.qn rows.length m:=by simp [Z4]
theorem Gi {n i:Nat} {d:DV} (h:(QN 0 n)[i]? = some d):i < n /\ d = .int (i:Int):=ur h
theorem VJ (w:Hs) (rows:TP.Rw) (m:Nat) (fork:Bool) (lv first:Nat) (hq:TP.qn rows.length m <= 1000):Yz [.int (lv:Int),.lst (Ze rows m fork),.int (first:Int)] w = some (.ref w.length,w ++ [.lst (Z4 rows m fork lv first)]):=by
  let q:=TP.qn rows.length m
  let Fs:=Ze rows m fork
  let last:Nat -> Bool:=fun i=>((i:Int) + 1 == (Fs.length:Int))
  let hi:Nat -> DV:=fun i=>if i + 1 = q then .non else V3 rows m fork (i + 1)
  let sd:Nat -> DV:=fun i=>if i + 1 = q then .non else .int ((first + (i + 1):Nat):Int)
  let J:Nat -> En:=fun i=>[.val (.int lv),.val (.lst Fs),.val (.int first),.val (.ref w.length),sl3 (fun i=>.int i) i,sl3 (fun i=>.int ((i:Int) + 1)) i,sl3 (fun i=>.bl (last i)) i,sl3 hi i,sl3 sd i]
  let W:Nat -> Hs:=fun i=>w ++ [.lst ((List.range i).map (xc rows m fork lv first))]
  have fl:Fs.length = q:=zg rows m fork
  have lastE:∀ i,last i = decide (i + 1 = q):=fun i=>by
    show ((i:Int) + 1 == (Fs.length:Int)) = _
    rw [fl]
    by_cases c:i + 1 = q
    . rw [decide_eq_true c];simp;omega
    . rw [decide_eq_false c];simp;omega
  have body:=QaE (b:=fun d env=>do let env' <- gN 4 d env;zR env') J W (QN 0 q) (fun i d hd=>by
    obtain ⟨hi',ed⟩:=Gi hd
    subst ed
    have fi:Fs[i]? = some (Jj rows m fork i):=Ys hi'
    let x5:Sl:=.val (.int ((i:Int) + 1))
    let e4:En:=[.val (.int lv),.val (.lst Fs),.val (.int first),.val (.ref w.length),.val (.int i),sl3 (fun i=>.int ((i:Int) + 1)) i,sl3 (fun i=>.bl (last i)) i,sl3 hi i,sl3 sd i]
    let e5:En:=[.val (.int lv),.val (.lst Fs),.val (.int first),.val (.ref w.length),.val (.int i),x5,sl3 (fun i=>.bl (last i)) i,sl3 hi i,sl3 sd i]
    let e6:En:=[.val (.int lv),.val (.lst Fs),.val (.int first),.val (.ref w.length),.val (.int i),x5,.val (.bl (last i)),sl3 hi i,sl3 sd i]
    let e7:En:=[.val (.int lv),.val (.lst Fs),.val (.int first),.val (.ref w.length),.val (.int i),x5,.val (.bl (last i)),.val (hi i),sl3 sd i]
    let e8:En:=[.val (.int lv),.val (.lst Fs),.val (.int first),.val (.ref w.length),.val (.int i),x5,.val (.bl (last i)),.val (hi i),.val (sd i)]
    show zR e4 (W i) = _
    have c1:((i:Int) + 1) = ((i + 1:Nat):Int):=by simp
    refine (Qo (env1:=e5) (hp1:=W i) (Qs (xR (var_at rfl) rfl))).trans ?_
    refine (Qo (env1:=e6) (hp1:=W i) (Qs (GO (var_at rfl) (zQ (var_at rfl))))).trans ?_
    refine (Qo (env1:=e7) (hp1:=W i) (Qs ?_)).trans ?_
    . have t:eB (Qc 6) e6 (W i) = some (last i,W i):=Zg (var_at rfl)
      rw [lastE i] at t
      by_cases c:i + 1 = q
      . rw [decide_eq_true c] at t
        rw [Kg t]
        show _ = some (if i + 1 = q then DV.non else _,_)
        rw [if_pos c];rfl
      . rw [decide_eq_false c] at t
        rw [Gp t]
        show _ = some (if i + 1 = q then DV.non else _,_)
        rw [if_neg c]
        exact Q6 (i:=0) (J4 (i:=i + 1) (d:=Jj rows m fork (i + 1)) (var_at rfl) (by rw [<- c1];exact var_at rfl) (Ys (by show i + 1 < q;omega))) rfl rfl
    refine (Qo (env1:=e8) (hp1:=W i) (Qs ?_)).trans ?_
    . have t:eB (Qc 6) e7 (W i) = some (last i,W i):=Zg (var_at rfl)
      rw [lastE i] at t
      by_cases c:i + 1 = q
      . rw [decide_eq_true c] at t
        rw [Kg t]
        show _ = some (if i + 1 = q then DV.non else _,_)
        rw [if_pos c];rfl
      . rw [decide_eq_false c] at t
        rw [Gp t]
        show _ = some (if i + 1 = q then DV.non else _,_)
        rw [if_neg c]
        exact qe (j:=i + 1) (var_at rfl) (by rw [<- c1];exact var_at rfl)
    have tp:JD (Qb (Qc 0) (Qb (Qh ixG (Qh ixG (Qc 1) (Qc 4)) (eC (.int 1))) (Qb (Qh ixG (Qh ixG (Qc 1) (Qc 4)) (eC (.int 2))) (Qb (Qc 7) (Qb (Qc 8) Qk))))) e8 (W i) = some (xc rows m fork lv first i,W i) :=
      x9 (Qda (var_at rfl) (Q6 (i:=1) (J4 (i:=i) (var_at rfl) (var_at rfl) fi) rfl rfl) (Q6 (i:=2) (J4 (i:=i) (var_at rfl) (var_at rfl) fi) rfl rfl) (var_at rfl) (var_at rfl)) (Nat.le_of_ble_eq_true rfl)
    rw [JI (jN (a:=w.length) (ds:=(List.range i).map (xc rows m fork lv first)) (d:=xc rows m fork lv first i) (var_at rfl) (yt w _ []) tp (by rw [List.length_map,List.length_range];have:i < TP.qn rows.length m:=hi';omega)),GL]
    show some ((Fl.nx,e8),w ++ [OV.lst _]) = some ((Fl.nx,J (i + 1)),w ++ [OV.lst ((List.range (i + 1)).map (xc rows m fork lv first))])
    rw [List.range_succ,List.map_append];rfl)
  rw [Jo] at body
  refine Q3 (env:=J q) ?_
  refine (Qo (env1:=J 0) (hp1:=W 0) (Qs rfl)).trans ((Qo ?_).trans (Q5 rfl))
  refine J7 (ds:=QN 0 q) (xM (m:=q) (Zh ?_) (by show TP.qn rows.length m <= _;omega)) body
  rw [zQ (ds:=Fs) (var_at rfl),fl]
theorem gD {n m:Nat} (hm:3 <= m) (hm2:m <= 100) (hn:2 <= n) (hl:n <= 1000):JE [.int (n:Int),.int (m:Int)] = pure (.lst ((TP.Qa6 n m).map fun (k:Nat)=>DV.int (k:Int))):=by
  have dv:gH (.int (n:Int)) (.int (m:Int)) = pure (.int ((n / m:Nat):Int)):=by rw [KI _ _ (by omega) (by omega)];simp
  have md:Z2 (.int (n:Int)) (.int (m:Int)) = pure (.int ((n % m:Nat):Int)):=by rw [ZC _ _ (by omega)];simp
  have dl:n / m <= n:=Nat.div_le_self _ _
  let R:List DV:=List.replicate (n / m) (.int (m:Int))
  have ml:QcC (.lst [.int (m:Int)]) (.int ((n / m:Nat):Int)) = pure (.lst R):=by
    show (QA (decide (0 <= ((n / m:Nat):Int) /\ ((n / m:Nat):Int).toNat <= 100000)) >>= fun _=>pure (DV.lst (List.replicate ((n / m:Nat):Int).toNat (.int (m:Int)))):M DV) = _
    rw [decide_eq_true ⟨Int.natCast_nonneg _,by rw [Int.toNat_natCast];omega⟩,Int.toNat_natCast];rfl
  let e3:En:=[.val (.int n),.val (.int m),.val (.lst R),.val (.int ((n % m:Nat):Int))]
  have pre:∀ r,(Qy (sIf (eB (Qh eqD (Qc 3) (eC (.int 1)))) (Q9 (Qh Zb (eSl (Qc 2) Xr (Zz (qi (eC (.int 1))))) (ZX (Qb (Qh XW (Qc 1) (eC (.int 1))) (Qb (eC (.int 2)) Qk))))) ZJ) (Q9 (eIf (eB (Qh gtD (Qc 3) (eC (.int 0)))) (Qh Zb (Qc 2) (ZX (Qb (Qc 3) Qk))) (Qc 2)))) e3 = r -> ja [.val (.int n),.val (.int m),.un,.un] = r:=fun r h=>by
    refine (Zy (JJ (d:=.lst R) (Qw (x:=.lst [.int (m:Int)]) (y:=.int ((n / m:Nat):Int)) rfl (Qw (x:=.int n) (y:=.int m) rfl rfl dv) ml))).trans ?_
    exact (Zy (JJ (d:=.int ((n % m:Nat):Int)) (Qw (x:=.int n) (y:=.int m) rfl rfl md))).trans h
  have cons2:∀ (a:Nat) (b:List DV),a <= 1000 -> b.length <= 5 -> Zb (.lst (List.replicate a (.int (m:Int)))) (.lst b) = pure (.lst (List.replicate a (.int (m:Int)) ++ b)):=fun a b ha hb=>by
    show (QA (Xs (List.replicate a (DV.int (m:Int)) ++ b)) >>= fun _=>pure (DV.lst _):M DV) = _
    rw [j2 (by rw [List.length_append,List.length_replicate];omega)];rfl
  refine qh (env:=e3) (pre _ ?_)
  unfold TP.Qa6
  by_cases r1:n % m = 1
  . rw [if_pos r1]
    refine uv ((vV (VN (Qw (x:=.int ((n % m:Nat):Int)) (y:=.int 1) rfl rfl ((ZV _ _).trans (by rw [r1];rfl))))).trans (Yb ?_))
    have q1:1 <= n / m:=by
      have dm:=Nat.div_add_mod n m
      rcases Nat.eq_zero_or_pos (n / m) with z | z
      . rw [z,Nat.mul_zero] at dm;omega
      . exact z
    have cut:zY R none (some (-1)) = List.replicate (n / m - 1) (.int (m:Int)):=by
      unfold D.zY
      show (R.drop 0).take ((if (-1:Int) < 0 then ((-1:Int) + (R.length:Int)).toNat else min (-1:Int).toNat R.length) - 0) = _
      rw [if_pos (by decide),List.drop_zero,Nat.sub_zero]
      have rl:R.length = n / m:=List.length_replicate
      rw [rl,List.take_replicate]
      congr 1;omega
    have sl:eSl (Qc 2) Xr (Zz (qi (eC (.int 1)))) e3 = pure (.lst (List.replicate (n / m - 1) (.int (m:Int)))):=by
      have:eSl (Qc 2) Xr (Zz (qi (eC (.int 1)))) e3 = pure (.lst (zY R none (some (-1)))):=rfl
      rw [this,cut]
    refine (Qw sl (y:=.lst [.int ((m:Int) - 1),.int 2]) rfl (cons2 _ _ (by omega) (Nat.le_of_ble_eq_true rfl))).trans ?_
    rw [List.map_append,List.map_replicate]
    congr 3
    simp;omega
  . rw [if_neg r1]
    have z:((n % m:Nat):Int) ≠ 1:=fun h=>r1 (by omega)
    refine (Zy ((vP (VN (Qw (x:=.int ((n % m:Nat):Int)) (y:=.int 1) rfl rfl ((ZV _ _).trans (by rw [show (((n % m:Nat):Int) == 1) = false by simpa using z]))))).trans rfl)).trans (Yb ?_)
    have t:eB (Qh gtD (Qc 3) (eC (.int 0))) e3 = pure (decide (0 < ((n % m:Nat):Int))):=VN rfl
    by_cases r:0 < n % m
    . rw [if_pos r]
      rw [decide_eq_true (by omega)] at t
      have:eIf (eB (Qh gtD (Qc 3) (eC (.int 0)))) (Qh Zb (Qc 2) (ZX (Qb (Qc 3) Qk))) (Qc 2) e3 = Qh Zb (Qc 2) (ZX (Qb (Qc 3) Qk)) e3:=by
        unfold eIf;rw [t,pure_bind,if_pos rfl]
      rw [this]
      refine (Qw (x:=.lst R) (y:=.lst [.int ((n % m:Nat):Int)]) rfl rfl (cons2 _ _ (by omega) (Nat.le_of_ble_eq_true rfl))).trans ?_
      rw [List.map_append,List.map_replicate];rfl
    . rw [if_neg r]
      rw [decide_eq_false (by omega)] at t
      have:eIf (eB (Qh gtD (Qc 3) (eC (.int 0)))) (Qh Zb (Qc 2) (ZX (Qb (Qc 3) Qk))) (Qc 2) e3 = Qc 2 e3:=by
        unfold eIf;rw [t,pure_bind,if_neg (by simp)]
      rw [this,List.map_replicate];rfl
theorem Qb8 {f g:DEx} {env:En} {w:Hs} {a b:Nat} (hf:f env w = some (.int (a:Int),w)) (hg:g env w = some (.int (b:Int),w)) (hab:a <= b) (hb:b <= 10000):K4 (Qb f (Qb g Qk)) env w = some (.tup (QN a (b - a)),w):=by
  unfold K4
  rw [Qf (ZH hf hg)]
  have e:vk [.int (a:Int),.int (b:Int)] w = some (QN a (b - a),w):=by
    show (QA (X7 (a:Int) && X7 (b:Int)) >>= fun _=>pure (QN a ((b:Int) - a).toNat):M (List DV)) w = _
    rw [YN (by omega),YN (by omega),show ((b:Int) - a).toNat = b - a by omega];rfl
  rw [Qf e]
  have sh:Xs (QN (a:Int) (b - a)) = true:=j2 (by rw [Jo];omega)
  rw [Qf (show QA (Xs (QN (a:Int) (b - a))) w = some ((),w) by rw [sh];rfl)];rfl
theorem Ks {rows:TP.Rw} {m:Nat} {fork:Bool} {k:Nat} (h:1 <= (TP.QI rows m fork k).length):V3 rows m fork k = .int (TP.X1 rows m fork k):=by
  unfold V3 TP.X1
  cases e:TP.QI rows m fork k with
  | nil=>rw [e] at h;simp at h
  | cons a b=>rfl
theorem gl {rows:TP.Rw} {m:Nat} {fork:Bool} (hm:1 <= m) (hf:fork = true -> 3 <= m) (hn:1 <= rows.length) (first:Nat):(Ze rows m fork).map Qds = (TP.qp rows m fork first).map fun r=>.int r.1:=by
  unfold Ze TP.qp
  rw [List.map_map,List.map_map]
  refine List.map_congr_left fun k hk=>?_
  show V3 rows m fork k = _
  exact Ks (TP.XL hm hf hn (List.mem_range.mp hk)).2
theorem kW (rows:TP.Rw) (m:Nat) (fork:Bool) (first:Nat) (a b:Nat) (hb:b <= TP.qn rows.length m):(((TP.qp rows m fork first).drop a).take (b - a)).map (fun r=>DV.int r.2) = QN ((first + a:Nat):Int) (b - a):=by
  apply List.ext_getElem?
  intro i
  rw [List.getElem?_map,List.getElem?_take]
  by_cases h:i < b - a
  . rw [if_pos h,List.getElem?_drop]
    have l:a + i < TP.qn rows.length m:=by omega
    unfold TP.qp
    rw [List.getElem?_map,List.getElem?_range l]
    unfold QN
    rw [Ys h]
    simp only [Option.map_some]
    congr 2
    omega
  . rw [if_neg h,List.getElem?_eq_none (by rw [Jo];omega)];rfl
theorem Qb9 {w:Hs} {rows:TP.Rw} {m:Nat} {fork:Bool} {first M:Nat} (hm:1 <= m) (hf:fork = true -> 3 <= m) (hn:1 <= rows.length) (hM:3 <= M) (hM2:M <= 100) (h2:2 <= TP.qn rows.length m) (hl:TP.qn rows.length m <= 1000) (hfi:first <= 2000) :
    JL [.lst (Ze rows m fork),.int (first:Int),.int (M:Int)] w = some (.lst (Ze (TP.qp rows m fork first) M true),w):=by
  let N:=TP.qp rows m fork first
  have Nl:N.length = TP.qn rows.length m:=TP.jJ rows m fork first
  let n:=TP.qn rows.length m
  have ql:TP.qn N.length M < n:=by rw [Nl];exact TP.uB (by omega) h2
  let q:=TP.qn N.length M
  let K:=Ze rows m fork
  have kl:K.length = n:=zg rows m fork
  let S:Nat -> Nat:=TP.sx N.length M true
  have S0:S 0 = 0:=TP.jw (by omega) true
  have Slt:∀ i,i < q -> S i < S (i + 1):=fun i h=>TP.QaQ (by omega) (fun _=>hM) (by omega) h
  have Sle:∀ i,i <= q -> S i <= n:=fun i h=>by have:=TP.kJ (n:=N.length) (m:=M) (by omega) true h (by omega);exact Nat.le_trans this (Nat.le_of_eq Nl)
  let C:List DV:=(List.range q).map fun i=>.int ((S (i + 1) - S i:Nat):Int)
  have cl:C.length = q:=by simp [C]
  have cn:(TP.Qa6 n M).map (fun (k:Nat)=>DV.int (k:Int)) = C:=by
    rw [TP.Qb1 hM h2,List.map_map]
    show _ = (List.range (TP.qn N.length M)).map fun i=>DV.int ((TP.sx N.length M true (i + 1) - TP.sx N.length M true i:Nat):Int)
    rw [Nl];rfl
  let J:Nat -> En:=fun i=>[.val (.lst K),.val (.int first),.val (.int M),.acc ((List.range i).map (Jj N M true)),.val (.int (S i:Nat)),sl3 (fun i=>.int ((S (i + 1) - S i:Nat):Int)) i,sl3 (fun i=>.int (S (i + 1):Nat)) i,sl3 (fun i=>.lst ((TP.QI N M true i).map fun r=>.int r.1)) i]
  have body:=ju (b:=fun d env=>do let env' <- gN 5 d env;XS env') J (fun _=>w) C (by rw [cl];show TP.qn N.length M < _;omega) (fun i d hd=>by
    have hi:i < q:=by have:=(List.getElem?_eq_some_iff.mp hd).1;rwa [cl] at this
    have ed:d = .int ((S (i + 1) - S i:Nat):Int):=by
      rw [show C[i]? = _ from Ys hi] at hd;exact (Option.some.inj hd).symm
    subst ed
    have s1:=Slt i hi
    have s2:=Sle (i + 1) hi
    obtain ⟨_,c1⟩:=TP.XL (rows:=N) (m:=M) (fork:=true) (by omega) (fun _=>hM) (by omega) hi
    have ck:TP.QI N M true i = (N.drop (S i)).take (S (i + 1) - S i):=rfl
    obtain ⟨r0,rs,ec⟩:∃ r0 rs,TP.QI N M true i = r0 :: rs:=by
      cases e:TP.QI N M true i with
      | nil=>rw [e] at c1;simp at c1
      | cons a b=>exact ⟨a,b,rfl⟩
    let x5:Sl:=.val (.int ((S (i + 1) - S i:Nat):Int))
    let A:Sl:=.acc ((List.range i).map (Jj N M true))
    let e5:En:=[.val (.lst K),.val (.int first),.val (.int M),A,.val (.int (S i:Nat)),x5,sl3 (fun i=>.int (S (i + 1):Nat)) i,sl3 (fun i=>.lst ((TP.QI N M true i).map fun r=>.int r.1)) i]
    let e6:En:=[.val (.lst K),.val (.int first),.val (.int M),A,.val (.int (S i:Nat)),x5,.val (.int (S (i + 1):Nat)),sl3 (fun i=>.lst ((TP.QI N M true i).map fun r=>.int r.1)) i]
    let e7:En:=[.val (.lst K),.val (.int first),.val (.int M),A,.val (.int (S i:Nat)),x5,.val (.int (S (i + 1):Nat)),.val (.lst ((TP.QI N M true i).map fun r=>.int r.1))]
    show XS e5 w = _
    refine (Qo (env1:=e6) (hp1:=w) (Qs (d:=.int (S (i + 1):Nat)) ?_)).trans ?_
    . rw [qe (i:=S i) (j:=S (i + 1) - S i) (var_at rfl) (var_at rfl),show S i + (S (i + 1) - S i) = S (i + 1) by omega]
    refine (Qo (env1:=e7) (hp1:=w) (Qs ?_)).trans ?_
    . have sl:eSl (Qc 0) (Zz (Qc 4)) (Zz (Qc 6)) e6 w = some (.lst ((K.drop (S i)).take (S (i + 1) - S i)),w):=Qa4 (var_at rfl) (var_at rfl) (var_at rfl) (by omega)
      refine (zf (m:=Qds) (nw:=false) (XM sl) (fun _ _=>rfl) (fun x hx=>?_) (by rw [List.length_take,List.length_drop,kl];show _ < 100000;have:n <= 1000:=hl;omega)).trans ?_
      . have hx:=List.mem_of_mem_drop (List.mem_of_mem_take hx)
        obtain ⟨k,hk,rfl⟩:=List.mem_map.mp hx
        exact Q6 (i:=0) rfl rfl rfl
      . rw [List.map_take,List.map_drop,gl hm hf hn first,ck,List.map_take,List.map_drop]
    have tp:JD (Qb (Qh ixG (Qc 7) (eC (.int 0))) (Qb (QU UY (Qb (eSl (Qc 7) (Zz (eC (.int 1))) Xr) Qk)) (Qb (K4 (Qb (Qh Zb (Qc 1) (Qc 4)) (Qb (Qh Zb (Qc 1) (Qc 6)) Qk))) Qk))) e7 w = some (Jj N M true i,w):=by
      have t1:Qh ixG (Qc 7) (eC (.int 0)) e7 w = some (.int r0.1,w):=J4 (i:=0) (var_at rfl) rfl (by rw [ec];rfl)
      have t2:QU UY (Qb (eSl (Qc 7) (Zz (eC (.int 1))) Xr) Qk) e7 w = some (.tup (((TP.QI N M true i).map fun r=>DV.int r.1).drop 1),w):=V7 (QcP (a:=1) (var_at rfl) rfl)
      have t3:=Qb8 (a:=first + S i) (b:=first + S (i + 1)) (w:=w) (env:=e7) (qe (var_at rfl) (var_at rfl):Qh Zb (Qc 1) (Qc 4) e7 w = _) (qe (var_at rfl) (var_at rfl):Qh Zb (Qc 1) (Qc 6) e7 w = _) (by omega) (by have:n <= 1000:=hl;omega)
      rw [x9 (j9 t1 t2 t3) (Nat.le_of_ble_eq_true rfl)]
      unfold Jj VT jT V3
      rw [show first + S (i + 1) - (first + S i) = S (i + 1) - S i by omega,<- kW rows m fork first (S i) (S (i + 1)) s2,<- List.map_drop]
      rw [ec];rw [<- ck,ec];rfl
    refine (Qo (vg tp (rfl:e7[3]? = _) (by rw [List.length_map,List.length_range];have:q < n:=ql;have:n <= 1000:=hl;omega))).trans ?_
    refine (Qs (var_at rfl)).trans ?_
    show some ((Fl.nx,[_,_,_,Sl.acc ((List.range i).map (Jj N M true) ++ [Jj N M true i]),Sl.val (.int (S (i + 1):Nat)),_,_,_]),w) = some ((Fl.nx,[_,_,_,Sl.acc ((List.range (i + 1)).map (Jj N M true)),Sl.val (.int (S (i + 1):Nat)),_,_,_]),w)
    rw [List.range_succ,List.map_append];rfl)
  rw [cl] at body
  refine Q3 (env:=(J q).set 3 (.val (.lst (Ze N M true)))) ?_
  refine (Qo (rfl:zn 3 _ w = some ((.nx,_),w))).trans ((Qo (env1:=J 0) (hp1:=w) (Qs (d:=.int (S 0:Nat)) (by rw [S0];rfl))).trans ((Qo (env1:=J q) (hp1:=w) ?_).trans (show Q9 (Qc 3) ((J q).set 3 (.val (.lst (Ze N M true)))) w = _ from Q5 rfl)))
  refine YZ (XM (f:=Qt 2 JE (Qb (QU Zd (Qb (Qc 0) Qk)) (Qb (Qc 2) Qk))) (ds:=C) ?_) body
  refine km (x:=.int (n:Int)) (y:=.int (M:Int)) ?_ (var_at rfl) (zy ((gD hM hM2 h2 hl).trans (by rw [cn])) w)
  rw [zQ (ds:=K) (var_at rfl),kl]
theorem KK {n:Nat} (h:1 <= n):ixN n (-1) = some (n - 1):=by
  unfold ixN
  rw [if_neg (by decide),if_pos (by omega)]
  congr 1;omega
def emp:DV:=.tup [.int 0,.tup [],.tup [],.non,.non]
theorem pf0 (d:DV):qF ("page_room" : Str) d [] = [(("page_room" : Str),d)]:=by rfl
theorem pf1 (x d:DV):qF ("kept" : Str) d [(("page_room" : Str),x)] = [(("page_room" : Str),x),(("kept" : Str),d)]:=by rfl
theorem pf2 (x y d:DV):qF ("top" : Str) d [(("page_room" : Str),x),(("kept" : Str),y)] = [(("page_room" : Str),x),(("kept" : Str),y),(("top" : Str),d)]:=by rfl
theorem pf3 (x y z d:DV):qF ("read_count" : Str) d [(("page_room" : Str),x),(("kept" : Str),y),(("top" : Str),z)] = [(("page_room" : Str),x),(("kept" : Str),y),(("top" : Str),z),(("read_count" : Str),d)]:=by rfl
theorem pf4 (x y z u d:DV):qF ("write_count" : Str) d [(("page_room" : Str),x),(("kept" : Str),y),(("top" : Str),z),(("read_count" : Str),u)] = [(("page_room" : Str),x),(("kept" : Str),y),(("top" : Str),z),(("read_count" : Str),u),(("write_count" : Str),d)]:=by rfl
theorem Qb2 (r:Int) (hp:Hs):Zw [.ref hp.length,.int r] (hp ++ [.ins "Shelf" []]) = some (.non,hp ++ [.ins "Shelf" (shF r (hp.length + 1) 0 0 0),.lst [emp]]):=by
  simp [Zw,YL,Zl,Qy,QP,Q9,jh,sIf,ZJ,qr,jk,zn,zq,Qh,Qc,eC,eB,asB,Xw,eOr,XD,Yf,jm,jy,eIf,qi,Qk,Qb,JD,ZX,Qt,QU,QA,gN,ZY,Jh,XA,Xc,Xb,XH,JS,Yx,jB,Uo,ZV,XE,Zu,Ye,zE,xY,zp,gSb,yK,JC,qq,qx,yW,Vr,onI,onL,onD,Zs,Y4,yY,yB,ixG,Zd,qE,qP,qD,xy,asI,zo,ve,Zt,qQ,JR,Xl,yM,evP,X2,Y2,XO,X0,JV,YS,qf,YR,Z3,JX,Jr,yt,GL,pf0,pf1,pf2,pf3,pf4,Xs,lim,shF,emp]
def shW (w:Hs) (room t b:Int) (ps:List DV):Hs:=w ++ [.ins "Shelf" (shF room (w.length + 1) t 0 b),.lst ps]
theorem yJ (w:Hs) (room t b:Int) (ps:List DV):(shW w room t b ps)[w.length]? = some (.ins "Shelf" (shF room (w.length + 1) t 0 b)):=by simp [shW]
theorem uZ (w:Hs) (room t b:Int) (ps:List DV):(shW w room t b ps)[w.length + 1]? = some (.lst ps):=by
  unfold shW
  rw [List.getElem?_append_right (by omega),Nat.add_sub_cancel_left];rfl
theorem uq (w:Hs) (room t b t' b':Int) (ps ps':List DV):((shW w room t b ps).set w.length (.ins "Shelf" (shF room (w.length + 1) t' 0 b'))).set (w.length + 1) (.lst ps') = shW w room t' b' ps':=by
  unfold shW
  rw [List.set_append_right _ _ (Nat.le_refl _),Nat.sub_self,List.set_append_right _ _ (by omega),Nat.add_sub_cancel_left];rfl
theorem kC (w:Hs) (room t b t' b':Int) (ps:List DV):(shW w room t b ps).set w.length (.ins "Shelf" (shF room (w.length + 1) t' 0 b')) = shW w room t' b' ps:=by
  unfold shW
  rw [List.set_append_right _ _ (Nat.le_refl _),Nat.sub_self];rfl
theorem uD {w:Hs} {i:Nat} (h:i < w.length) (room t b:Int) (ps:List DV):(shW w room t b ps)[i]? = w[i]?:=List.getElem?_append_left h
theorem Qbt {r:Int} {fa:DAx} {env:En} {hp0 hp:Hs} (ha:fa env hp0 = some ([.int r],hp)):qQ "Shelf" 2 Zw fa env hp0 = some (.ref hp.length,shW hp r 0 0 [emp]):=by
  unfold qQ
  rw [Qf ha]
  have al:Y9 (.ins "Shelf" []) hp = some (.ref hp.length,hp ++ [.ins "Shelf" []]):=rfl
  have gd:QA (decide ([DV.int r].length + 1 = 2)) hp = some ((),hp):=rfl
  rw [Qf gd,Qf al,Qf (Qb2 r hp)];rfl
theorem KA {w:Hs} {a room:Nat} {ps:List DV} (ha:w[a]? = some (.lst ps)) (h1:1 <= ps.length) (hl:ps.length <= 5000):Y8 [.ref a,.int (room:Int)] w = some (.ref w.length,shW w room ((ps.length - 1:Nat):Int) ps.length ps):=by
  have la:a < w.length:=(List.getElem?_eq_some_iff.mp ha).1
  have pa:∀ t b qs,(shW w room t b qs)[a]? = some (.lst ps):=fun t b qs=>by rw [uD la];exact ha
  obtain ⟨p0,pr,ep⟩:∃ p0 pr,ps = p0 :: pr:=by cases ps with | nil=>simp at h1 | cons x y=>exact ⟨x,y,rfl⟩
  let e1:Sl -> En:=fun z=>[.val (.ref a),.val (.int room),.val (.ref w.length),z]
  refine Q3 (env:=e1 (sl3 (fun i=>pr.getD i .non) pr.length)) ?_
  refine (Qo (env1:=e1 .un) (hp1:=shW w room 0 0 [emp]) (Qs (Qbt (Zh (var_at rfl))))).trans ?_
  refine (Qo (env1:=e1 .un) (hp1:=shW w room 0 1 [p0]) (JI (Ja (a:=w.length) (var_at rfl) (yJ ..) (Kj ..) (ZH rfl (Xj (i:=0) (d:=p0) (var_at rfl) (pa _ _ _) rfl (by rw [ep];rfl))) rfl ((kR (i:=0) (d:=p0) (yJ ..) (uZ ..) (by omega) (by simp)).trans (by rw [uq];rfl))))).trans ?_
  let J:Nat -> En:=fun i=>e1 (sl3 (fun i=>pr.getD i .non) i)
  let W:Nat -> Hs:=fun i=>shW w room 0 ((1 + i:Nat):Int) (p0 :: pr.take i)
  have prl:pr.length + 1 = ps.length:=by rw [ep];rfl
  have body:=ju (b:=fun d env=>do let env' <- gN 3 d env;Y6 env') J W pr (by omega) (fun i d hd=>by
    have hi:i < pr.length:=(List.getElem?_eq_some_iff.mp hd).1
    have gd:pr.getD i .non = d:=by rw [List.getD_eq_getElem?_getD,hd];rfl
    show Y6 (e1 (.val d)) (W i) = some ((.nx,e1 (.val (pr.getD i .non))),W (i + 1))
    rw [gd]
    have ly:JB [.ref w.length,d] (W i) = some (.int ((p0 :: pr.take i).length:Int),W (i + 1)):=(Qek (pg:=d) (yJ ..) (uZ ..) (by omega) (by rw [List.length_cons,List.length_take];omega)).trans (by
      rw [uq]
      show some (_,shW w room 0 (((1 + i:Nat):Int) + 1) (p0 :: pr.take i ++ [d])) = some (_,shW w room 0 ((1 + (i + 1):Nat):Int) (p0 :: pr.take (i + 1)))
      rw [List.take_add_one,hd,show (((1 + i:Nat):Int) + 1) = ((1 + (i + 1):Nat):Int) by omega];rfl)
    exact JI (Ja (a:=w.length) (var_at rfl) (yJ ..) (gO ..) (Zh (var_at rfl)) rfl ly))
  refine (Qo (env1:=J pr.length) (hp1:=shW w room 0 ((1 + pr.length:Nat):Int) ps) ?_).trans ?_
  . refine (YZ (XM (ds:=pr) ?_) body).trans ?_
    . have:=QaH (a:=1) (n:=a) (ds:=ps) (f:=Qc 0) (g:=eC (.int 1)) (env:=J 0) (hp:=W 0) (var_at rfl) (pa _ _ _) rfl
      exact this.trans (by rw [ep];rfl)
    . show some ((_,J pr.length),shW w room 0 _ (p0 :: pr.take pr.length)) = _
      rw [List.take_length,<- ep]
  have ml:=Ui (i:=ps.length - 1) (hp:=shW w room 0 ((1 + pr.length:Nat):Int) ps) (yJ ..) (uZ ..) (by omega)
  rw [kC] at ml
  refine (Qo (env1:=J pr.length) (hp1:=shW w room ((ps.length - 1:Nat):Int) ps.length ps) (JI (Ja (a:=w.length) (var_at rfl) (yJ ..) (GH ..) (Zh (v:=.int ((ps.length - 1:Nat):Int)) ?_) rfl (ml.trans (by rw [show ((1 + pr.length:Nat):Int) = (ps.length:Int) by omega]))))).trans (Q5 rfl)
  rw [jl (Xd (n:=a) (var_at rfl) (pa _ _ _)) rfl]
  congr 3;omega
def xb (M:Nat):Nat -> TP.Rw -> Nat -> Bool -> Nat -> Nat -> List DV -> List DV
  | 0,_,_,_,_,_,P=>P
  | k + 1,rows,m,fork,lv,first,P=>if TP.qn rows.length m <= 1 then P else xb M k (TP.qp rows m fork first) M true (lv + 1) P.length (P ++ Z4 (TP.qp rows m fork first) M true (lv + 1) P.length)
theorem uI {n m:Nat} (hm:1 <= m):TP.qn n m <= max 1 n:=by
  obtain ⟨q1,q2,q3⟩:=TP.Zf (n:=n) hm
  have:(TP.qn n m - 1) * 1 <= (TP.qn n m - 1) * m:=Nat.mul_le_mul_left _ hm
  omega
theorem zV {o:DEx} {fa:DAx} {env:En} {hp hp1:Hs} {a b:Nat} {ds es:List DV} (ho:o env hp = some (.ref a,hp)) (h:hp[a]? = some (.lst ds)) (ha:fa env hp = some ([.ref b],hp1)) (h1:hp1[a]? = some (.lst ds)) (hb:hp1[b]? = some (.lst es)) (hl:ds.length + es.length <= 100000):JC "list" Jl o fa env hp = some (.non,hp1.set a (.lst (ds ++ es))):=by
  unfold JC
  rw [Qf ho]
  have e2:qq "list" (.ref a) hp = some ((),hp):=by
    show (Zi a >>= _) hp = _
    rw [Qf (QY h)];rfl
  rw [Qf e2,Qf ha]
  show (Zi a >>= _) hp1 = _
  rw [Qf (QY h1)]
  show (Zi b >>= _) hp1 = _
  rw [Qf (QY hb)]
  show (QA (decide (ds.length + es.length <= lim)) >>= fun _=>jX a (.lst (ds ++ es)) >>= fun _=>pure DV.non) hp1 = _
  rw [show decide (ds.length + es.length <= lim) = true from decide_eq_true hl];rfl
theorem Gn {rows:TP.Rw} {m:Nat} (hm:1 <= m) (h:¬ TP.qn rows.length m <= 1):1 <= rows.length:=by
  have:=uI (n:=rows.length) hm
  omega
theorem gP {T:DV} {room:Nat} (hr:2 <= room) (hr2:room <= 50) (w:Hs):∀ (k:Nat) (rows:TP.Rw) (m:Nat) (fork:Bool) (lv first:Nat) (P:List DV) (t:Hs) (fuel:Nat),TP.qn rows.length m <= k -> k < fuel -> 1 <= m -> (fork = true -> 3 <= m) -> rows.length <= 1000 -> P.length = first + TP.qn rows.length m -> P.length + 2 * TP.qn rows.length m <= 2000 ->
    ∃ lv' fs t',ZZ (eB (Qh gtD (QU Zd (Qb (Qc 3) Qk)) (eC (.int 1)))) zP fuel [.val T,.val (.int (room:Int)),.val (.int (lv:Int)),.val (.lst (Ze rows m fork)),.val (.ref w.length)] (w ++ .lst P :: t) = some ((.nx,[.val T,.val (.int room),.val lv',.val fs,.val (.ref w.length)]),w ++ .lst (xb (room + 1) k rows m fork lv first P) :: t') /\ (xb (room + 1) k rows m fork lv first P).length <= P.length + 2 * TP.qn rows.length m /\ P.length <= (xb (room + 1) k rows m fork lv first P).length:=by
  intro k
  induction k with
  | zero =>
    intro rows m fork lv first P t fuel h1 h2 hm
    have:=(TP.Zf (n:=rows.length) hm).1
    omega
  | succ k ih =>
    intro rows m fork lv first P t fuel hq hfu hm hf hl hP hP2
    obtain ⟨fuel,rfl⟩:∃ f,fuel = f + 1:=⟨fuel - 1,by omega⟩
    have tst:eB (Qh gtD (QU Zd (Qb (Qc 3) Qk)) (eC (.int 1))) [.val T,.val (.int (room:Int)),.val (.int (lv:Int)),.val (.lst (Ze rows m fork)),.val (.ref w.length)] (w ++ .lst P :: t) = some (decide (1 < TP.qn rows.length m),w ++ .lst P :: t):=by
      refine (Zg (yO (zQ (ds:=Ze rows m fork) (var_at rfl)) rfl)).trans ?_
      rw [zg]
      congr 2
      by_cases c:1 < TP.qn rows.length m
      . rw [decide_eq_true c,decide_eq_true (by omega)]
      . rw [decide_eq_false c,decide_eq_false (by omega)]
    unfold xb
    by_cases c:TP.qn rows.length m <= 1
    . rw [if_pos c]
      refine ⟨.int lv,.lst (Ze rows m fork),t,QaK (tst.trans (by rw [decide_eq_false (by omega)])),by omega,Nat.le_refl _⟩
    . rw [if_neg c]
      have n1:=Gn hm c
      have qle:=uI (n:=rows.length) hm
      let N:=TP.qp rows m fork first
      have Nl:N.length = TP.qn rows.length m:=TP.jJ rows m fork first
      have lessq:TP.qn N.length (room + 1) < TP.qn rows.length m:=by rw [Nl];exact TP.uB (by omega) (by omega)
      have half:2 * TP.qn N.length (room + 1) <= TP.qn rows.length m + 1:=by
        obtain ⟨a1,a2,a3⟩:=TP.Zf (n:=N.length) (show 1 <= room + 1 by omega)
        have:(TP.qn N.length (room + 1) - 1) * 2 <= (TP.qn N.length (room + 1) - 1) * (room + 1):=Nat.mul_le_mul_left _ (by omega)
        omega
      let Q:=P ++ Z4 N (room + 1) true (lv + 1) P.length
      have Ql:Q.length = P.length + TP.qn N.length (room + 1):=by rw [List.length_append,YB]
      let E:DV -> DV -> En:=fun x y=>[.val T,.val (.int room),.val x,.val y,.val (.ref w.length)]
      have hp:(w ++ .lst P :: t)[w.length]? = some (.lst P):=yt w _ t
      have s1:xY 2 zo (eC (.int 1)) (E (.int lv) (.lst (Ze rows m fork))) (w ++ .lst P :: t) = some ((.nx,E (.int ((lv:Int) + 1)) (.lst (Ze rows m fork))),w ++ .lst P :: t):=rfl
      have c1:((lv:Int) + 1) = ((lv + 1:Nat):Int):=by simp
      have s2:Qt 3 JL (Qb (Qc 3) (Qb (Qh XW (QU Zd (Qb (Qc 4) Qk)) (QU Zd (Qb (Qc 3) Qk))) (Qb (Qh Zb (Qc 1) (eC (.int 1))) Qk))) (E (.int ((lv:Int) + 1)) (.lst (Ze rows m fork))) (w ++ .lst P :: t) = some (.lst (Ze N (room + 1) true),w ++ .lst P :: t):=by
        refine QO (j9 (var_at rfl) (v':=.int (first:Int)) ?_ (qe (j:=1) (var_at rfl) rfl)) rfl (Qb9 hm hf n1 (by omega) (by omega) (by omega) (by omega) (by omega))
        rw [jl (Xd (n:=w.length) (var_at rfl) hp) (zQ (ds:=Ze rows m fork) (var_at rfl)),zg]
        congr 3;omega
      have lk:=VJ (w ++ .lst P :: t) N (room + 1) true (lv + 1) P.length (by omega)
      have s3:JC "list" Jl (Qc 4) (Qb (Qt 3 Yz (Qb (Qc 2) (Qb (Qc 3) (Qb (QU Zd (Qb (Qc 4) Qk)) Qk)))) Qk) (E (.int ((lv:Int) + 1)) (.lst (Ze N (room + 1) true))) (w ++ .lst P :: t) = some (.non,w ++ .lst Q :: (t ++ [.lst (Z4 N (room + 1) true (lv + 1) P.length)])):=by
        have e0:(w ++ .lst P :: t) ++ [OV.lst (Z4 N (room + 1) true (lv + 1) P.length)] = w ++ .lst P :: (t ++ [.lst (Z4 N (room + 1) true (lv + 1) P.length)]):=by simp
        refine (zV (a:=w.length) (b:=(w ++ .lst P :: t).length) (ds:=P) (es:=Z4 N (room + 1) true (lv + 1) P.length) (hp1:=w ++ .lst P :: (t ++ [.lst (Z4 N (room + 1) true (lv + 1) P.length)])) (var_at rfl) hp (Zh ?_) (yt w _ _) ?_ (by rw [YB];omega)).trans (by rw [GL])
        . refine QO (j9 (var_at rfl) (var_at rfl) (Xd (n:=w.length) (var_at rfl) hp)) rfl ?_
          rw [c1,<- e0];exact lk
        . rw [<- e0,List.getElem?_append_right (Nat.le_refl _),Nat.sub_self];rfl
      have step:zP (E (.int lv) (.lst (Ze rows m fork))) (w ++ .lst P :: t) = some ((.nx,E (.int ((lv + 1:Nat):Int)) (.lst (Ze N (room + 1) true))),w ++ .lst Q :: (t ++ [.lst (Z4 N (room + 1) true (lv + 1) P.length)])):=by
        rw [<- c1]
        exact (Qo s1).trans ((Qo (Qs s2)).trans (JI s3))
      obtain ⟨lv',fs,t',r1,r2,r3⟩:=ih N (room + 1) true (lv + 1) P.length Q (t ++ [.lst (Z4 N (room + 1) true (lv + 1) P.length)]) fuel (by omega) (by omega) (by omega) (fun _=>by omega) (by omega) Ql (by omega)
      refine ⟨lv',fs,t',(jE (tst.trans (by rw [decide_eq_true (by omega)])) step).trans r1,Nat.le_trans r2 (by omega),Nat.le_trans (by omega) r3⟩
def qk (rows:TP.Rw) (room:Nat):List DV:=xb (room + 1) (TP.qn rows.length room) rows room false 0 0 (Z4 rows room false 0 0)
theorem gC {w:Hs} {T:DV} {rows:TP.Rw} {room:Nat} (hT:RowsAt w T rows) (hr:2 <= room) (hr2:room <= 50) (hl:rows.length <= 300):∃ t,XX [T,.int (room:Int)] w = some (.ref (w ++ t).length,shW (w ++ t) room (((qk rows room).length - 1:Nat):Int) (qk rows room).length (qk rows room)) /\ 1 <= (qk rows room).length /\ (qk rows room).length <= 2000:=by
  have qle:=uI (n:=rows.length) (show 1 <= room by omega)
  have q1:=(TP.Zf (n:=rows.length) (show 1 <= room by omega)).1
  have lf:=QbO hT (show 1 <= room by omega) (by omega) (by omega)
  have lk:=VJ w rows room false 0 0 (by omega)
  obtain ⟨lv',fs,t',e,b1,b2⟩:=gP (T:=T) hr hr2 w (TP.qn rows.length room) rows room false 0 0 (Z4 rows room false 0 0) [] 100000 (Nat.le_refl _) (by omega) (by omega) (by simp) (by omega) (by rw [YB];omega) (by rw [YB];omega)
  rw [YB] at b1 b2
  have b1:(qk rows room).length <= TP.qn rows.length room + 2 * TP.qn rows.length room:=b1
  have b2:TP.qn rows.length room <= (qk rows room).length:=b2
  refine ⟨.lst (qk rows room) :: t',?_,by omega,by omega⟩
  have sh:=KA (w:=w ++ .lst (qk rows room) :: t') (a:=w.length) (room:=room) (ps:=qk rows room) (yt w _ t') (by omega) (by omega)
  refine Q3 (env:=[.val T,.val (.int room),.val lv',.val fs,.val (.ref w.length)]) ?_
  refine (Qo (env1:=[.val T,.val (.int room),.val (.int ((0:Nat):Int)),.un,.un]) (hp1:=w) (Qs rfl)).trans ?_
  refine (Qo (env1:=[.val T,.val (.int room),.val (.int ((0:Nat):Int)),.val (.lst (Ze rows room false)),.un]) (hp1:=w) (Qs (QO (ZH (var_at rfl) (var_at rfl)) rfl lf))).trans ?_
  refine (Qo (env1:=[.val T,.val (.int room),.val (.int ((0:Nat):Int)),.val (.lst (Ze rows room false)),.val (.ref w.length)]) (hp1:=w ++ [.lst (Z4 rows room false 0 0)]) (Qs (QO (j9 (var_at rfl) (var_at rfl) rfl) rfl lk))).trans ?_
  refine (Qo (show zW _ _ = _ by unfold zW;exact e)).trans ?_
  exact Q5 (QO (ZH (var_at rfl) (var_at rfl)) rfl sh)
theorem QfP {α:Type} {d a:Nat} (da:d ≠ a) {l:List α} {x x' y y':α}:(((l.set d x).set a y).set d x').set a y' = (l.set d x').set a y':=by
  have:((l.set d x).set a y).set d x' = (l.set d x').set a y:=by
    rw [show ((l.set d x).set a y).set d x' = ((l.set d x).set d x').set a y from List.set_comm _ _ (Ne.symm da),List.set_set]
  rw [this,List.set_set]
def mkD (seen:List Nat):List (Key × DV):=seen.map fun m:Nat=>(.inl (m:Int),.bl true)
theorem u4 (k:Nat):∀ seen:List Nat,XC (mkD seen) (.inl (k:Int)) = if k ∈ seen then some (.bl true) else none
  | []=>rfl
  | x :: xs=>by
    have ih:=u4 k xs
    unfold XC at ih ⊢
    show Option.map _ (List.find? _ ((Sum.inl (x:Int),DV.bl true) :: mkD xs)) = _
    rw [List.find?_cons]
    by_cases h:x = k
    . subst h;simp
    . have n1:¬ (Sum.inl (x:Int):Key) = Sum.inl (k:Int):=fun e=>h (by injection e with e;omega)
      rw [decide_eq_false n1]
      show Option.map _ (List.find? _ (mkD xs)) = _
      rw [ih]
      by_cases m:k ∈ xs
      . rw [if_pos m,if_pos (List.mem_cons_of_mem _ m)]
      . rw [if_neg m,if_neg (fun z=>by rcases List.mem_cons.mp z with e | e;exact h e.symm;exact m e)]
theorem QcI {seen:List Nat} {k:Nat} (h:k ∉ seen):Yl (mkD seen) (.inl (k:Int)) (.bl true) = mkD (seen ++ [k]):=by
  unfold Yl
  rw [if_neg (fun z=>?_)]
  . unfold mkD;rw [List.map_append];rfl
  . rw [List.any_eq_true] at z
    obtain ⟨kv,m,e⟩:=z
    obtain ⟨x,hx,rfl⟩:=List.mem_map.mp m
    have e:=of_decide_eq_true e
    have:x = k:=by injection e with e;omega
    exact h (this ▸ hx)
theorem Qed {hp:Hs} {d k:Nat} {seen:List Nat} (h:hp[d]? = some (.dic (mkD seen))):yD (.int (k:Int)) (.ref d) hp = some (.bl (!decide (k ∈ seen)),hp):=by
  unfold yD
  have:QbU (.int (k:Int)) (.ref d) hp = some (decide (k ∈ seen),hp):=by
    show (Zi d >>= _) hp = _
    rw [Qf (QY h)]
    show some ((XC (mkD seen) (.inl (k:Int))).isSome,hp) = _
    rw [u4]
    by_cases m:k ∈ seen
    . rw [if_pos m,decide_eq_true m];rfl
    . rw [if_neg m,decide_eq_false m];rfl
  rw [Qf this];rfl
theorem QdS {e f g:DEx} {env:En} {hp:Hs} {d k:Nat} {seen:List Nat} (he:e env hp = some (.bl true,hp)) (hf:f env hp = some (.ref d,hp)) (hd:hp[d]? = some (.dic (mkD seen))) (hg:g env hp = some (.int (k:Int),hp)) (hn:k ∉ seen) (hl:seen.length < 100000):zp e (gSb f g) env hp = some ((.nx,env),hp.set d (.dic (mkD (seen ++ [k])))):=by
  unfold zp
  rw [Qf he]
  have:gSb f g (.bl true) env hp = some (env,hp.set d (.dic (mkD (seen ++ [k])))):=by
    unfold gSb
    rw [Qf hf,Qf hg]
    have q:yK (.ref d) (.int (k:Int)) (.bl true) hp = some ((),hp.set d (.dic (mkD (seen ++ [k])))):=by
      show (Zi d >>= _) hp = _
      rw [Qf (QY hd)]
      show (QA (decide ((mkD seen).length < lim)) >>= fun _=>jX d (.dic (Yl (mkD seen) (.inl (k:Int)) (.bl true)))) hp = _
      rw [show decide ((mkD seen).length < lim) = true from decide_eq_true (by unfold mkD;rw [List.length_map];exact hl),QcI hn];rfl
    rw [Qf q];rfl
  rw [Qf this];rfl
section
variable {S:TR.Sh} {bg:TR.Bg}
def pgL (S:TR.Sh):DV:=.lst (S.pg.map pgD)
theorem Xu {n:Nat} {p:TR.Pg} (h:S.pg[n]? = some p):(S.pg.map pgD)[n]? = some (pgD p):=by rw [List.getElem?_map,h];rfl
theorem gE {d a:Nat} (da:d ≠ a) (lf:DV):∀ {n:Nat} {r:List Nat},TR.Chain S n r -> ∀ (fuel:Nat) (seen done:List Nat) (hp:Hs),r.length < fuel -> hp[d]? = some (.dic (mkD seen)) -> hp[a]? = some (.lst (nD done)) -> (∀ m ∈ r,m ∉ seen) -> r.Nodup -> seen.length + r.length < 100000 -> done.length + r.length < 100000 ->
    ZZ (Xw (eB (Qh yi (Qc 4) (eC .non))) (Xw (eB (YU leD ltD (eC (.int 0)) (Qc 4) (QU Zd (Qb (Qc 0) Qk)))) (eB (Qh yD (Qc 4) (Qc 2))))) YX fuel [.val (pgL S),.val lf,.val (.ref d),.val (.ref a),.val (.int (n:Int))] hp =
      some ((.nx,[.val (pgL S),.val lf,.val (.ref d),.val (.ref a),.val .non]),(hp.set d (.dic (mkD (seen ++ r)))).set a (.lst (nD (done ++ r)))):=by
  have turn:∀ (n:Nat) (p:TR.Pg) (seen done:List Nat) (hp:Hs),S.pg[n]? = some p -> hp[d]? = some (.dic (mkD seen)) -> hp[a]? = some (.lst (nD done)) -> n ∉ seen -> seen.length < 100000 -> done.length < 100000 ->
      (Xw (eB (Qh yi (Qc 4) (eC .non))) (Xw (eB (YU leD ltD (eC (.int 0)) (Qc 4) (QU Zd (Qb (Qc 0) Qk)))) (eB (Qh yD (Qc 4) (Qc 2))))) [.val (pgL S),.val lf,.val (.ref d),.val (.ref a),.val (.int (n:Int))] hp = some (true,hp) /\
      YX [.val (pgL S),.val lf,.val (.ref d),.val (.ref a),.val (.int (n:Int))] hp = some ((.nx,[.val (pgL S),.val lf,.val (.ref d),.val (.ref a),.val (oN p.sd)]),(hp.set d (.dic (mkD (seen ++ [n])))).set a (.lst (nD (done ++ [n])))):=by
    intro n p seen done hp hn hd ha hs l1 l2
    have nl:n < S.pg.length:=(List.getElem?_eq_some_iff.mp hn).1
    let e:En:=[.val (pgL S),.val lf,.val (.ref d),.val (.ref a),.val (.int (n:Int))]
    constructor
    . rw [Up (Zg (Qu (x:=.int (n:Int)) (var_at rfl) rfl rfl)),Up (Zg (QaD (i:=(n:Int)) (n:=S.pg.length) rfl (var_at rfl) (by rw [zQ (ds:=S.pg.map pgD) (var_at rfl),List.length_map]) (by omega) (by omega)))]
      refine Zg ?_
      rw [Qu (var_at rfl) (var_at rfl) (Qed hd),decide_eq_false hs];rfl
    . have hd1:(hp.set d (.dic (mkD (seen ++ [n]))))[a]? = some (.lst (nD done)):=by rw [List.getElem?_set_ne da];exact ha
      refine (Qo (QdS (d:=d) (k:=n) rfl (var_at rfl) hd (var_at rfl) hs l1)).trans ((Qo (JI (jN (a:=a) (ds:=nD done) (d:=.int (n:Int)) (var_at rfl) hd1 (var_at rfl) (by rw [Je];exact l2)))).trans ?_)
      rw [show nD done ++ [DV.int (n:Int)] = nD (done ++ [n]) by rw [<- Qaf];rfl]
      exact Qs (Q6 (i:=4) (ds:=[.int p.lv,.tup (p.ks.map .int),.tup (p.ps.map .int),opt p.hi,oN p.sd]) (J4 (i:=n) (ds:=S.pg.map pgD) (d:=pgD p) (var_at rfl) (var_at rfl) (Xu hn)) rfl rfl)
  intro n r c
  induction c with
  | @last n p hn hs =>
    intro fuel seen done hp hf hd ha hm hnd l1 l2
    have l1:seen.length + 1 < 100000:=l1
    have l2:done.length + 1 < 100000:=l2
    have hf:1 < fuel:=hf
    obtain ⟨t1,t2⟩:=turn n p seen done hp hn hd ha (hm n (by simp)) (by omega) (by omega)
    obtain ⟨f,rfl⟩:∃ f,fuel = f + 2:=⟨fuel - 2,by omega⟩
    rw [jE t1 t2,hs]
    exact Uf (GT (Zg (Qu (x:=.non) (var_at rfl) rfl rfl)))
  | @next n p s r hn hs c ih =>
    intro fuel seen done hp hf hd ha hm hnd l1 l2
    have hf:r.length + 1 < fuel:=hf
    have l1:seen.length + (r.length + 1) < 100000:=l1
    have l2:done.length + (r.length + 1) < 100000:=l2
    obtain ⟨t1,t2⟩:=turn n p seen done hp hn hd ha (hm n (by simp)) (by omega) (by omega)
    obtain ⟨f,rfl⟩:∃ f,fuel = f + 1:=⟨fuel - 1,by omega⟩
    have ld:d < hp.length:=(List.getElem?_eq_some_iff.mp hd).1
    have la:a < hp.length:=(List.getElem?_eq_some_iff.mp ha).1
    obtain ⟨nr,nd⟩:=List.nodup_cons.mp hnd
    rw [jE t1 t2,hs]
    refine (ih f (seen ++ [n]) (done ++ [n]) _ (by omega) (by rw [List.getElem?_set_ne (Ne.symm da),List.getElem?_set_self ld]) (by rw [List.getElem?_set_self (by rw [List.length_set];exact la)]) (fun m h z=>?_) nd (by rw [List.length_append];simp;omega) (by rw [List.length_append];simp;omega)).trans ?_
    . rcases List.mem_append.mp z with z | z
      . exact hm m (List.mem_cons_of_mem _ h) z
      . rw [List.mem_singleton.mp z] at h;exact nr h
    . rw [List.append_assoc,List.append_assoc,QfP da];rfl
theorem KZ {n d:Nat} {r:List Nat} (c:TR.Chain S n r) {seen:List Nat} {w:Hs} (hd:w[d]? = some (.dic (mkD seen))) (hm:∀ m ∈ r,m ∉ seen) (hnd:r.Nodup) (h1:seen.length + r.length < 90000) :
    Y1 [pgL S,.int (n:Int),.ref d] w = some (.ref w.length,w.set d (.dic (mkD (seen ++ r))) ++ [.lst (nD r)]):=by
  have ld:d < w.length:=(List.getElem?_eq_some_iff.mp hd).1
  have lp:=gE (S:=S) (d:=d) (a:=w.length) (by omega) (.int (n:Int)) c 100000 seen [] (w ++ [.lst []]) (by omega) (by rw [List.getElem?_append_left ld];exact hd) (by rw [List.getElem?_append_right (Nat.le_refl _),Nat.sub_self];rfl) hm hnd (by omega) (by simp;omega)
  rw [List.nil_append,List.set_append_left _ _ ld,List.set_append_right _ _ (by rw [List.length_set];exact Nat.le_refl _),List.length_set,Nat.sub_self] at lp
  refine Q3 (env:=[.val (pgL S),.val (.int (n:Int)),.val (.ref d),.val (.ref w.length),.val .non]) ?_
  refine (Qo (env1:=[.val (pgL S),.val (.int (n:Int)),.val (.ref d),.val (.ref w.length),.un]) (hp1:=w ++ [.lst []]) (Qs rfl)).trans ((Qo (Qs (var_at rfl))).trans ?_)
  exact (Qo (show jG _ _ = _ from lp)).trans (Q5 (var_at rfl))
theorem Ur {n c a:Nat} {r:List Nat} {p:TR.Pg} {w:Hs} (ha:w[a]? = some (.lst (nD (n :: r)))) (hn:S.pg[n]? = some p) (hc:p.ps[0]? = some (c:Int)):Ju [pgL S,.ref a] w = some (.int (c:Int),w):=by
  let e:En:=[.val (pgL S),.val (.ref a)]
  have t1:qw (Qc 1) e w = some (true,w):=by
    unfold qw
    rw [Qf (var_at rfl:Qc 1 e w = some (.ref a,w))]
    show (Zi a >>= _) w = _
    rw [Qf (QY ha)];rfl
  have x0:Qh ixG (Qc 1) (eC (.int 0)) e w = some (.int (n:Int),w):=Xj (i:=0) (var_at rfl) ha rfl rfl
  have x1:Qh ixG (Qc 0) (Qh ixG (Qc 1) (eC (.int 0))) e w = some (pgD p,w):=J4 (i:=n) (ds:=S.pg.map pgD) (var_at rfl) x0 (Xu hn)
  have x2:Qh ixG (Qh ixG (Qc 0) (Qh ixG (Qc 1) (eC (.int 0)))) (eC (.int 2)) e w = some (.tup (p.ps.map .int),w):=Q6 (i:=2) x1 rfl rfl
  have t2:qw (Qh ixG (Qh ixG (Qc 0) (Qh ixG (Qc 1) (eC (.int 0)))) (eC (.int 2))) e w = some (true,w):=by
    unfold qw
    rw [Qf x2]
    show some (!(p.ps.map DV.int).isEmpty,w) = _
    cases h:p.ps with
    | nil=>rw [h] at hc;cases hc
    | cons _ _=>rfl
  refine Q3 (env:=e) ((Qo ((JO ?_).trans JQ)).trans (Q5 (Q6 (i:=0) x2 rfl (by rw [List.getElem?_map,hc];rfl))))
  exact (zH (Z6 t1)).trans (Z6 t2)
theorem Vp {n a:Nat} {r:List Nat} {p:TR.Pg} {w:Hs} (ha:w[a]? = some (.lst (nD (n :: r)))) (hn:S.pg[n]? = some p):∃ d,Ju [pgL S,.ref a] w = some (d,w):=by
  cases h:p.ps with
  | cons x xs =>
    let e:En:=[.val (pgL S),.val (.ref a)]
    have t1:qw (Qc 1) e w = some (true,w):=by
      unfold qw
      rw [Qf (var_at rfl:Qc 1 e w = some (.ref a,w))]
      show (Zi a >>= _) w = _
      rw [Qf (QY ha)];rfl
    have x0:Qh ixG (Qc 1) (eC (.int 0)) e w = some (.int (n:Int),w):=Xj (i:=0) (var_at rfl) ha rfl rfl
    have x1:Qh ixG (Qc 0) (Qh ixG (Qc 1) (eC (.int 0))) e w = some (pgD p,w):=J4 (i:=n) (ds:=S.pg.map pgD) (var_at rfl) x0 (Xu hn)
    have x2:Qh ixG (Qh ixG (Qc 0) (Qh ixG (Qc 1) (eC (.int 0)))) (eC (.int 2)) e w = some (.tup (p.ps.map .int),w):=Q6 (i:=2) x1 rfl rfl
    have t2:qw (Qh ixG (Qh ixG (Qc 0) (Qh ixG (Qc 1) (eC (.int 0)))) (eC (.int 2))) e w = some (true,w):=by
      unfold qw
      rw [Qf x2,h];rfl
    refine ⟨.int x,Q3 (env:=e) ((Qo ((JO ?_).trans JQ)).trans (Q5 (Q6 (i:=0) x2 rfl (by rw [h];rfl))))⟩
    exact (zH (Z6 t1)).trans (Z6 t2)
  | nil =>
    let e:En:=[.val (pgL S),.val (.ref a)]
    have t1:qw (Qc 1) e w = some (true,w):=by
      unfold qw
      rw [Qf (var_at rfl:Qc 1 e w = some (.ref a,w))]
      show (Zi a >>= _) w = _
      rw [Qf (QY ha)];rfl
    have x0:Qh ixG (Qc 1) (eC (.int 0)) e w = some (.int (n:Int),w):=Xj (i:=0) (var_at rfl) ha rfl rfl
    have x1:Qh ixG (Qc 0) (Qh ixG (Qc 1) (eC (.int 0))) e w = some (pgD p,w):=J4 (i:=n) (ds:=S.pg.map pgD) (var_at rfl) x0 (Xu hn)
    have x2:Qh ixG (Qh ixG (Qc 0) (Qh ixG (Qc 1) (eC (.int 0)))) (eC (.int 2)) e w = some (.tup (p.ps.map .int),w):=Q6 (i:=2) x1 rfl rfl
    have t2:qw (Qh ixG (Qh ixG (Qc 0) (Qh ixG (Qc 1) (eC (.int 0)))) (eC (.int 2))) e w = some (false,w):=by
      unfold qw
      rw [Qf x2,h];rfl
    refine ⟨.non,Q3 (env:=e) (Gf ((vM ?_).trans (Q5 rfl)))⟩
    exact (zH (Z6 t1)).trans (Z6 t2)
end
section
variable {S:TR.Sh} {bg:TR.Bg}
def Xp (b k:Nat):List DV:=(List.range k).map fun i=>.ref (b + i)
theorem Jf (b k:Nat):(Xp b k).length = k:=by simp [Xp]
theorem ke (b k:Nat):Xp b k ++ [.ref (b + k)] = Xp b (k + 1):=by unfold Xp;rw [List.range_succ,List.map_append];rfl
theorem JH {b k i:Nat} (h:i < k):(Xp b k)[i]? = some (.ref (b + i)):=by unfold Xp;rw [List.getElem?_map,List.getElem?_range h];rfl
def Wk (w:Hs) (rs:List (List Nat)):Hs:=w ++ .lst (Xp (w.length + 2) rs.length) :: .dic (mkD rs.flatten) :: rs.map fun r=>.lst (nD r)
theorem GV (w:Hs) (rs:List (List Nat)):(Wk w rs).length = w.length + 2 + rs.length:=by unfold Wk;simp;omega
theorem GC (w:Hs) (rs:List (List Nat)):(Wk w rs)[w.length]? = some (.lst (Xp (w.length + 2) rs.length)):=by
  unfold Wk;rw [List.getElem?_append_right (Nat.le_refl _),Nat.sub_self];rfl
theorem Qfr (w:Hs) (rs:List (List Nat)):(Wk w rs)[w.length + 1]? = some (.dic (mkD rs.flatten)):=by
  unfold Wk;rw [List.getElem?_append_right (by omega),show w.length + 1 - w.length = 1 by omega];rfl
theorem vb {w:Hs} {rs:List (List Nat)} {i:Nat} {r:List Nat} (h:rs[i]? = some r):(Wk w rs)[w.length + 2 + i]? = some (.lst (nD r)):=by
  unfold Wk;rw [List.getElem?_append_right (by omega),show w.length + 2 + i - w.length = i + 2 by omega]
  show (rs.map fun r=>OV.lst (nD r))[i]? = _
  rw [List.getElem?_map,h];rfl
theorem GM {w:Hs} {rs:List (List Nat)} {i:Nat} (h:i < w.length):(Wk w rs)[i]? = w[i]?:=List.getElem?_append_left h
theorem QcW (w:Hs) (rs:List (List Nat)) (r:List Nat):(List.set ((Wk w rs).set (w.length + 1) (.dic (mkD (rs.flatten ++ r))) ++ [OV.lst (nD r)]) w.length (OV.lst (Xp (w.length + 2) rs.length ++ [DV.ref (Wk w rs).length])):Hs) = Wk w (rs ++ [r]):=by
  have e1:(Wk w rs).set (w.length + 1) (.dic (mkD (rs.flatten ++ r))) = w ++ OV.lst (Xp (w.length + 2) rs.length) :: OV.dic (mkD (rs.flatten ++ r)) :: rs.map fun r=>OV.lst (nD r):=by
    unfold Wk
    rw [List.set_append_right _ _ (by omega),show w.length + 1 - w.length = 1 by omega];rfl
  rw [GV,ke,e1,List.append_assoc,List.set_append_right _ _ (Nat.le_refl _),Nat.sub_self]
  unfold Wk
  rw [List.flatten_append,show ([r]:List (List Nat)).flatten = r by simp,List.map_append,List.length_append]
  rfl
def Row (S:TR.Sh) (n:Nat) (r:List Nat):Prop:=∃ p,S.pg[n]? = some p /\ TR.Chain S n r /\ r.Nodup /\ ∀ m,m ∈ r ↔ ∃ q,S.pg[m]? = some q /\ q.lv = p.lv
inductive Rows (S:TR.Sh):List Nat -> List (List Nat) -> Prop
  | nil:Rows S [] []
  | cons {n:Nat} {r:List Nat} {ls:List Nat} {rs:List (List Nat)}:Row S n r -> Rows S ls rs -> Rows S (n :: ls) (r :: rs)
theorem Rows.len {ls:List Nat} {rs:List (List Nat)} (h:Rows S ls rs):rs.length = ls.length:=by
  induction h with
  | nil=>rfl
  | cons _ _ ih=>simp [ih]
theorem Rows.get {ls:List Nat} {rs:List (List Nat)} (h:Rows S ls rs):∀ {i:Nat} {n:Nat},ls[i]? = some n -> ∃ r,rs[i]? = some r /\ Row S n r:=by
  induction h with
  | nil=>intro i n h;simp at h
  | cons a _ ih =>
    intro i n h
    cases i with
    | zero=>cases h;exact ⟨_,rfl,a⟩
    | succ i=>exact ih h
theorem YY {n:Nat} {r:List Nat} (c:TR.Chain S n r):∃ r',r = n :: r':=by
  cases c with
  | last _ _=>exact ⟨[],rfl⟩
  | next _ _ _=>exact ⟨_,rfl⟩
theorem G7 (T:TR.Tree S bg) (top:Nat) {R:Nat} {rt:TR.Pg} (ht:S.pg[top]? = some rt) (hR:rt.lv = R) (w:Hs) (hN:(R + 1) * S.pg.length < 80000):∀ {n:Nat} {ls:List Nat},TR.Lefts S bg n ls -> ∀ (p:TR.Pg) (rs:List (List Nat)) (fuel:Nat) (z5:Sl),S.pg[n]? = some p -> p.lv + rs.length = R -> ls.length < fuel -> (∀ r ∈ rs,∀ m ∈ r,∃ q,S.pg[m]? = some q /\ p.lv < q.lv) -> rs.flatten.length <= rs.length * S.pg.length ->
    ∃ (rs' : List (List Nat)) (z4' z5' : Sl), Rows S ls rs' /\ ZZ (eB (Qh leD (QU Zd (Qb (Qc 2) Qk)) (Qh ixG (Qh ixG (Qc 0) (Qc 1)) (eC (.int 0))))) Xk fuel [.val (pgL S), .val (.int (top : Int)), .val (.ref w.length), .val (.ref (w.length + 1)), .val (.int (n : Int)), z5] (Wk w rs) =
      some ((.nx,[.val (pgL S),.val (.int (top:Int)),.val (.ref w.length),.val (.ref (w.length + 1)),z4',z5']),Wk w (rs ++ rs')):=by
  have test:∀ (rs:List (List Nat)) (z4 z5:Sl),eB (Qh leD (QU Zd (Qb (Qc 2) Qk)) (Qh ixG (Qh ixG (Qc 0) (Qc 1)) (eC (.int 0)))) [.val (pgL S),.val (.int (top:Int)),.val (.ref w.length),.val (.ref (w.length + 1)),z4,z5] (Wk w rs) = some (decide (rs.length <= R),Wk w rs):=fun rs z4 z5=>by
    refine Zg ?_
    rw [Qu (x:=.int (rs.length:Int)) (y:=.int (R:Int)) (by rw [Xd (n:=w.length) (var_at rfl) (GC w rs),Jf]) (Q6 (i:=0) (d:=.int (R:Int)) (ds:=[.int rt.lv,.tup (rt.ks.map .int),.tup (rt.ps.map .int),opt rt.hi,oN rt.sd]) (J4 (i:=top) (ds:=S.pg.map pgD) (d:=pgD rt) (var_at rfl) (var_at rfl) (Xu ht)) rfl (by rw [hR];rfl)) rfl]
    show some (DV.bl (decide ((rs.length:Int) <= (R:Int))),_) = _
    congr 3
    by_cases c:rs.length <= R
    . rw [decide_eq_true c,decide_eq_true (by omega)]
    . rw [decide_eq_false c,decide_eq_false (by omega)]
  have turn:∀ (n:Nat) (r:List Nat) (rs:List (List Nat)) (z5:Sl) (d:DV),Row S n r -> rs.length <= R -> (∀ x ∈ rs,∀ m ∈ x,m ∉ r) -> rs.flatten.length <= rs.length * S.pg.length -> Ju [pgL S,.ref (w.length + 2 + rs.length)] (Wk w (rs ++ [r])) = some (d,Wk w (rs ++ [r])) ->
      Xk [.val (pgL S),.val (.int (top:Int)),.val (.ref w.length),.val (.ref (w.length + 1)),.val (.int (n:Int)),z5] (Wk w rs) = some ((.nx,[.val (pgL S),.val (.int (top:Int)),.val (.ref w.length),.val (.ref (w.length + 1)),.val d,.val (.ref (w.length + 2 + rs.length))]),Wk w (rs ++ [r])) /\ r.length <= S.pg.length:=by
    intro n r rs z5 d ⟨p,hn,c,nd,mem⟩ hle dis bd fk
    have rl:r.length <= S.pg.length:=by
      rw [TR.um T nd mem]
      exact Nat.le_trans (List.length_filter_le _ _) (by simp)
    have tot:rs.flatten.length + r.length < 90000:=by
      have:rs.length * S.pg.length <= R * S.pg.length:=Nat.mul_le_mul_right _ hle
      have e:(R + 1) * S.pg.length = R * S.pg.length + S.pg.length:=by rw [Nat.add_mul,Nat.one_mul]
      omega
    have l1:1 <= S.pg.length:=by have:=(List.getElem?_eq_some_iff.mp hn).1;omega
    have l2:R * 1 <= R * S.pg.length:=Nat.mul_le_mul_left _ l1
    have R9:R < 100000:=by
      have e:(R + 1) * S.pg.length = R * S.pg.length + S.pg.length:=by rw [Nat.add_mul,Nat.one_mul]
      omega
    refine ⟨?_,rl⟩
    have sr:=KZ (S:=S) (d:=w.length + 1) c (seen:=rs.flatten) (Qfr w rs) (fun m h z=>by
      obtain ⟨x,hx,hm⟩:=List.mem_flatten.mp z
      exact dis x hx m hm h) nd tot
    have ap:(((Wk w rs).set (w.length + 1) (.dic (mkD (rs.flatten ++ r))) ++ [.lst (nD r)])[w.length]?) = some (.lst (Xp (w.length + 2) rs.length)):=by
      rw [List.getElem?_append_left (by rw [List.length_set,GV];omega),List.getElem?_set_ne (by omega)];exact GC w rs
    refine (Qo (Qs (QO (j9 (var_at rfl) (var_at rfl) (var_at rfl)) rfl sr))).trans ((Qo (JI (jN (a:=w.length) (var_at rfl) ap (var_at rfl) (by rw [Jf];exact Nat.lt_of_le_of_lt hle R9)))).trans ?_)
    rw [QcW,GV]
    exact Qs (QO (ZH (var_at rfl) (var_at rfl)) rfl fk)
  intro n ls lf
  induction lf with
  | @leaf n p0 hn h0 hb =>
    intro p rs fuel z5 hp hl hf hrs bd
    rw [hn] at hp;cases hp
    obtain ⟨r,c,nd,mem⟩:=TR.Qbm T hn hb
    have row:Row S n r:=⟨p0,hn,c,nd,mem⟩
    obtain ⟨r',er⟩:=YY c
    have wr:(Wk w (rs ++ [r]))[w.length + 2 + rs.length]? = some (.lst (nD (n :: r'))):=by rw [<- er];exact vb (by rw [List.getElem?_append_right (Nat.le_refl _),Nat.sub_self];rfl)
    obtain ⟨d,fk⟩:=Vp (S:=S) wr hn
    obtain ⟨t1,_⟩:=turn n r rs z5 d row (by omega) (fun x hx m hm z=>by
      obtain ⟨q,q1,q2⟩:=hrs x hx m hm
      obtain ⟨q',q3,q4⟩:=(mem m).mp z
      rw [q1] at q3;cases q3;omega) bd fk
    have hf:1 < fuel:=hf
    obtain ⟨f,rfl⟩:∃ f,fuel = f + 2:=⟨fuel - 2,by omega⟩
    have t0:=test rs (.val (.int (n:Int))) z5
    rw [decide_eq_true (by omega)] at t0
    have t2:=test (rs ++ [r]) (.val d) (.val (.ref (w.length + 2 + rs.length)))
    rw [decide_eq_false (by rw [List.length_append];simp;omega)] at t2
    exact ⟨[r],.val d,_,.cons row .nil,(jE t0 t1).trans (Uf t2)⟩
  | @fork n c0 p0 ls hn h0 hb hk lf ih =>
    intro p rs fuel z5 hp hl hf hrs bd
    rw [hn] at hp;cases hp
    obtain ⟨r,c,nd,mem⟩:=TR.Qbm T hn hb
    have row:Row S n r:=⟨p0,hn,c,nd,mem⟩
    obtain ⟨r',er⟩:=YY c
    have wr:(Wk w (rs ++ [r]))[w.length + 2 + rs.length]? = some (.lst (nD (n :: r'))):=by rw [<- er];exact vb (by rw [List.getElem?_append_right (Nat.le_refl _),Nat.sub_self];rfl)
    obtain ⟨t1,rl⟩:=turn n r rs z5 (.int (c0:Int)) row (by omega) (fun x hx m hm z=>by
      obtain ⟨q,q1,q2⟩:=hrs x hx m hm
      obtain ⟨q',q3,q4⟩:=(mem m).mp z
      rw [q1] at q3;cases q3;omega) bd (Ur (S:=S) wr hn hk)
    have hf:ls.length + 1 < fuel:=hf
    obtain ⟨f,rfl⟩:∃ f,fuel = f + 1:=⟨fuel - 1,by omega⟩
    have t0:=test rs (.val (.int (n:Int))) z5
    rw [decide_eq_true (by omega)] at t0
    obtain ⟨cc,q,a1,a2,a3,a4⟩:=T.kid n p0 hn h0 0 _ hk
    have:c0 = cc:=by omega
    subst this
    obtain ⟨rs',z4',z5',h1,h2⟩:=ih q (rs ++ [r]) f (.val (.ref (w.length + 2 + rs.length))) a2 (by rw [List.length_append];simp;omega) (by omega) (fun x hx m hm=>by
      rcases List.mem_append.mp hx with h | h
      . obtain ⟨q',q1,q2⟩:=hrs x h m hm
        exact ⟨q',q1,by omega⟩
      . rw [List.mem_singleton.mp h] at hm
        obtain ⟨q',q3,q4⟩:=(mem m).mp hm
        exact ⟨q',q3,by omega⟩) (by rw [List.flatten_append,List.length_append,List.length_append,show ([r]:List (List Nat)).flatten = r by simp,show ([r]:List (List Nat)).length = 1 from rfl,Nat.add_mul,Nat.one_mul];omega)
    exact ⟨r :: rs',z4',z5',.cons row h1,(jE t0 t1).trans (by rw [h2,List.append_assoc];rfl)⟩
end
section
variable {S:TR.Sh} {bg:TR.Bg}
theorem JM (T:TR.Tree S bg) {rt:TR.Pg} (ht:S.pg[S.top]? = some rt) (hN:(rt.lv + 1) * S.pg.length < 80000) (w:Hs):∃ (ls:List Nat) (rs:List (List Nat)),TR.Lefts S bg S.top ls /\ ls.length = rt.lv + 1 /\ Rows S ls rs /\ QX [pgL S,.int (S.top:Int)] w = some (.ref w.length,Wk w rs):=by
  obtain ⟨ls,h1,h2⟩:=TR.K7 T rt.lv S.top rt rfl ht T.rbg
  have l1:1 <= S.pg.length:=by have:=(List.getElem?_eq_some_iff.mp ht).1;omega
  have l2:(rt.lv + 1) * 1 <= (rt.lv + 1) * S.pg.length:=Nat.mul_le_mul_left _ l1
  obtain ⟨rs,z4,z5,r1,r2⟩:=G7 T S.top ht rfl w hN h1 rt [] 100000 .un ht (by simp) (by omega) (fun r h=>by cases h) (by simp)
  refine ⟨ls,rs,h1,h2,r1,Q3 (env:=[.val (pgL S),.val (.int (S.top:Int)),.val (.ref w.length),.val (.ref (w.length + 1)),z4,z5]) ?_⟩
  have e0:Wk w [] = (w ++ [.lst []]) ++ [.dic []]:=by unfold Wk;rw [List.append_assoc];rfl
  have s3:Xl [.val (pgL S),.val (.int (S.top:Int)),.val (.ref w.length),.un,.un,.un] (w ++ [.lst []]) = some (.ref (w.length + 1),Wk w []):=by
    rw [e0]
    show some (DV.ref (w ++ [OV.lst []]).length,_) = _
    rw [List.length_append];rfl
  refine (Qo (env1:=[.val (pgL S),.val (.int (S.top:Int)),.val (.ref w.length),.un,.un,.un]) (hp1:=w ++ [.lst []]) (Qs rfl)).trans ((Qo (Qs s3)).trans ((Qo (Qs (var_at rfl))).trans ?_))
  exact (Qo (show qm _ _ = _ from r2)).trans (Q5 (var_at rfl))
theorem qg {hp:Hs} {n k:Nat} {r t a b:Int} (h1:hp[n]? = some (.ins "Shelf" (shF r k t a b))) (h2:hp[k]? = some (.lst (S.pg.map pgD))):Q1 [.ref n] hp = some (pgL S,hp):=by
  refine Q3 (env:=[.val (.ref n)]) (Q5 (JW (Zh (Qen (a:=n) (var_at rfl) h1 (Yu ..))) ?_))
  show ((Zi k >>= fun o=>(match o with | .lst ds=>pure ds | _=>failure:M (List DV))) >>= fun ds=>pure (DV.lst ds)) hp = _
  have:(Zi k >>= fun o=>(match o with | .lst ds=>pure ds | _=>failure:M (List DV))) hp = some (S.pg.map pgD,hp):=by
    rw [Qf (QY h2)];rfl
  rw [Qf this];rfl
theorem VU (T:TR.Tree S bg) {rt:TR.Pg} (ht:S.pg[S.top]? = some rt) (hN:(rt.lv + 1) * S.pg.length < 80000) {w:Hs} {n k:Nat} {r a b:Int} (h1:w[n]? = some (.ins "Shelf" (shF r k (S.top:Int) a b))) (h2:w[k]? = some (.lst (S.pg.map pgD))) :
    ∃ (ls:List Nat) (rs:List (List Nat)),TR.Lefts S bg S.top ls /\ ls.length = rt.lv + 1 /\ Rows S ls rs /\ Z1 [.ref n] w = some (.ref w.length,Wk w rs):=by
  obtain ⟨ls,rs,a1,a2,a3,a4⟩:=JM T ht hN w
  exact ⟨ls,rs,a1,a2,a3,Q3 (env:=[.val (.ref n)]) (Q5 (QO (ZH (Ja (a:=n) (var_at rfl) h1 rfl zB rfl (qg h1 h2)) (Ja (a:=n) (var_at rfl) h1 (XY ..) zB rfl (jt h1))) rfl a4))⟩
end
theorem kZ {b:DV -> DSx} (J:Nat -> En) (W:Nat -> Hs) (a:Nat) (ds:List DV) (hl:ds.length < 100000) (ha:∀ i,i <= ds.length -> (W i)[a]? = some (.lst ds)) (hs:∀ (i:Nat) d,ds[i]? = some d -> b d (J i) (W i) = some ((.nx,J (i + 1)),W (i + 1))):zS (nxW a) b 100000 0 (J 0) (W 0) = some ((.nx,J ds.length),W ds.length):=by
  have:=xT (b:=b) (env:=J 0) (hp:=W 0) (nxt:=nxW a) (Q:=fun r h=>r = (.nx,J ds.length) /\ h = W ds.length) ds (fun i env h=>i <= ds.length /\ env = J i /\ h = W i) hl (fun i env h hi ⟨_,e1,e2⟩=>by
    subst e2
    exact UG (ha i hi) i) ⟨Nat.zero_le _,rfl,rfl⟩ (fun i d hd env h ⟨_,e1,e2⟩=>by
    subst e1 e2
    exact WP.of (hs i d hd) ⟨(List.getElem?_eq_some_iff.mp hd).1,rfl,rfl⟩) (fun env h ⟨_,e1,e2⟩=>⟨by rw [e1],e2⟩)
  obtain ⟨r,h,e,rfl,rfl⟩:=this
  exact e
def QbH (w:Hs) (d:DV) (ds:List DV):Prop:=d = .lst ds ∨ ∃ n,d = .ref n /\ w[n]? = some (.lst ds)
theorem kQ {f:DEx} {g:DGx} {body:DSx} {env:En} {hp:Hs} {d:DV} {ds:List DV} (J:Nat -> En) (W:Nat -> Hs) (hf:f env hp = some (d,hp)) (hx:QbH hp d ds) (hl:ds.length < 100000) (h0:J 0 = env) (w0:W 0 = hp) (keep:∀ (i n:Nat),i <= ds.length -> hp[n]? = some (OV.lst ds) -> (W i)[n]? = some (OV.lst ds))
    (hs:∀ (i:Nat) d,ds[i]? = some d -> (do let env' <- g d (J i);body env':M (Fl × En)) (W i) = some ((.nx,J (i + 1)),W (i + 1))):YO (xLs f) g body env hp = some ((.nx,J ds.length),W ds.length):=by
  subst h0 w0
  rcases hx with rfl | ⟨n,rfl,hn⟩
  . exact YZ (XM hf) (ju J W ds hl hs)
  . have x:xLs f (J 0) (W 0) = some (nxW n,W 0):=by
      unfold xLs
      rw [Qf hf]
      show (Zi n >>= _) (W 0) = _
      rw [Qf (QY hn)];rfl
    unfold YO
    rw [Qf x]
    exact kZ J W n ds hl (fun i hi=>keep i n hi hn) hs
section
variable {S:TR.Sh} {bg:TR.Bg}
theorem V1 {n:Nat} {r:List Nat} (c:TR.Chain S n r):∀ {i m:Nat},r[i]? = some m -> ∃ p,S.pg[m]? = some p /\ p.sd = r[i + 1]?:=by
  induction c with
  | @last n p hn hs =>
    intro i m h
    cases i with
    | zero=>cases h;exact ⟨p,hn,hs⟩
    | succ i=>simp at h
  | @next n p s r hn hs c ih =>
    intro i m h
    cases i with
    | zero =>
      cases h
      obtain ⟨r',e⟩:=YY c
      exact ⟨p,hn,by rw [hs,e];rfl⟩
    | succ i=>exact ih h
def bgK (bg:TR.Bg) (r:List Nat):List (Key × DV):=r.map fun m:Nat=>(.inl (m:Int),opt (bg m))
theorem QbL {r:List Nat} {k:Nat} (h:k ∉ r):Yl (bgK bg r) (.inl (k:Int)) (opt (bg k)) = bgK bg (r ++ [k]):=by
  unfold Yl
  rw [if_neg (fun z=>?_)]
  . unfold bgK;rw [List.map_append];rfl
  . rw [List.any_eq_true] at z
    obtain ⟨kv,m,e⟩:=z
    obtain ⟨x,hx,rfl⟩:=List.mem_map.mp m
    have e:=of_decide_eq_true e
    have:x = k:=by injection e with e;omega
    exact h (this ▸ hx)
theorem xL (k:Nat):∀ {r:List Nat},k ∈ r -> XC (bgK bg r) (.inl (k:Int)) = some (opt (bg k))
  | x :: xs,h=>by
    unfold XC
    show Option.map _ (List.find? _ ((Sum.inl (x:Int),opt (bg x)) :: bgK bg xs)) = _
    rw [List.find?_cons]
    by_cases e:x = k
    . subst e;simp
    . have n1:¬ (Sum.inl (x:Int):Key) = Sum.inl (k:Int):=fun z=>e (by injection z with z;omega)
      rw [decide_eq_false n1]
      rcases List.mem_cons.mp h with z | z
      . exact absurd z.symm e
      . exact xL k z
def XV (bg:TR.Bg) (r:List Nat) (i:Nat):DV:=match r[i]? with
  | some m=>opt (bg m)
  | none=>.non
theorem vU {e f g:DEx} {env:En} {hp:Hs} {d:Nat} {x:DV} {k:Int} {kvs:List (Key × DV)} (he:e env hp = some (x,hp)) (hf:f env hp = some (.ref d,hp)) (hd:hp[d]? = some (.dic kvs)) (hg:g env hp = some (.int k,hp)) (hl:kvs.length < 100000):zp e (gSb f g) env hp = some ((.nx,env),hp.set d (.dic (Yl kvs (.inl k) x))):=by
  unfold zp
  rw [Qf he]
  have:gSb f g x env hp = some (env,hp.set d (.dic (Yl kvs (.inl k) x))):=by
    unfold gSb
    rw [Qf hf,Qf hg]
    have q:yK (.ref d) (.int k) x hp = some ((),hp.set d (.dic (Yl kvs (.inl k) x))):=by
      show (Zi d >>= _) hp = _
      rw [Qf (QY hd)]
      show (QA (decide (kvs.length < lim)) >>= fun _=>jX d (.dic (Yl kvs (.inl k) x))) hp = _
      rw [show decide (kvs.length < lim) = true from decide_eq_true hl];rfl
    rw [Qf q];rfl
  rw [Qf this];rfl
theorem VE {r:List Nat} (hc:∀ {i m:Nat},r[i]? = some m -> ∃ p,S.pg[m]? = some p /\ XV bg r (i + 1) = opt p.hi) (h0:XV bg r 0 = .non) (hnd:r.Nodup) (hl:r.length < 90000) {w:Hs} {d:DV} (hx:QbH w d (nD r)):Xf [pgL S,d] w = some (.ref w.length,w ++ [.dic (bgK bg r)]):=by
  let J:Nat -> En:=fun i=>[.val (pgL S),.val d,.val (.ref w.length),.val (XV bg r i),match i with | 0=>.un | j + 1=>.val (match r[j]? with | some m=>.int (m:Int) | none=>.non)]
  let W:Nat -> Hs:=fun i=>w ++ [.dic (bgK bg (r.take i))]
  have old:∀ (i n:Nat) (ds:List DV),w[n]? = some (OV.lst ds) -> (W i)[n]? = some (OV.lst ds):=fun i n ds h=>by
    show (w ++ _)[n]? = _
    rw [List.getElem?_append_left (List.getElem?_eq_some_iff.mp h).1];exact h
  have hx':QbH (W 0) d (nD r):=by
    rcases hx with h | ⟨n,h,hn⟩
    . exact .inl h
    . exact .inr ⟨n,h,old 0 n _ hn⟩
  have loop:zL (J 0) (W 0) = some ((.nx,J (nD r).length),W (nD r).length):=by
    refine kQ J W (var_at rfl:Qc 1 (J 0) (W 0) = some (d,W 0)) hx' (by rw [Je];omega) rfl rfl (fun i n hi hn=>?_) (fun i x hxi=>?_)
    . by_cases e:n = w.length
      . subst e
        have:(W 0)[w.length]? = some (.dic (bgK bg (r.take 0))):=by show (w ++ _)[w.length]? = _;rw [List.getElem?_append_right (Nat.le_refl _),Nat.sub_self];rfl
        rw [this] at hn;cases hn
      . have nl:n < w.length:=by
          have:=(List.getElem?_eq_some_iff.mp hn).1
          have e2:(W 0).length = w.length + 1:=by simp [W]
          omega
        refine old i n _ ?_
        have:(W 0)[n]? = w[n]?:=List.getElem?_append_left nl
        rw [<- this];exact hn
    . have il:i < r.length:=by have:=(List.getElem?_eq_some_iff.mp hxi).1;rw [Je] at this;exact this
      have hm:r[i]? = some r[i]:=List.getElem?_eq_getElem il
      rw [jV hm] at hxi
      cases hxi
      obtain ⟨p,p1,p2⟩:=hc hm
      have bi:XV bg r i = opt (bg r[i]):=by unfold XV;rw [hm]
      have wd:(W i)[w.length]? = some (.dic (bgK bg (r.take i))):=by show (w ++ _)[w.length]? = _;rw [List.getElem?_append_right (Nat.le_refl _),Nat.sub_self];rfl
      let e:En:=[.val (pgL S),.val d,.val (.ref w.length),.val (XV bg r i),.val (.int (r[i]:Int))]
      show zD e (W i) = _
      have nin:r[i] ∉ r.take i:=fun z=>by
        obtain ⟨j,hj,ej⟩:=List.mem_iff_getElem.mp z
        rw [List.length_take] at hj
        rw [List.getElem_take] at ej
        exact (List.pairwise_iff_getElem.mp hnd j i (by omega) il (by omega)) ej
      have st:(W i).set w.length (.dic (Yl (bgK bg (r.take i)) (.inl (r[i]:Int)) (XV bg r i))) = W (i + 1):=by
        rw [bi,QbL nin]
        show (w ++ _).set w.length _ = w ++ _
        rw [List.set_append_right _ _ (Nat.le_refl _),Nat.sub_self,List.take_succ_eq_append_getElem il];rfl
      refine (Qo (vU (d:=w.length) (k:=(r[i]:Int)) (var_at rfl) (var_at rfl) wd (var_at rfl) (by unfold bgK;rw [List.length_map,List.length_take];omega))).trans ?_
      rw [st]
      refine (Qs (Q6 (i:=3) (d:=opt p.hi) (ds:=[.int p.lv,.tup (p.ks.map .int),.tup (p.ps.map .int),opt p.hi,oN p.sd]) (J4 (i:=r[i]) (ds:=S.pg.map pgD) (d:=pgD p) (var_at rfl) (var_at rfl) (Xu p1)) rfl rfl)).trans ?_
      show some ((Fl.nx,[_,_,_,Sl.val (opt p.hi),_]),_) = some ((Fl.nx,[_,_,_,Sl.val (XV bg r (i + 1)),Sl.val (match r[i]? with | some m=>DV.int (m:Int) | none=>DV.non)]),_)
      rw [p2,hm]
  rw [Je] at loop
  have we:W r.length = w ++ [.dic (bgK bg r)]:=by show w ++ _ = _;rw [List.take_length]
  rw [we] at loop
  refine Q3 (env:=J r.length) ?_
  refine (Qo (env1:=[.val (pgL S),.val d,.val (.ref w.length),.un,.un]) (hp1:=w ++ [.dic []]) (Qs rfl)).trans ((Qo (env1:=J 0) (hp1:=W 0) ?_).trans ((Qo loop).trans (Q5 (var_at rfl))))
  show some ((Fl.nx,[_,_,_,Sl.val DV.non,_]),_) = some ((Fl.nx,[_,_,_,Sl.val (XV bg r 0),_]),_)
  rw [h0];rfl
end
theorem ga {f g:DEx} {env:En} {hp:Hs} {ds es:List DV} (hf:f env hp = some (.tup ds,hp)) (hg:g env hp = some (.tup es,hp)):Qab f g env hp = some (Yw ds es,hp):=by
  unfold Qab
  rw [Qf hf,Qf (rfl:kI (.tup ds) hp = some (ds,hp)),Qf hg];rfl
theorem Qar {f g:DEx} {env:En} {hp:Hs} {ds:List DV} {a:Nat} (hf:f env hp = some (.tup ds,hp)) (hg:g env hp = some (.int (a:Int),hp)):eSl f (Zz g) Xr env hp = some (.tup (ds.drop a),hp):=by
  unfold eSl Zz Xr
  rw [Qf hf]
  have e1:(do let i <- asI (<- g env);pure (some i):M (Option Int)) hp = some (some (a:Int),hp):=by rw [Qf hg];rfl
  rw [Qf e1,Qf (rfl:(pure none:M (Option Int)) hp = some (none,hp)),<- y0 ds a];rfl
theorem GJ {f:DEx} {env:En} {hp:Hs} {ds:List DV} (hf:f env hp = some (.tup ds,hp)):iTp f env hp = some (ds,hp):=by
  unfold iTp;rw [Qf hf];rfl
theorem xN {f g:DEx} {env:En} {b:Bool} {hp hp1:Hs} (h:f env hp = some (.bl b,hp1)):jm f g env hp = if b = true then some (.bl true,hp1) else g env hp1:=by
  unfold jm
  rw [Qf h]
  cases b <;> rfl
theorem K0:∀ ds:List DV,blM (ds.map fun _=>.bl true) = some (ds.map fun _=>true)
  | []=>rfl
  | _ :: ds=>by
    show (blM (ds.map fun _=>.bl true)).map (true :: ·) = _
    rw [K0 ds];rfl
theorem vt {c:DEx} {env:En} {hp:Hs} {ds:List DV} (h:c env hp = some (.lst (ds.map fun _=>.bl true),hp)):QU vA (Qb c Qk) env hp = some (.bl true,hp):=by
  refine JW (Zh h) ?_
  show (opM (blM (ds.map fun _=>.bl true)) >>= fun bs=>pure (DV.bl (bs.all id))) hp = _
  rw [K0,Qf (rfl:opM (some (ds.map fun _=>true)) hp = some (ds.map fun _=>true,hp))]
  show some (DV.bl ((ds.map fun _=>true).all id),hp) = _
  congr 3
  rw [List.all_eq_true]
  intro x hx
  obtain ⟨_,_,rfl⟩:=List.mem_map.mp hx
  rfl
section
theorem GS {room:Nat} {b:Option Int} {p:TR.Pg} (ok:TR.zO room b p) (hr:room <= 100) (hp:Hs):Xv [pgD p,opt b] hp = some (.bl true,hp):=by
  have few:=ok.few
  let e:En:=[.val (pgD p),.val (opt b),.val (.tup (p.ks.map .int)),.val (opt p.hi)]
  have kl:(p.ks.map DV.int).length < 100000:=by rw [List.length_map];omega
  have keyE:∀ x ∈ p.ks.map DV.int,∃ k ∈ p.ks,x = .int k:=fun x hx=>by obtain ⟨k,h,rfl⟩:=List.mem_map.mp hx;exact ⟨k,h,rfl⟩
  have c3:qS e hp = some (.lst ((Yw (p.ks.map .int) ((p.ks.map .int).drop 1)).map fun _=>.bl true),hp):=by
    refine zf (nw:=false) (m:=fun _=>.bl true) (vI (ga (var_at rfl) (Qar (a:=1) (var_at rfl) rfl))) (fun _ _=>rfl) (fun x hx=>?_) (by rw [jr];omega)
    obtain ⟨i,hi⟩:=List.mem_iff_getElem?.mp hx
    obtain ⟨u,v,h1,h2,rfl⟩:=jH hi
    rw [List.getElem?_drop] at h2
    rw [List.getElem?_map] at h1 h2
    obtain ⟨k1,g1,rfl⟩:=Option.map_eq_some_iff.mp h1
    obtain ⟨k2,g2,rfl⟩:=Option.map_eq_some_iff.mp h2
    have lt:=TR.GE ok.sorted g1 g2 (by omega)
    refine (Qu (x:=.int k1) (y:=.int k2) (Q6 (i:=0) (ds:=[.int k1,.int k2]) (var_at rfl) rfl rfl) (Q6 (i:=1) (ds:=[.int k1,.int k2]) (var_at rfl) rfl rfl) rfl).trans ?_
    show some (DV.bl (decide (k1 < k2)),hp) = _
    rw [decide_eq_true lt]
  have c2:∀ v,b = some v -> X6 e hp = some (.lst ((p.ks.map DV.int).map fun _=>.bl true),hp):=fun v hv=>by
    refine zf (nw:=false) (m:=fun _=>.bl true) (vI (GJ (var_at rfl))) (fun _ _=>rfl) (fun x hx=>?_) kl
    obtain ⟨k,h,rfl⟩:=keyE x hx
    have:=ok.low k h v hv
    refine (Qu (x:=.int v) (y:=.int k) (by show some (opt b,hp) = _;rw [hv];rfl) (var_at rfl) rfl).trans ?_
    show some (DV.bl (decide (v <= k)),hp) = _
    rw [decide_eq_true this]
  have c1:∀ v,p.hi = some v -> XQ e hp = some (.lst ((p.ks.map DV.int).map fun _=>.bl true),hp):=fun v hv=>by
    refine zf (nw:=false) (m:=fun _=>.bl true) (vI (GJ (var_at rfl))) (fun _ _=>rfl) (fun x hx=>?_) kl
    obtain ⟨k,h,rfl⟩:=keyE x hx
    have:=ok.high k h v hv
    refine (Qu (x:=.int k) (y:=.int v) (var_at rfl) (by show some (opt p.hi,hp) = _;rw [hv];rfl) rfl).trans ?_
    show some (DV.bl (decide (k < v)),hp) = _
    rw [decide_eq_true this]
  refine Q3 (env:=e) ?_
  refine (Qo (Qs (Q6 (i:=1) (ds:=[.int p.lv,.tup (p.ks.map .int),.tup (p.ps.map .int),opt p.hi,oN p.sd]) (var_at rfl) rfl rfl))).trans ((Qo (env1:=e) (Qs (Q6 (i:=3) (ds:=[.int p.lv,.tup (p.ks.map .int),.tup (p.ps.map .int),opt p.hi,oN p.sd]) (var_at rfl) rfl rfl))).trans ?_)
  refine (Qo ((JO (Z6 (Zg (vt c3)))).trans JQ)).trans ?_
  have i2:sIf (Xw (eB (Qh yi (Qc 1) (eC .non))) (XD (eB (QU vA (Qb X6 Qk))))) (Q9 (eC (.bl false))) ZJ e hp = some ((.nx,e),hp):=by
    refine (JO ?_).trans JQ
    cases hb:b with
    | none=>exact GT (Zg (Qu (x:=.non) (by show some (opt b,hp) = _;rw [hb];rfl) rfl rfl))
    | some v=>exact (Up (Zg (Qu (x:=.int v) (by show some (opt b,hp) = _;rw [hb];rfl) rfl rfl))).trans (Z6 (Zg (vt (c2 v hb))))
  have i1:sIf (Xw (eB (Qh yi (Qc 3) (eC .non))) (XD (eB (QU vA (Qb XQ Qk))))) (Q9 (eC (.bl false))) ZJ e hp = some ((.nx,e),hp):=by
    refine (JO ?_).trans JQ
    cases hb:p.hi with
    | none=>exact GT (Zg (Qu (x:=.non) (by show some (opt p.hi,hp) = _;rw [hb];rfl) rfl rfl))
    | some v=>exact (Up (Zg (Qu (x:=.int v) (by show some (opt p.hi,hp) = _;rw [hb];rfl) rfl rfl))).trans (Z6 (Zg (vt (c1 v hb))))
  refine (Qo i2).trans ((Qo i1).trans (Q5 ?_))
  cases hb:b with
  | none=>exact xN (b:=true) (Qu (x:=.non) (by show some (opt b,hp) = _;rw [hb];rfl) rfl rfl)
  | some v =>
    refine (xN (b:=false) (Qu (x:=.int v) (by show some (opt b,hp) = _;rw [hb];rfl) rfl rfl)).trans ?_
    cases hh:p.hi with
    | none=>exact xN (b:=true) (Qu (x:=.non) (by show some (opt p.hi,hp) = _;rw [hh];rfl) rfl rfl)
    | some u =>
      refine (xN (b:=false) (Qu (x:=.int u) (by show some (opt p.hi,hp) = _;rw [hh];rfl) rfl rfl)).trans ?_
      have:=ok.wide u hh v hb
      refine (Qu (x:=.int v) (y:=.int u) (by show some (opt b,hp) = _;rw [hb];rfl) (by show some (opt p.hi,hp) = _;rw [hh];rfl) rfl).trans ?_
      show some (DV.bl (decide (v < u)),hp) = _
      rw [decide_eq_true this]
end
theorem QbB (o:Option Nat):oN o = opt (o.map fun n:Nat=>(n:Int)):=by cases o <;> rfl
section
variable {S:TR.Sh} {bg:TR.Bg}
theorem gS {room:Nat} {b:Option Int} {p:TR.Pg} (ok:TR.zO room b p) (hp:Hs):JK [pgD p] hp = some (.int p.ps.length,hp):=by
  let e:En:=[.val (pgD p)]
  have lvE:Qh ixG (Qc 0) (eC (.int 0)) e hp = some (.int p.lv,hp):=Q6 (i:=0) (ds:=[.int p.lv,.tup (p.ks.map .int),.tup (p.ps.map .int),opt p.hi,oN p.sd]) (var_at rfl) rfl rfl
  have lk:QU Zd (Qb (Qh ixG (Qc 0) (eC (.int 1))) Qk) e hp = some (.int p.ks.length,hp):=(JW (Zh (Q6 (i:=1) (ds:=[.int p.lv,.tup (p.ks.map .int),.tup (p.ps.map .int),opt p.hi,oN p.sd]) (var_at rfl) rfl rfl)) (jp _ hp)).trans (by rw [List.length_map])
  have pl:=ok.parts
  refine Q3 (env:=e) (Q5 ?_)
  by_cases z:p.lv = 0
  . rw [if_pos z,Nat.add_zero] at pl
    refine (Kg (hp1:=hp) (Zg (b:=true) ?_)).trans ?_
    . exact (GO lvE rfl).trans (by rw [z];rfl)
    . exact lk.trans (by rw [pl])
  . rw [if_neg z] at pl
    refine (Gp (hp1:=hp) (Zg (b:=false) ?_)).trans ?_
    . refine (GO lvE rfl).trans ?_
      congr 2
      simp;omega
    . refine (xR lk rfl).trans ?_
      rw [pl];rfl
theorem yQ {room:Nat} {b:Option Int} {p:TR.Pg} (ok:TR.zO room b p) (hk:(p.hi = none /\ p.sd = none) ∨ ∃ (x:Int) (s:Nat),p.hi = some x /\ p.sd = some s) (hr:room <= 100) (w:Hs) (m:Int):ZO [.int m,pgD p,.int p.lv,opt b,oN p.sd] w = some (.ref w.length,w ++ [.lst []]):=by
  let e:En:=[.val (.int m),.val (pgD p),.val (.int p.lv),.val (opt b),.val (oN p.sd),.val (.ref w.length)]
  let v:=w ++ [OV.lst []]
  have x0:Qh ixG (Qc 1) (eC (.int 0)) e v = some (.int p.lv,v):=Q6 (i:=0) (ds:=[.int p.lv,.tup (p.ks.map .int),.tup (p.ps.map .int),opt p.hi,oN p.sd]) (var_at rfl) rfl rfl
  have x2:QU Zd (Qb (Qh ixG (Qc 1) (eC (.int 2))) Qk) e v = some (.int p.ps.length,v):=(JW (Zh (Q6 (i:=2) (ds:=[.int p.lv,.tup (p.ks.map .int),.tup (p.ps.map .int),opt p.hi,oN p.sd]) (var_at rfl) rfl rfl)) (jp _ v)).trans (by rw [List.length_map])
  have x3:Qh ixG (Qc 1) (eC (.int 3)) e v = some (opt p.hi,v):=Q6 (i:=3) (ds:=[.int p.lv,.tup (p.ks.map .int),.tup (p.ps.map .int),opt p.hi,oN p.sd]) (var_at rfl) rfl rfl
  have x4:Qh ixG (Qc 1) (eC (.int 4)) e v = some (oN p.sd,v):=Q6 (i:=4) (ds:=[.int p.lv,.tup (p.ks.map .int),.tup (p.ps.map .int),opt p.hi,oN p.sd]) (var_at rfl) rfl rfl
  refine Q3 (env:=e) ?_
  refine (Qo (env1:=e) (hp1:=v) (Qs rfl)).trans ?_
  refine (Qo ((JO (Zg (Qu x0 (var_at rfl) (QeS _ _)))).trans JQ)).trans ?_
  refine (Qo ((JO (Z6 (Zg (QO (ZH (var_at rfl) (var_at rfl)) rfl (GS ok hr v))))).trans JQ)).trans ?_
  refine (Qo ((JO (Zg (Qu x2 (QO (Zh (var_at rfl)) rfl (gS ok v)) (QeS _ _)))).trans JQ)).trans ?_
  refine (Qo ((JO ?_).trans JQ)).trans (Q5 (var_at rfl))
  have b1:Qh neG (Qh isD (Qh ixG (Qc 1) (eC (.int 3))) (eC .non)) (Qh isD (Qh ixG (Qc 1) (eC (.int 4))) (eC .non)) e v = some (.bl false,v):=by
    rcases hk with ⟨h1,h2⟩ | ⟨x,s,h1,h2⟩
    . exact Qu (x:=.bl true) (y:=.bl true) (Qu (x:=.non) (by rw [x3,h1];rfl) rfl rfl) (Qu (x:=.non) (by rw [x4,h2];rfl) rfl rfl) (Qfc _ _)
    . exact Qu (x:=.bl false) (y:=.bl false) (Qu (x:=.int x) (by rw [x3,h1];rfl) rfl rfl) (Qu (x:=.int s) (by rw [x4,h2];rfl) rfl rfl) (Qfc _ _)
  refine (zH (Zg b1)).trans (Zg ?_)
  rw [QbB] at x4
  refine (Qu x4 (y:=opt (p.sd.map fun n:Nat=>(n:Int))) (by show some (oN p.sd,v) = _;rw [QbB]) (neO _ _ _)).trans ?_
  simp
  rfl
theorem Vk {b:Option Int} {p:TR.Pg} {r:List Nat} {kd:Nat} {w:Hs} (hk:w[kd]? = some (.dic (bgK bg r))) (hps:p.ps.length = p.ks.length + 1) (hl:p.ks.length <= 100) (hc:∀ (j:Nat) (x:Int),p.ps[j]? = some x -> ∃ c:Nat,x = (c:Int) /\ c ∈ r /\ bg c = TR.jx b p.ks j) (m:Int):JF [.int m,pgD p,opt b,.ref kd] w = some (.ref w.length,w ++ [.lst []]):=by
  let v:=w ++ [OV.lst []]
  have kl:kd < w.length:=(List.getElem?_eq_some_iff.mp hk).1
  have hk':v[kd]? = some (.dic (bgK bg r)):=by show (w ++ _)[kd]? = _;rw [List.getElem?_append_left kl];exact hk
  let wt:List DV:=opt b :: p.ks.map .int
  let J:Nat -> En:=fun i=>[.val (.int m),.val (pgD p),.val (opt b),.val (.ref kd),.val (.tup (p.ps.map .int)),.val (.tup wt),.val (.ref w.length),match i with | 0=>.un | j + 1=>.val (.int (j:Int)),match i with | 0=>.un | j + 1=>.val (match p.ps[j]? with | some x=>.int x | none=>.non)]
  have body:=vW (b:=fun d env=>do let env' <- gN 7 d env;XZ env') J v (QN 0 p.ps.length) (fun i d hd=>by
    obtain ⟨hi,ed⟩:=ur hd
    subst ed
    have hx:p.ps[i]? = some p.ps[i]:=List.getElem?_eq_getElem hi
    obtain ⟨c,ec,cr,cb⟩:=hc i _ hx
    let z8:Sl:=match i with | 0=>.un | j + 1=>.val (match p.ps[j]? with | some x=>.int x | none=>.non)
    let e7:En:=[.val (.int m),.val (pgD p),.val (opt b),.val (.ref kd),.val (.tup (p.ps.map .int)),.val (.tup wt),.val (.ref w.length),.val (.int (i:Int)),z8]
    let e8:En:=[.val (.int m),.val (pgD p),.val (opt b),.val (.ref kd),.val (.tup (p.ps.map .int)),.val (.tup wt),.val (.ref w.length),.val (.int (i:Int)),.val (.int (c:Int))]
    have je:J (i + 1) = e8:=by
      show [_,_,_,_,_,_,_,_,Sl.val (match p.ps[i]? with | some x=>DV.int x | none=>DV.non)] = _
      rw [hx,ec]
    rw [je]
    show XZ e7 v = _
    refine (Qo (env1:=e8) (hp1:=v) (Qs (Q6 (i:=i) (ds:=p.ps.map .int) (var_at rfl) (var_at rfl) (by rw [List.getElem?_map,hx,ec];rfl)))).trans ((JO ?_).trans JQ)
    have ge:Qh geD (Qc 7) (QU Zd (Qb (Qc 5) Qk)) e8 v = some (.bl false,v):=by
      refine (Qu (x:=.int (i:Int)) (y:=.int (wt.length:Int)) (var_at rfl) (JW (Zh (var_at rfl)) (jp _ v)) rfl).trans ?_
      show some (DV.bl (decide ((wt.length:Int) <= (i:Int))),v) = _
      rw [decide_eq_false (by show ¬ (((opt b :: p.ks.map DV.int).length:Int) <= (i:Int));rw [List.length_cons,List.length_map];omega)]
    have wi:wt[i]? = some (opt (TR.jx b p.ks i)):=by
      cases i with
      | zero=>rfl
      | succ i =>
        show (p.ks.map DV.int)[i]? = some (opt p.ks[i]?)
        rw [List.getElem?_map,List.getElem?_eq_getElem (by omega)];rfl
    refine (zH (Zg ge)).trans ((zH (Zg (Qu (x:=.int (c:Int)) (y:=.ref kd) (var_at rfl) (var_at rfl) (uN hk' (xL c cr))))).trans (Zg ?_))
    refine (Qu (x:=opt (bg c)) (y:=opt (bg c)) (Qu (x:=.ref kd) (y:=.int (c:Int)) (var_at rfl) (var_at rfl) (Qap hk' (xL c cr))) (Q6 (i:=i) (ds:=wt) (var_at rfl) (var_at rfl) (by rw [wi,cb])) (neO _ _ _)).trans ?_
    simp)
  rw [Jo] at body
  refine Q3 (env:=J p.ps.length) ?_
  let q0:En:=[.val (.int m),.val (pgD p),.val (opt b),.val (.ref kd),.val (.tup (p.ps.map .int)),.un,.un,.un,.un]
  refine (Qo (env1:=q0) (hp1:=w) (Qs (Q6 (i:=2) (ds:=[.int p.lv,.tup (p.ks.map .int),.tup (p.ps.map .int),opt p.hi,oN p.sd]) (var_at rfl) rfl rfl))).trans ?_
  have s5:Qh Zb (JD (Qb (Qc 2) Qk)) (Qh ixG (Qc 1) (eC (.int 1))) q0 w = some (.tup wt,w):=by
    refine Qu (x:=.tup [opt b]) (y:=.tup (p.ks.map .int)) (x9 (Zh (var_at rfl)) (Nat.le_of_ble_eq_true rfl)) (Q6 (i:=1) (ds:=[.int p.lv,.tup (p.ks.map .int),.tup (p.ps.map .int),opt p.hi,oN p.sd]) (var_at rfl) rfl rfl) ?_
    show (QA (Xs ([opt b] ++ p.ks.map DV.int)) >>= fun _=>pure (.tup ([opt b] ++ p.ks.map DV.int)):M DV) w = _
    rw [j2 (by rw [List.length_append,List.length_map];simp;omega)];rfl
  refine (Qo (Qs s5)).trans ((Qo (env1:=J 0) (hp1:=v) (Qs rfl)).trans ((Qo (J7 (ds:=QN 0 p.ps.length) (xM (m:=p.ps.length) (Zh ?_) (by omega)) body)).trans (Q5 (var_at rfl))))
  exact (JW (Zh (var_at rfl)) (jp (p.ps.map .int) v)).trans (by rw [List.length_map])
end
section
variable {S:TR.Sh} {bg:TR.Bg}
theorem Kw (T:TR.Tree S bg) {n:Nat} {r:List Nat} (h:Row S n r) (hb:bg n = none):(∀ {i m:Nat},r[i]? = some m -> ∃ p,S.pg[m]? = some p /\ XV bg r (i + 1) = opt p.hi) /\ XV bg r 0 = .non:=by
  obtain ⟨p0,hn,c,nd,mem⟩:=h
  refine ⟨fun {i m} hm=>?_,?_⟩
  . obtain ⟨p,h1,h2⟩:=V1 c hm
    refine ⟨p,h1,?_⟩
    unfold XV
    rcases T.link m p h1 with ⟨a1,a2⟩ | ⟨x,s,q,a1,a2,a3,a4,a5⟩
    . rw [<- h2,a2,a1];rfl
    . rw [<- h2,a2,a1]
      show opt (bg s) = _
      rw [a5]
  . obtain ⟨r',e⟩:=YY c
    unfold XV
    rw [e]
    show opt (bg n) = _
    rw [hb];rfl
theorem jA {w v:Hs} {env:En} {o:DEx} {fa:DAx} {a x:Nat} (ho:o env w = some (.ref a,w)) (ha:w[a]? = some (.lst [])) (hf:fa env w = some ([.ref x],v)) (ha':v[a]? = some (.lst [])) (hx:v[x]? = some (.lst [])):Zu (JC "list" Jl o fa) env w = some ((.nx,env),v):=by
  have:=zV ho ha hf ha' hx (by simp)
  rw [show ([]:List DV) ++ [] = [] from rfl,uP ha'] at this
  exact JI this
theorem Qr {w t:Hs} {i:Nat} {x:OV} (h:w[i]? = some x):(w ++ t)[i]? = some x:=by rw [List.getElem?_append_left (List.getElem?_eq_some_iff.mp h).1];exact h
theorem Jm (w:Hs) (x:OV):(w ++ [x])[w.length]? = some x:=by rw [List.getElem?_append_right (Nat.le_refl _),Nat.sub_self];rfl
theorem qZ (T:TR.Tree S bg) (hr:S.room <= 100) {n:Nat} {r rb:List Nat} (row:Row S n r) (hb:bg n = none) {lv:Nat} (hlv:∀ p,S.pg[n]? = some p -> p.lv = lv) (hlen:r.length < 80000) (hbl:rb.length < 80000) (hbn:rb.Nodup)
    (hbe:(∀ {i m:Nat},rb[i]? = some m -> ∃ p,S.pg[m]? = some p /\ XV bg rb (i + 1) = opt p.hi) /\ XV bg rb 0 = .non) (hkid:0 < lv -> ∀ c q,S.pg[c]? = some q -> q.lv + 1 = lv -> c ∈ rb) {w:Hs} {a:Nat} {dB:DV} (ha:w[a]? = some (.lst (nD r))) (hB:QbH w dB (nD rb)) :
    ∃ (t:Hs) (x:Nat),J8 [pgL S,.ref a,.int (lv:Int),dB] w = some (.ref x,w ++ t) /\ (w ++ t)[x]? = some (.lst []):=by
  have row':=row
  obtain ⟨p0,hn,c,nd,mem⟩:=row
  have l0:=hlv p0 hn
  obtain ⟨be1,be0⟩:=Kw T row' hb
  let w1:=w ++ [OV.dic (bgK bg r)]
  let w2:=w1 ++ [OV.dic (bgK bg rb)]
  let w3:=w2 ++ [OV.lst []]
  have L1:w1.length = w.length + 1:=by simp [w1]
  have L2:w2.length = w.length + 2:=by simp [w2,w1]
  have d1:w3[w.length]? = some (.dic (bgK bg r)):=Qr (Qr (Jm w _))
  have d2:w3[w.length + 1]? = some (.dic (bgK bg rb)):=by have:=Jm w1 (OV.dic (bgK bg rb));rw [L1] at this;exact Qr this
  have d3:w3[w.length + 2]? = some (.lst []):=by have:=Jm w2 (OV.lst []);rw [L2] at this;exact this
  have a3:w3[a]? = some (.lst (nD r)):=Qr (Qr (Qr ha))
  have hB1:QbH w1 dB (nD rb):=by
    rcases hB with h | ⟨k,h1,h2⟩
    . exact .inl h
    . exact .inr ⟨k,h1,Qr h2⟩
  let E:Sl -> Sl -> Sl -> Sl -> En:=fun z7 z8 z9 z10=>[.val (pgL S),.val (.ref a),.val (.int (lv:Int)),.val dB,.val (.ref w.length),.val (.ref (w.length + 1)),.val (.ref (w.length + 2)),z7,z8,z9,z10]
  obtain ⟨env',hp',e4,t4,y7,y8,y9,y10,rfl,rfl⟩:=xo (b:=fun d env=>do let env' <- gN 7 d env;Jn env') (fun _ env hp=>∃ (t:Hs) (z7 z8 z9 z10:Sl),env = E z7 z8 z9 z10 /\ hp = w3 ++ t) r.length (E .un .un .un .un) w3 ⟨[],.un,.un,.un,.un,rfl,by simp⟩ (fun i hi env hp ⟨t,z7,z8,z9,z10,e1,e2⟩=>by
    subst e1 e2
    have hm:r[i]? = some r[i]:=List.getElem?_eq_getElem hi
    obtain ⟨p,p1,p2⟩:=V1 c hm
    have pl:p.lv = lv:=by
      obtain ⟨q,q1,q2⟩:=(mem r[i]).mp (List.getElem_mem hi)
      rw [p1] at q1;cases q1;omega
    have ok:=T.page r[i] p p1
    have lk:(p.hi = none /\ p.sd = none) ∨ ∃ (x:Int) (s:Nat),p.hi = some x /\ p.sd = some s:=by
      rcases T.link r[i] p p1 with h | ⟨x,s,q,a1,a2,_⟩
      . exact .inl h
      . exact .inr ⟨x,s,a1,a2⟩
    let v:=w3 ++ t
    let e7:=E (.val (.int (i:Int))) z8 z9 z10
    let e8:=E (.val (.int (i:Int))) (.val (.int (r[i]:Int))) z9 z10
    let e9:=E (.val (.int (i:Int))) (.val (.int (r[i]:Int))) (.val (pgD p)) z10
    let e10:=E (.val (.int (i:Int))) (.val (.int (r[i]:Int))) (.val (pgD p)) (.val (oN p.sd))
    have av:v[a]? = some (.lst (nD r)):=Qr a3
    have s8:Qh ixG (Qc 1) (Qc 7) e7 v = some (.int (r[i]:Int),v):=Xj (i:=i) (var_at rfl) av (var_at rfl) (jV hm)
    have s9:Qh ixG (Qc 0) (Qc 8) e8 v = some (pgD p,v):=J4 (i:=r[i]) (ds:=S.pg.map pgD) (var_at rfl) (var_at rfl) (Xu p1)
    have lenE:QU Zd (Qb (Qc 1) Qk) e9 v = some (.int r.length,v):=by rw [Xd (n:=a) (var_at rfl) av,Je]
    have nx:Qh Zb (Qc 7) (eC (.int 1)) e9 v = some (.int ((i + 1:Nat):Int),v):=qe (i:=i) (j:=1) (var_at rfl) rfl
    have s10:eIf (eB (Qh ltD (Qh Zb (Qc 7) (eC (.int 1))) (QU Zd (Qb (Qc 1) Qk)))) (Qh ixG (Qc 1) (Qh Zb (Qc 7) (eC (.int 1)))) (eC .non) e9 v = some (oN p.sd,v):=by
      by_cases q:i + 1 < r.length
      . have h':r[i + 1]? = some r[i + 1]:=List.getElem?_eq_getElem q
        refine (Kg (hp1:=v) (Zg (b:=true) ((kE nx lenE).trans (by rw [decide_eq_true (by omega)])))).trans ?_
        rw [p2,h']
        exact Xj (i:=i + 1) (var_at rfl) av nx (jV h')
      . refine (Gp (hp1:=v) (Zg (b:=false) ((kE nx lenE).trans (by rw [decide_eq_false (by omega)])))).trans ?_
        rw [p2,List.getElem?_eq_none (by omega)];rfl
    have bgE:∀ (v':Hs) (h:v'[w.length]? = some (.dic (bgK bg r))),Qh ixG (Qc 4) (Qc 8) e10 v' = some (opt (bg r[i]),v'):=fun v' h=>Qu (var_at rfl) (var_at rfl) (Qap h (xL r[i] (List.getElem_mem hi)))
    have pf:ZO [.int (r[i]:Int),pgD p,.int (lv:Int),opt (bg r[i]),oN p.sd] v = some (.ref v.length,v ++ [.lst []]):=by have:=yQ ok lk hr v (r[i]:Int);rw [pl] at this;exact this
    let v':=v ++ [OV.lst []]
    have x1:Zu (JC "list" Jl (Qc 6) (Qb (Qt 5 ZO (Qb (Qc 8) (Qb (Qc 9) (Qb (Qc 2) (Qb (Qh ixG (Qc 4) (Qc 8)) (Qb (Qc 10) Qk)))))) Qk)) e10 v = some ((.nx,e10),v') :=
      jA (a:=w.length + 2) (x:=v.length) (var_at rfl) (Qr d3) (Zh (QO (Qda (var_at rfl) (var_at rfl) (var_at rfl) (bgE v (Qr d1)) (var_at rfl)) rfl pf)) (Qr (Qr d3)) (Jm v _)
    by_cases lz:0 < lv
    . have pp:=ok.parts
      rw [if_neg (by omega)] at pp
      have kf:JF [.int (r[i]:Int),pgD p,opt (bg r[i]),.ref (w.length + 1)] v' = some (.ref v'.length,v' ++ [.lst []]):=Vk (r:=rb) (Qr (Qr d2)) pp (Nat.le_trans ok.few hr) (fun j x hx=>by
        obtain ⟨cc,q,b1,b2,b3,b4⟩:=T.kid r[i] p p1 (by omega) j x hx
        exact ⟨cc,b1,hkid lz cc q b2 (by omega),b4⟩) _
      refine ⟨e10,v' ++ [.lst []],?_,t ++ [.lst []] ++ [.lst []],_,_,_,_,rfl,by simp [v',v]⟩
      show Jn e7 v = _
      refine (Qo (Qs s8)).trans ((Qo (Qs s9)).trans ((Qo (Qs s10)).trans ((Qo x1).trans ((vM (hp1:=v') (Zg (b:=true) ?_)).trans ?_))))
      . exact (yO (i:=(lv:Int)) (var_at rfl) rfl).trans (by rw [decide_eq_true (by omega)])
      . exact jA (a:=w.length + 2) (x:=v'.length) (var_at rfl) (Qr (Qr d3)) (Zh (QO (uC (var_at rfl) (var_at rfl) (bgE v' (Qr (Qr d1))) (var_at rfl)) rfl kf)) (Qr (Qr (Qr d3))) (Jm v' _)
    . refine ⟨e10,v',?_,t ++ [.lst []],_,_,_,_,rfl,by simp [v',v]⟩
      show Jn e7 v = _
      refine (Qo (Qs s8)).trans ((Qo (Qs s9)).trans ((Qo (Qs s10)).trans ((Qo x1).trans ((JO (hp1:=v') (Zg (b:=false) ?_)).trans JQ))))
      exact (yO (i:=(lv:Int)) (var_at rfl) rfl).trans (by rw [decide_eq_false (by omega)]))
  refine ⟨[OV.dic (bgK bg r),OV.dic (bgK bg rb),OV.lst []] ++ t4,w.length + 2,Q3 (env:=E y7 y8 y9 y10) ?_,by have:=Qr (t:=t4) d3;simpa [w3,w2,w1] using this⟩
  have b1:=VE (S:=S) (bg:=bg) be1 be0 nd (by omega) (w:=w) (d:=.ref a) (.inr ⟨a,rfl,ha⟩)
  have b2:=VE (S:=S) (bg:=bg) hbe.1 hbe.2 hbn (by omega) (w:=w1) (d:=dB) hB1
  rw [L1] at b2
  refine (Qo (env1:=[.val (pgL S),.val (.ref a),.val (.int (lv:Int)),.val dB,.val (.ref w.length),.un,.un,.un,.un,.un,.un]) (hp1:=w1) (Qs (QO (ZH (var_at rfl) (var_at rfl)) rfl b1))).trans ?_
  refine (Qo (env1:=[.val (pgL S),.val (.ref a),.val (.int (lv:Int)),.val dB,.val (.ref w.length),.val (.ref (w.length + 1)),.un,.un,.un,.un,.un]) (hp1:=w2) (Qs (QO (ZH (var_at rfl) (var_at rfl)) rfl b2))).trans ?_
  have n3:JR Qk [.val (pgL S),.val (.ref a),.val (.int (lv:Int)),.val dB,.val (.ref w.length),.val (.ref (w.length + 1)),.un,.un,.un,.un,.un] w2 = some (.ref (w.length + 2),w3):=by
    show some (DV.ref w2.length,_) = _
    rw [L2]
  refine (Qo (env1:=E .un .un .un .un) (hp1:=w3) (Qs n3)).trans ((Qo (J7 (ds:=QN 0 r.length) (xM (m:=r.length) (Zh (by rw [Xd (n:=a) (var_at rfl) a3,Je])) (by omega)) e4)).trans (Q5 ?_))
  show some (DV.ref (w.length + 2),w3 ++ t4) = _
  simp [w3,w2,w1]
end
section
variable {S:TR.Sh} {bg:TR.Bg}
theorem Row.lt (T:TR.Tree S bg) {n:Nat} {r:List Nat} (h:Row S n r):r.length <= S.pg.length:=by
  obtain ⟨p,hn,c,nd,mem⟩:=h
  rw [TR.um T nd mem]
  exact Nat.le_trans (List.length_filter_le _ _) (by simp)
theorem VW (T:TR.Tree S bg) (hr:S.room <= 100) {rt:TR.Pg} (ht:S.pg[S.top]? = some rt) (hN:(rt.lv + 1) * S.pg.length < 80000) {w:Hs} {n k:Nat} {rm a b:Int} (h1:w[n]? = some (.ins "Shelf" (shF rm k (S.top:Int) a b))) (h2:w[k]? = some (.lst (S.pg.map pgD))) :
    ∃ (t:Hs) (x:Nat),X5 [.ref n] w = some (.ref x,w ++ t) /\ (w ++ t)[x]? = some (.lst []):=by
  obtain ⟨ls,rs,lf,ll,rws,lv⟩:=JM T ht hN w
  have rl:=rws.len
  have l1:1 <= S.pg.length:=by have:=(List.getElem?_eq_some_iff.mp ht).1;omega
  have pN:S.pg.length < 80000:=by
    have:1 * S.pg.length <= (rt.lv + 1) * S.pg.length:=Nat.mul_le_mul_right _ (by omega)
    omega
  have R9:rt.lv + 1 < 80000:=by
    have:(rt.lv + 1) * 1 <= (rt.lv + 1) * S.pg.length:=Nat.mul_le_mul_left _ l1
    omega
  have lg:=lf.get T rt ht
  let w1:=Wk w rs
  let w2:=w1 ++ [OV.lst []]
  let N:=w1.length
  have a2:w2[w.length]? = some (.lst (Xp (w.length + 2) rs.length)):=Qr (GC w rs)
  have r2:∀ {i:Nat} {r:List Nat},rs[i]? = some r -> w2[w.length + 2 + i]? = some (.lst (nD r)):=fun h=>Qr (vb h)
  have t2:w2[N]? = some (.lst []):=Jm w1 _
  let E:Sl -> Sl -> Sl -> En:=fun z4 z5 z6=>[.val (.ref n),.val (pgL S),.val (.ref w.length),.val (.ref N),z4,z5,z6]
  obtain ⟨env',hp',e4,t4,y4,y5,y6,rfl,rfl⟩:=xo (b:=fun d env=>do let env' <- gN 4 d env;qj env') (fun _ env hp=>∃ (t:Hs) (z4 z5 z6:Sl),env = E z4 z5 z6 /\ hp = w2 ++ t) rs.length (E .un .un .un) w2 ⟨[],.un,.un,.un,rfl,by simp⟩ (fun i hi env hp ⟨t,z4,z5,z6,e1,e2⟩=>by
    subst e1 e2
    let v:=w2 ++ t
    have il:i < ls.length:=by omega
    have hl:ls[i]? = some ls[i]:=List.getElem?_eq_getElem il
    obtain ⟨r,hri,row⟩:=rws.get hl
    obtain ⟨q,q1,q2,q3⟩:=lg.2 i _ hl
    let lvl:=rt.lv - i
    have lenE:∀ e:En,Qc 2 e v = some (.ref w.length,v) -> QU Zd (Qb (Qc 2) Qk) e v = some (.int rs.length,v):=fun e he=>by rw [Xd (n:=w.length) he (Qr a2),Jf]
    let e4:=E (.val (.int (i:Int))) z5 z6
    let e5:=E (.val (.int (i:Int))) (.val (.int (lvl:Int))) z6
    have s5:Qh XW (Qh XW (QU Zd (Qb (Qc 2) Qk)) (eC (.int 1))) (Qc 4) e4 v = some (.int (lvl:Int),v):=by
      refine (jl (jl (lenE e4 (var_at rfl)) rfl) (var_at rfl)).trans ?_
      congr 3
      show (rs.length:Int) - 1 - (i:Int) = ((rt.lv - i:Nat):Int)
      omega
    have g0:Qh ixG (Qc 2) (Qc 4) e5 v = some (.ref (w.length + 2 + i),v):=Xj (i:=i) (var_at rfl) (Qr a2) (var_at rfl) (JH hi)
    have hlvl:∀ p,S.pg[ls[i]]? = some p -> p.lv = lvl:=fun p hp=>by rw [q1] at hp;cases hp;show q.lv = rt.lv - i;omega
    by_cases z:0 < lvl
    . have i1:i + 1 < ls.length:=by show _;have:0 < rt.lv - i:=z;omega
      have hl1:ls[i + 1]? = some ls[i + 1]:=List.getElem?_eq_getElem i1
      obtain ⟨rb,hrb,rowb⟩:=rws.get hl1
      obtain ⟨qb,qb1,qb2,qb3⟩:=lg.2 (i + 1) _ hl1
      have nb:rb.Nodup:=let ⟨_,_,_,nd,_⟩:=rowb;nd
      obtain ⟨t',x,f1,f2⟩:=qZ T hr row q3 hlvl (Nat.lt_of_le_of_lt (row.lt T) pN) (Nat.lt_of_le_of_lt (rowb.lt T) pN) nb (Kw T rowb qb3) (fun _ c qc hc1 hc2=>by
        obtain ⟨pb,hb1,_,_,memb⟩:=rowb
        rw [qb1] at hb1;cases hb1
        exact (memb c).mpr ⟨qc,hc1,by have:qc.lv + 1 = rt.lv - i:=hc2;omega⟩) (w:=v) (a:=w.length + 2 + i) (dB:=.ref (w.length + 2 + (i + 1))) (Qr (r2 hri)) (.inr ⟨_,rfl,Qr (r2 hrb)⟩)
      have s6:eIf (eB (Qh gtD (Qc 5) (eC (.int 0)))) (Qh ixG (Qc 2) (Qh Zb (Qc 4) (eC (.int 1)))) (ZX Qk) e5 v = some (.ref (w.length + 2 + (i + 1)),v):=by
        refine (Kg (hp1:=v) (Zg (b:=true) ((yO (i:=(lvl:Int)) (var_at rfl) rfl).trans (by rw [decide_eq_true (by omega)])))).trans ?_
        exact Xj (i:=i + 1) (var_at rfl) (Qr a2) (qe (i:=i) (j:=1) (var_at rfl) rfl) (JH (by omega))
      refine ⟨E (.val (.int (i:Int))) (.val (.int (lvl:Int))) (.val (.ref (w.length + 2 + (i + 1)))),v ++ t',?_,t ++ t',_,_,_,rfl,by simp [v]⟩
      show qj e4 v = _
      refine (Qo (Qs s5)).trans ((Qo (Qs s6)).trans ?_)
      exact jA (a:=N) (x:=x) (var_at rfl) (Qr t2) (Zh (QO (uC (var_at rfl) (Xj (i:=i) (var_at rfl) (Qr a2) (var_at rfl) (JH hi)) (var_at rfl) (var_at rfl)) rfl f1)) (Qr (Qr t2)) f2
    . obtain ⟨t',x,f1,f2⟩:=qZ T hr (rb:=[]) row q3 hlvl (Nat.lt_of_le_of_lt (row.lt T) pN) (by simp) List.nodup_nil ⟨fun {i m} h=>by simp at h,rfl⟩ (fun h=>absurd h z) (w:=v) (a:=w.length + 2 + i) (dB:=.lst []) (Qr (r2 hri)) (.inl rfl)
      have s6:eIf (eB (Qh gtD (Qc 5) (eC (.int 0)))) (Qh ixG (Qc 2) (Qh Zb (Qc 4) (eC (.int 1)))) (ZX Qk) e5 v = some (.lst [],v):=by
        refine (Gp (hp1:=v) (Zg (b:=false) ((yO (i:=(lvl:Int)) (var_at rfl) rfl).trans (by rw [decide_eq_false (by omega)])))).trans rfl
      refine ⟨E (.val (.int (i:Int))) (.val (.int (lvl:Int))) (.val (.lst [])),v ++ t',?_,t ++ t',_,_,_,rfl,by simp [v]⟩
      show qj e4 v = _
      refine (Qo (Qs s5)).trans ((Qo (Qs s6)).trans ?_)
      exact jA (a:=N) (x:=x) (var_at rfl) (Qr t2) (Zh (QO (uC (var_at rfl) (Xj (i:=i) (var_at rfl) (Qr a2) (var_at rfl) (JH hi)) (var_at rfl) (var_at rfl)) rfl f1)) (Qr (Qr t2)) f2)
  have wk:∃ u,w2 ++ t4 = w ++ u:=⟨(OV.lst (Xp (w.length + 2) rs.length) :: OV.dic (mkD rs.flatten) :: rs.map fun r=>OV.lst (nD r)) ++ [OV.lst []] ++ t4,by simp [w2,w1,Wk]⟩
  obtain ⟨u,eu⟩:=wk
  refine ⟨u,N,Q3 (env:=E y4 y5 y6) ?_,by rw [<- eu];exact Qr t2⟩
  rw [<- eu]
  refine (Qo (env1:=[.val (.ref n),.val (pgL S),.un,.un,.un,.un,.un]) (hp1:=w) (Qs (Ja (a:=n) (var_at rfl) h1 rfl zB rfl (qg h1 h2)))).trans ?_
  refine (Qo (env1:=[.val (.ref n),.val (pgL S),.val (.ref w.length),.un,.un,.un,.un]) (hp1:=w1) (Qs (QO (ZH (var_at rfl) (Ja (a:=n) (var_at rfl) h1 (XY ..) zB rfl (jt h1))) rfl lv))).trans ?_
  refine (Qo (env1:=E .un .un .un) (hp1:=w2) (Qs rfl)).trans ((Qo (J7 (ds:=QN 0 rs.length) (xM (m:=rs.length) (Zh (by rw [Xd (n:=w.length) (var_at rfl) a2,Jf])) (by omega)) e4)).trans (Q5 (var_at rfl)))
theorem kT (T:TR.Tree S bg) (hr:S.room <= 100) {rt:TR.Pg} (ht:S.pg[S.top]? = some rt) (hN:(rt.lv + 1) * S.pg.length < 80000) {w:Hs} {n k:Nat} {rm a b:Int} (h1:w[n]? = some (.ins "Shelf" (shF rm k (S.top:Int) a b))) (h2:w[k]? = some (.lst (S.pg.map pgD))) :
    ∃ t:Hs,XU [.ref n] w = some (.bl true,w ++ t):=by
  obtain ⟨t,x,f1,f2⟩:=VW T hr ht hN h1 h2
  exact ⟨t,Q3 (env:=[.val (.ref n)]) (Q5 (Qu (x:=.ref x) (y:=.lst []) (QO (Zh (var_at rfl)) rfl f1) rfl (Qao (n:=0) f2 (fun d hd=>by cases hd) (by decide))))⟩
end
theorem QcY (kvs:List (Key × DV)) (k:Key) (v:DV):(Yl kvs k v).length <= kvs.length + 1:=by
  unfold Yl;split
  . rw [List.length_map];omega
  . rw [List.length_append];simp
theorem Gu (k:Key) (v:DV) (j:Key) (kvs:List (Key × DV)) (h:j = k ∨ (XC kvs j).isSome = true):(XC (Yl kvs k v) j).isSome = true:=by
  have any:∀ l:List (Key × DV),(XC l j).isSome = l.any fun kv=>decide (kv.1 = j):=fun l=>by
    unfold XC
    induction l with
    | nil=>rfl
    | cons p r ih =>
      rw [List.find?_cons,List.any_cons]
      by_cases e:p.1 = j
      . rw [decide_eq_true e];rfl
      . rw [decide_eq_false e];exact ih
  rw [any] at h ⊢
  rw [List.any_eq_true] at *
  unfold Yl
  split
  . rename_i c
    rcases h with rfl | ⟨p,hp,he⟩
    . rw [List.any_eq_true] at c
      obtain ⟨q,hq,eq⟩:=c
      refine ⟨_,List.mem_map.mpr ⟨q,hq,rfl⟩,?_⟩
      rw [if_pos (of_decide_eq_true eq)];exact eq
    . refine ⟨_,List.mem_map.mpr ⟨p,hp,rfl⟩,?_⟩
      split <;> exact he
  . rcases h with rfl | ⟨p,hp,he⟩
    . exact ⟨_,List.mem_append_right _ (List.mem_singleton.mpr rfl),by simp⟩
    . exact ⟨p,List.mem_append_left _ hp,he⟩
section
variable {S:TR.Sh} {bg:TR.Bg}
def Has (kvs:List (Key × DV)) (xs:List Int):Prop:=∀ x ∈ xs,(XC kvs (.inl x)).isSome = true
theorem uY {w:Hs} {d:Nat} (A B C3:Sl) (D:DV):∀ (xs:List Int) (kvs:List (Key × DV)) (w:Hs) (z:Sl),w[d]? = some (.dic kvs) -> kvs.length + xs.length < 100000 ->
    ∃ (kvs':List (Key × DV)) (z':Sl),XG (fun x env=>do let env' <- gN 4 x env;qB env') (xs.map .int) [A,B,.val (.ref d),C3,z] w = some ((.nx,[A,B,.val (.ref d),C3,z']),w.set d (.dic kvs')) /\ kvs'.length <= kvs.length + xs.length /\ Has kvs' xs /\ ∀ ys,Has kvs ys -> Has kvs' ys
  | [],kvs,w,z,hd,hl=>⟨kvs,z,by rw [uP hd];rfl,by simp,(fun x h=>by cases h),fun ys h=>h⟩
  | x :: xs,kvs,w,z,hd,hl=>by
    have hl:kvs.length + (xs.length + 1) < 100000:=hl
    have ld:d < w.length:=(List.getElem?_eq_some_iff.mp hd).1
    have le:=QcY kvs (.inl x) (.bl true)
    obtain ⟨kvs',z',e,l,h1,h2⟩:=uY (d:=d) (w:=w) A B C3 D xs (Yl kvs (.inl x) (.bl true)) (w.set d (.dic (Yl kvs (.inl x) (.bl true)))) (.val (.int x)) (List.getElem?_set_self ld) (by omega)
    refine ⟨kvs',z',(Uh (env1:=[A,B,.val (.ref d),C3,.val (.int x)]) (hp1:=w.set d (.dic (Yl kvs (.inl x) (.bl true)))) ?_).trans (by rw [List.set_set] at e;exact e),by rw [List.length_cons];omega,fun y hy=>?_,fun ys h=>h2 ys fun y hy=>Gu _ _ _ _ (.inr (h y hy))⟩
    . show qB [A,B,.val (.ref d),C3,.val (.int x)] w = _
      exact vU (d:=d) (k:=x) rfl (var_at rfl) hd (var_at rfl) (by omega)
    . rcases List.mem_cons.mp hy with rfl | hy
      . exact h2 [y] (fun q hq=>by rw [List.mem_singleton.mp hq];exact Gu _ _ _ _ (.inl rfl)) y (List.mem_singleton.mpr rfl)
      . exact h1 y hy
theorem QbJ {r:List Nat} {M:Nat} (hr:∀ m ∈ r,∃ p,S.pg[m]? = some p /\ p.ps.length <= M) (hl:r.length * M < 90000) (hl2:r.length < 90000) {w:Hs} {a:Nat} (ha:w[a]? = some (.lst (nD r))):∃ kvs,YG [pgL S,.ref a] w = some (.ref w.length,w ++ [.dic kvs]) /\ ∀ m ∈ r,∀ p,S.pg[m]? = some p -> Has kvs p.ps:=by
  let E:Sl -> Sl -> En:=fun z3 z4=>[.val (pgL S),.val (.ref a),.val (.ref w.length),z3,z4]
  have al:a < w.length:=(List.getElem?_eq_some_iff.mp ha).1
  have:=xT (b:=fun d env=>do let env' <- gN 3 d env;xh env') (env:=E .un .un) (hp:=w ++ [.dic []]) (nxt:=nxW a) (Q:=fun q h=>q.1 = .nx /\ ∃ (kvs:List (Key × DV)) (z3 z4:Sl),q.2 = E z3 z4 /\ h = w ++ [.dic kvs] /\ ∀ m ∈ r,∀ p,S.pg[m]? = some p -> Has kvs p.ps)
    (nD r) (fun i env h=>∃ (kvs:List (Key × DV)) (z3 z4:Sl),env = E z3 z4 /\ h = w ++ [.dic kvs] /\ kvs.length <= i * M /\ ∀ (j m:Nat),j < i -> r[j]? = some m -> ∀ p,S.pg[m]? = some p -> Has kvs p.ps) (by rw [Je];omega)
    (fun i env h hi ⟨kvs,z3,z4,e1,e2,_⟩=>by
      subst e2
      exact UG (Qr ha) i) ⟨[],.un,.un,rfl,rfl,by simp,fun j m h=>absurd h (Nat.not_lt_zero _)⟩
    (fun i d hd env h ⟨kvs,z3,z4,e1,e2,kl,hs⟩=>by
      subst e1 e2
      have il:i < r.length:=by have:=(List.getElem?_eq_some_iff.mp hd).1;rw [Je] at this;exact this
      have hm:r[i]? = some r[i]:=List.getElem?_eq_getElem il
      rw [jV hm] at hd
      cases hd
      obtain ⟨p,p1,p2⟩:=hr r[i] (List.getElem_mem il)
      have le:(i + 1) * M <= r.length * M:=Nat.mul_le_mul_right _ (by omega)
      have ex:(i + 1) * M = i * M + M:=by rw [Nat.add_mul,Nat.one_mul]
      obtain ⟨kvs',z',f1,f2,f3,f4⟩:=uY (w:=w) (d:=w.length) (.val (pgL S)) (.val (.ref a)) (.val (.int (r[i]:Int))) .non p.ps kvs (w ++ [.dic kvs]) z4 (Jm w _) (by omega)
      have st:(w ++ [OV.dic kvs]).set w.length (.dic kvs') = w ++ [.dic kvs']:=by rw [List.set_append_right _ _ (Nat.le_refl _),Nat.sub_self];rfl
      rw [st] at f1
      refine WP.of (x:=(.nx,E (.val (.int (r[i]:Int))) z')) (hp':=w ++ [.dic kvs']) ?_ ⟨kvs',_,_,rfl,rfl,by omega,fun j m hj hjm q hq=>?_⟩
      . show xi (E (.val (.int (r[i]:Int))) z4) (w ++ [.dic kvs]) = _
        exact J7 (ds:=p.ps.map .int) (hp1:=w ++ [.dic kvs]) (GJ (Q6 (i:=2) (ds:=[.int p.lv,.tup (p.ks.map .int),.tup (p.ps.map .int),opt p.hi,oN p.sd]) (J4 (i:=r[i]) (ds:=S.pg.map pgD) (d:=pgD p) (var_at rfl) (var_at rfl) (Xu p1)) rfl rfl)) f1
      . by_cases e:j = i
        . subst e
          rw [hm] at hjm;cases hjm
          rw [p1] at hq;cases hq
          exact f3
        . exact f4 _ (hs j m (by omega) hjm q hq)) (fun env h ⟨kvs,z3,z4,e1,e2,kl,hs⟩=>⟨rfl,kvs,z3,z4,e1,e2,fun m hm p hp=>by
        obtain ⟨j,hj,ej⟩:=List.mem_iff_getElem.mp hm
        exact hs j m (by rw [Je];exact hj) (by rw [List.getElem?_eq_getElem hj,ej]) p hp⟩)
  obtain ⟨⟨fl,env'⟩,h',e,q1,kvs,z3,z4,q2,q3,q4⟩:=this
  have q1:fl = .nx:=q1
  have q2:env' = E z3 z4:=q2
  subst q1 q2 q3
  refine ⟨kvs,Q3 (env:=E z3 z4) ?_,q4⟩
  have x:xLs (Qc 1) (E .un .un) (w ++ [.dic []]) = some (nxW a,w ++ [.dic []]):=by
    unfold xLs
    rw [Qf (var_at rfl:Qc 1 (E .un .un) (w ++ [OV.dic []]) = some (.ref a,_))]
    show (Zi a >>= _) _ = _
    rw [Qf (QY (Qr ha))];rfl
  have lp:qy (E .un .un) (w ++ [.dic []]) = some ((.nx,E z3 z4),w ++ [.dic kvs]):=by
    unfold qy YO
    rw [Qf x]
    exact e
  exact (Qo (env1:=E .un .un) (hp1:=w ++ [.dic []]) (Qs rfl)).trans ((Qo lp).trans (Q5 (var_at rfl)))
end
theorem K5 {nxt:NX} {t:DV -> M Bool} {f:DV -> M DV} {hp:Hs} (ds:List DV) (hn:∀ i,i <= ds.length -> nxt i hp = some (ds[i]?,hp)) (ht:∀ d ∈ ds,t d hp = some (false,hp)) (hl:ds.length < 100000):Yr nxt t f 100000 0 hp = some ([],hp):=by
  suffices h:∀ (m i n:Nat),m + i = ds.length -> m < n -> Yr nxt t f n i hp = some ([],hp) from h ds.length 0 100000 rfl hl
  intro m
  induction m with
  | zero =>
    intro i n e hn'
    obtain ⟨n,rfl⟩:∃ k,n = k + 1:=⟨n - 1,by omega⟩
    have:i = ds.length:=by omega
    subst this
    have e1:=hn ds.length (Nat.le_refl _)
    rw [show ds[ds.length]? = none by simp] at e1
    rw [Yr,Qf e1];rfl
  | succ m ih =>
    intro i n e hn'
    obtain ⟨n,rfl⟩:∃ k,n = k + 1:=⟨n - 1,by omega⟩
    have hlt:i < ds.length:=by omega
    have e1:=hn i (by omega)
    rw [List.getElem?_eq_getElem hlt] at e1
    rw [Yr,Qf e1]
    show (t ds[i] >>= _) hp = _
    rw [Qf (ht ds[i] (List.getElem_mem hlt))]
    exact ih (i + 1) n (by omega) (by omega)
section
variable {S:TR.Sh} {bg:TR.Bg}
theorem kA (T:TR.Tree S bg) {rt:TR.Pg} (ht:S.pg[S.top]? = some rt) (hN:(rt.lv + 1) * S.pg.length < 80000) (hM:S.pg.length * (S.room + 1) < 90000) (told:∀ (c:Nat) (q:TR.Pg),S.pg[c]? = some q -> q.lv < rt.lv -> ∃ (m:Nat) (f:TR.Pg),S.pg[m]? = some f /\ f.lv = q.lv + 1 /\ (c:Int) ∈ f.ps)
    {w:Hs} {n k:Nat} {rm a b:Int} (h1:w[n]? = some (.ins "Shelf" (shF rm k (S.top:Int) a b))) (h2:w[k]? = some (.lst (S.pg.map pgD))):∃ (t:Hs) (x:Nat),qL [.ref n] w = some (.ref x,w ++ t) /\ (w ++ t)[x]? = some (.lst []):=by
  obtain ⟨ls,rs,lf,ll,rws,lv⟩:=JM T ht hN w
  have rl:=rws.len
  have l1:1 <= S.pg.length:=by have:=(List.getElem?_eq_some_iff.mp ht).1;omega
  have pN:S.pg.length < 80000:=by
    have:1 * S.pg.length <= (rt.lv + 1) * S.pg.length:=Nat.mul_le_mul_right _ (by omega)
    omega
  have R9:rt.lv + 1 < 80000:=by
    have:(rt.lv + 1) * 1 <= (rt.lv + 1) * S.pg.length:=Nat.mul_le_mul_left _ l1
    omega
  have lg:=lf.get T rt ht
  let w1:=Wk w rs
  let w2:=w1 ++ [OV.lst []]
  let N:=w1.length
  have a2:w2[w.length]? = some (.lst (Xp (w.length + 2) rs.length)):=Qr (GC w rs)
  have r2:∀ {i:Nat} {r:List Nat},rs[i]? = some r -> w2[w.length + 2 + i]? = some (.lst (nD r)):=fun h=>Qr (vb h)
  have t2:w2[N]? = some (.lst []):=Jm w1 _
  let E:Sl -> Sl -> En:=fun z4 z5=>[.val (.ref n),.val (pgL S),.val (.ref w.length),.val (.ref N),z4,z5]
  have loop:=vE (b:=fun d env=>do let env' <- gN 4 d env;zT env') (fun _ env hp=>∃ (t:Hs) (z4 z5:Sl),env = E z4 z5 /\ hp = w2 ++ t) (QN 1 (rs.length - 1)) 0 (E .un .un) w2 ⟨[],.un,.un,rfl,by simp⟩ (fun i d hd env hp ⟨t,z4,z5,e1,e2⟩=>by
    subst e1 e2
    obtain ⟨hi,rfl⟩:=Y0 hd
    let v:=w2 ++ t
    have il:i + 1 < ls.length:=by omega
    have hl:ls[i]? = some ls[i]:=List.getElem?_eq_getElem (by omega)
    have hl1:ls[i + 1]? = some ls[i + 1]:=List.getElem?_eq_getElem il
    obtain ⟨r,hri,row⟩:=rws.get hl
    obtain ⟨rb,hrb,rowb⟩:=rws.get hl1
    obtain ⟨q,q1,q2,q3⟩:=lg.2 i _ hl
    obtain ⟨qb,qb1,qb2,qb3⟩:=lg.2 (i + 1) _ hl1
    have rowlt:=row.lt T
    have rowblt:=rowb.lt T
    obtain ⟨pr,pr1,_,_,memr⟩:=row
    obtain ⟨pb,pb1,_,_,memb⟩:=rowb
    rw [q1] at pr1;cases pr1
    rw [qb1] at pb1;cases pb1
    obtain ⟨kvs,k1,k2⟩:=QbJ (S:=S) (M:=S.room + 1) (r:=r) (fun m hm=>by
      obtain ⟨p,p1,p2⟩:=(memr m).mp hm
      refine ⟨p,p1,?_⟩
      have ok:=T.page m p p1
      have:=ok.parts
      have:=ok.few
      split at * <;> omega) (Nat.lt_of_le_of_lt (Nat.mul_le_mul_right _ rowlt) hM) (by omega) (w:=v) (a:=w.length + 2 + i) (Qr (r2 hri))
    let e4:=E (.val (.int (1 + (i:Int)))) z5
    let e5:=E (.val (.int (1 + (i:Int)))) (.val (.ref v.length))
    let v':=v ++ [OV.dic kvs]
    have s5:Qt 2 YG (Qb (Qc 1) (Qb (Qh ixG (Qc 2) (Qh XW (Qc 4) (eC (.int 1)))) Qk)) e4 v = some (.ref v.length,v'):=by
      refine QO (ZH (var_at rfl) (Xj (i:=i) (var_at rfl) (Qr a2) ?_ (JH (by omega)))) rfl k1
      refine (jl (i:=1 + (i:Int)) (var_at rfl) rfl).trans ?_
      congr 3;omega
    have dv:v'[v.length]? = some (.dic kvs):=Jm v _
    have rv:v'[w.length + 2 + (i + 1)]? = some (.lst (nD rb)):=Qr (Qr (r2 hrb))
    have src:xLs (Qh ixG (Qc 2) (Qc 4)) e5 v' = some (nxW (w.length + 2 + (i + 1)),v'):=by
      unfold xLs
      rw [Qf (Xj (i:=i + 1) (n:=w.length) (var_at rfl) (Qr (Qr a2)) (by show some (DV.int (1 + (i:Int)),v') = _;congr 3;omega) (JH (by omega)):Qh ixG (Qc 2) (Qc 4) e5 v' = some (.ref (w.length + 2 + (i + 1)),v'))]
      show (Zi _ >>= _) v' = _
      rw [Qf (QY rv)];rfl
    have cp:zN e5 v' = some (.ref v'.length,v' ++ [.lst []]):=by
      unfold zN Js
      rw [Qf src]
      have cx:=K5 (hp:=v') (nxt:=nxW (w.length + 2 + (i + 1))) (t:=fun d=>eB (Qh yD (Qc 0) (Qc 1)) (cE [5] e5 d)) (f:=fun d=>Qc 0 (cE [5] e5 d)) (nD rb) (fun j _=>UG rv j) (fun d hd=>by
        obtain ⟨c,hc,rfl⟩:=List.mem_map.mp hd
        obtain ⟨qc,qc1,qc2⟩:=(memb c).mp hc
        obtain ⟨m,f,f1,f2,f3⟩:=told c qc qc1 (by omega)
        have hm:m ∈ r:=(memr m).mpr ⟨f,f1,by omega⟩
        have hv:=k2 m hm f f1 c f3
        obtain ⟨y,hy⟩:=Option.isSome_iff_exists.mp hv
        exact Zg (b:=false) (Qu (x:=.int (c:Int)) (y:=.ref v.length) (var_at rfl) (var_at rfl) (uN dv hy))) (by rw [Je];omega)
      rw [Qf (show Yr _ _ _ lim 0 v' = _ from cx)];rfl
    refine ⟨e5,v' ++ [.lst []],?_,t ++ [.dic kvs] ++ [.lst []],_,_,rfl,by simp [v',v]⟩
    show zT e4 v = _
    exact (Qo (Qs s5)).trans (jA (a:=N) (x:=v'.length) (var_at rfl) (Qr (Qr t2)) (Zh cp) (Qr (Qr (Qr t2))) (Jm v' _)))
  obtain ⟨env',hp',e4,t4,y4,y5,rfl,rfl⟩:=loop
  have wk:∃ u,w2 ++ t4 = w ++ u:=⟨(OV.lst (Xp (w.length + 2) rs.length) :: OV.dic (mkD rs.flatten) :: rs.map fun r=>OV.lst (nD r)) ++ [OV.lst []] ++ t4,by simp [w2,w1,Wk]⟩
  obtain ⟨u,eu⟩:=wk
  refine ⟨u,N,Q3 (env:=E y4 y5) ?_,by rw [<- eu];exact Qr t2⟩
  rw [<- eu]
  refine (Qo (env1:=[.val (.ref n),.val (pgL S),.un,.un,.un,.un]) (hp1:=w) (Qs (Ja (a:=n) (var_at rfl) h1 rfl zB rfl (qg h1 h2)))).trans ?_
  refine (Qo (env1:=[.val (.ref n),.val (pgL S),.val (.ref w.length),.un,.un,.un]) (hp1:=w1) (Qs (QO (ZH (var_at rfl) (Ja (a:=n) (var_at rfl) h1 (XY ..) zB rfl (jt h1))) rfl lv))).trans ?_
  refine (Qo (env1:=E .un .un) (hp1:=w2) (Qs rfl)).trans ((Qo (J7 (ds:=QN 1 (rs.length - 1)) (Qcu (a:=1) (b:=rs.length) (ZH rfl (by rw [Xd (n:=w.length) (var_at rfl) a2,Jf])) (by omega) (by omega)) e4)).trans (Q5 (var_at rfl)))
end
section
variable {S:TR.Sh} {bg:TR.Bg}
def Yh (S:TR.Sh) (m:Nat):List (Int × Int):=match S.pg[m]? with
  | some p=>TR.prs p
  | none=>[]
theorem Kc:∀ (a b:List Int),Yw (a.map .int) (b.map .int) = prD (a.zip b)
  | [],_=>by simp [Yw,prD]
  | _ :: _,[]=>by simp [Yw,prD]
  | x :: xs,y :: ys=>by
    show DV.tup [.int x,.int y] :: Yw (xs.map .int) (ys.map .int) = _
    rw [Kc xs ys];rfl
theorem Qbx {row tb:Nat} (rt:row ≠ tb) {r:List Nat} {M:Nat} (hr:∀ m ∈ r,∃ p,S.pg[m]? = some p /\ (TR.prs p).length <= M) (hl:r.length * M < 90000) (hl2:r.length < 90000) {w:Hs} (hrow:w[row]? = some (.lst (nD r))) (htb:w[tb]? = some (.lst [])) (N:Nat) :
    ∃ (z3:Sl) (hp':Hs),zS (nxW row) (fun d env=>do let env' <- gN 3 d env;XB env') 100000 0 [.val (.ref N),.val (pgL S),.val (.ref tb),.un] w = some ((.nx,[.val (.ref N),.val (pgL S),.val (.ref tb),z3]),hp') /\ hp'[tb]? = some (.lst (prD (r.flatMap (Yh S)))) /\ ∀ i x,i ≠ tb -> w[i]? = some x -> hp'[i]? = some x:=by
  have bnd:∀ i,i <= r.length -> ((r.take i).flatMap (Yh S)).length <= i * M:=by
    intro i
    induction i with
    | zero=>intro _;simp
    | succ i ih =>
      intro hi
      have il:i < r.length:=by omega
      have:=ih (by omega)
      obtain ⟨p,p1,p2⟩:=hr r[i] (List.getElem_mem il)
      rw [List.take_succ_eq_append_getElem il,List.flatMap_append,List.length_append]
      have e:([r[i]].flatMap (Yh S)) = TR.prs p:=by simp [Yh,p1]
      rw [e,Nat.add_mul,Nat.one_mul]
      omega
  have:=xT (b:=fun d env=>do let env' <- gN 3 d env;XB env') (env:=[.val (.ref N),.val (pgL S),.val (.ref tb),.un]) (hp:=w) (nxt:=nxW row) (Q:=fun q h=>q.1 = .nx /\ ∃ z3:Sl,q.2 = [.val (.ref N),.val (pgL S),.val (.ref tb),z3] /\ h[tb]? = some (.lst (prD (r.flatMap (Yh S)))) /\ ∀ i x,i ≠ tb -> w[i]? = some x -> h[i]? = some x)
    (nD r) (fun i env h=>i <= r.length /\ ∃ z3:Sl,env = [.val (.ref N),.val (pgL S),.val (.ref tb),z3] /\ h[tb]? = some (.lst (prD ((r.take i).flatMap (Yh S)))) /\ ∀ i x,i ≠ tb -> w[i]? = some x -> h[i]? = some x) (by rw [Je];omega)
    (fun i env h hi ⟨_,z3,e1,e2,e3⟩=>UG (e3 row _ rt hrow) i) ⟨Nat.zero_le _,.un,rfl,htb,fun i x _ h=>h⟩
    (fun i d hd env h ⟨_,z3,e1,e2,e3⟩=>by
      subst e1
      have il:i < r.length:=by have:=(List.getElem?_eq_some_iff.mp hd).1;rw [Je] at this;exact this
      have hm:r[i]? = some r[i]:=List.getElem?_eq_getElem il
      rw [jV hm] at hd
      cases hd
      obtain ⟨p,p1,p2⟩:=hr r[i] (List.getElem_mem il)
      let e:En:=[.val (.ref N),.val (pgL S),.val (.ref tb),.val (.int (r[i]:Int))]
      have px:Qh ixG (Qc 1) (Qc 3) e h = some (pgD p,h):=J4 (i:=r[i]) (ds:=S.pg.map pgD) (var_at rfl) (var_at rfl) (Xu p1)
      have zz:u0 (Qh ixG (Qh ixG (Qc 1) (Qc 3)) (eC (.int 1))) (Qh ixG (Qh ixG (Qc 1) (Qc 3)) (eC (.int 2))) e h = some (.ref h.length,h ++ [.lst (prD (TR.prs p))]):=by
        unfold u0
        rw [Qf (ga (ds:=p.ks.map .int) (es:=p.ps.map .int) (Q6 (i:=1) (ds:=[.int p.lv,.tup (p.ks.map .int),.tup (p.ps.map .int),opt p.hi,oN p.sd]) px rfl rfl) (Q6 (i:=2) (ds:=[.int p.lv,.tup (p.ks.map .int),.tup (p.ps.map .int),opt p.hi,oN p.sd]) px rfl rfl)),Kc];rfl
      have b:=bnd i (by omega)
      have ml:i * M + M <= r.length * M:=by have:=Nat.mul_le_mul_right M (show i + 1 <= r.length by omega);rw [Nat.add_mul,Nat.one_mul] at this;exact this
      have ex:=zV (a:=tb) (b:=h.length) (ds:=prD ((r.take i).flatMap (Yh S))) (es:=prD (TR.prs p)) (env:=e) (o:=Qc 2) (var_at rfl) e2 (Zh zz) (Qr e2) (Jm h _) (by rw [Yd,Yd];omega)
      have tl:tb < h.length:=(List.getElem?_eq_some_iff.mp e2).1
      refine WP.of (x:=(.nx,e)) (hp':=(h ++ [OV.lst (prD (TR.prs p))]).set tb (OV.lst (prD ((r.take i).flatMap (Yh S)) ++ prD (TR.prs p)))) ?_ ⟨by omega,_,rfl,?_,fun j x hj hx=>?_⟩
      . show XB e h = _
        exact JI ex
      . rw [List.getElem?_set_self (by rw [List.length_append];omega),uj]
        congr 3
        rw [List.take_succ_eq_append_getElem il,List.flatMap_append]
        congr 1
        simp [Yh,p1]
      . rw [List.getElem?_set_ne (Ne.symm hj)]
        exact Qr (e3 j x hj hx)) (fun env h ⟨_,z3,e1,e2,e3⟩=>⟨rfl,z3,e1,by rw [Je,List.take_length] at e2;exact e2,e3⟩)
  obtain ⟨⟨fl,env'⟩,h',e,q1,z3,q2,q3,q4⟩:=this
  have q1:fl = .nx:=q1
  have q2:env' = [.val (.ref N),.val (pgL S),.val (.ref tb),z3]:=q2
  subst q1 q2
  exact ⟨z3,h',e,q3,q4⟩
theorem Qa0 (T:TR.Tree S bg) (hroom:S.room <= 100) {rt:TR.Pg} (ht:S.pg[S.top]? = some rt) (hN:(rt.lv + 1) * S.pg.length < 80000) (hM:S.pg.length * (S.room + 1) < 90000) {w:Hs} {n k:Nat} {rm a b:Int} (h1:w[n]? = some (.ins "Shelf" (shF rm k (S.top:Int) a b))) (h2:w[k]? = some (.lst (S.pg.map pgD))) :
    ∃ (c:Nat) (r:List Nat) (hp':Hs),Row S c r /\ bg c = none /\ (∀ q,S.pg[c]? = some q -> q.lv = 0) /\ Z0 [.ref n] w = some (.ref w.length,hp') /\ hp'[w.length]? = some (.lst (prD (r.flatMap (Yh S)))) /\ ∀ (i:Nat) (x:OV),w[i]? = some x -> hp'[i]? = some x:=by
  let w1:=w ++ [OV.lst []]
  have L1:w1.length = w.length + 1:=by simp [w1]
  obtain ⟨ls,rs,lf,ll,rws,lv⟩:=JM T ht hN w1
  have rl:=rws.len
  have lg:=lf.get T rt ht
  have hl:ls[rt.lv]? = some (ls[rt.lv]'(by omega)):=List.getElem?_eq_getElem _
  obtain ⟨r,hri,row⟩:=rws.get hl
  obtain ⟨q,q1,q2,q3⟩:=lg.2 rt.lv _ hl
  have rowlt:=row.lt T
  have row':=row
  obtain ⟨pr,pr1,_,_,memr⟩:=row
  let w2:=Wk w1 rs
  have tb:w2[w.length]? = some (.lst []):=by
    show (Wk w1 rs)[w.length]? = _
    rw [GM (by omega)];exact Jm w _
  have rw2:w2[w1.length + 2 + rt.lv]? = some (.lst (nD r)):=vb hri
  have r9:r.length < 90000:=by
    have:S.pg.length * 1 <= S.pg.length * (S.room + 1):=Nat.mul_le_mul_left _ (by omega)
    omega
  obtain ⟨z3,hp',f1,f2,f3⟩:=Qbx (S:=S) (row:=w1.length + 2 + rt.lv) (tb:=w.length) (by omega) (r:=r) (M:=S.room + 1) (fun m hm=>by
    obtain ⟨p,p1,p2⟩:=(memr m).mp hm
    refine ⟨p,p1,?_⟩
    have ok:=T.page m p p1
    have:=ok.few
    unfold TR.prs
    rw [List.length_zip];omega) (Nat.lt_of_le_of_lt (Nat.mul_le_mul_right _ rowlt) hM) r9 (w:=w2) rw2 tb n
  refine ⟨_,r,hp',row',q3,fun q' h'=>by rw [q1] at h';cases h';omega,Q3 (env:=[.val (.ref n),.val (pgL S),.val (.ref w.length),z3]) ?_,f2,fun i x hx=>?_⟩
  . refine (Qo (env1:=[.val (.ref n),.val (pgL S),.un,.un]) (hp1:=w) (Qs (Ja (a:=n) (var_at rfl) h1 rfl zB rfl (qg h1 h2)))).trans ?_
    let e:En:=[.val (.ref n),.val (pgL S),.val (.ref w.length),.un]
    refine (Qo (env1:=e) (hp1:=w1) (Qs rfl)).trans ((Qo ?_).trans (Q5 (var_at rfl)))
    have h1':w1[n]? = some (.ins "Shelf" (shF rm k (S.top:Int) a b)):=Qr h1
    have cl:Qt 2 QX (Qb (Qc 1) (Qb (Zt "Shelf" "root" 1 QV (Qc 0) Qk) Qk)) e w1 = some (.ref w1.length,w2):=QO (ZH (var_at rfl) (Ja (a:=n) (var_at rfl) h1' (XY ..) zB rfl (jt h1'))) rfl lv
    have ix:Qh ixG (Qt 2 QX (Qb (Qc 1) (Qb (Zt "Shelf" "root" 1 QV (Qc 0) Qk) Qk))) (qi (eC (.int 1))) e w1 = some (.ref (w1.length + 2 + rt.lv),w2):=by
      refine Qu cl (y:=.int (-1)) rfl ?_
      show (Zi w1.length >>= _) w2 = _
      rw [Qf (QY (GC w1 rs))]
      show (qP (atI (Xp (w1.length + 2) rs.length) (-1))) w2 = _
      have:atI (Xp (w1.length + 2) rs.length) (-1) = some (.ref (w1.length + 2 + rt.lv)):=by
        unfold atI
        rw [Jf,KK (by omega)]
        show (Xp (w1.length + 2) rs.length)[rs.length - 1]? = _
        rw [JH (by omega)]
        congr 2;omega
      rw [this];rfl
    have x:xLs (Qh ixG (Qt 2 QX (Qb (Qc 1) (Qb (Zt "Shelf" "root" 1 QV (Qc 0) Qk) Qk))) (qi (eC (.int 1)))) e w1 = some (nxW (w1.length + 2 + rt.lv),w2):=by
      unfold xLs
      rw [Qf ix]
      show (Zi _ >>= _) w2 = _
      rw [Qf (QY rw2)];rfl
    show YT e w1 = _
    unfold YT YO
    rw [Qf x]
    exact f1
  . have il:i < w.length:=(List.getElem?_eq_some_iff.mp hx).1
    refine f3 i x (by omega) ?_
    show (Wk w1 rs)[i]? = _
    rw [GM (by omega)];exact Qr hx
end
theorem Qbw {room:Nat} {L:TP.Lv} (O:L.Ok room) {k:Nat} (hk:k < L.q):xc L.rows L.m L.fork L.lv L.first k = pgD (TP.Q7 L k):=by
  have im:∀ (c:TP.Rw) (f:Int × Int -> Int),(c.map fun r=>DV.int (f r)) = (c.map f).map DV.int:=fun c f=>by rw [List.map_map];rfl
  unfold xc VT jT
  show _ = DV.tup [.int (L.lv:Int),.tup ((((TP.QI L.rows L.m L.fork k).drop (if L.fork then 1 else 0)).map (·.1)).map .int),.tup (((TP.QI L.rows L.m L.fork k).map (·.2)).map .int),opt (if k + 1 = L.q then none else some (TP.X1 L.rows L.m L.fork (k + 1))),oN (if k + 1 = L.q then none else some (L.first + (k + 1)))]
  rw [im,im]
  by_cases e:k + 1 = L.q
  . rw [if_pos (show k + 1 = TP.qn L.rows.length L.m from e),if_pos (show k + 1 = TP.qn L.rows.length L.m from e),if_pos e,if_pos e];rfl
  . have n1:=O.rows1 (k:=k) (by omega)
    have c:=(TP.XL (rows:=L.rows) (m:=L.m) (fork:=L.fork) O.m_pos O.m3 n1 (k:=k + 1) (by have:TP.qn L.rows.length L.m = L.q:=rfl;omega)).2
    rw [if_neg (show ¬ k + 1 = TP.qn L.rows.length L.m from e),if_neg (show ¬ k + 1 = TP.qn L.rows.length L.m from e),if_neg e,if_neg e,Ks c];rfl
theorem VD {room:Nat} {L:TP.Lv} (O:L.Ok room):Z4 L.rows L.m L.fork L.lv L.first = (TP.Zr L).map pgD:=by
  unfold Z4 TP.Zr
  rw [List.map_map]
  exact List.map_congr_left fun k hk=>Qbw O (List.mem_range.mp hk)
theorem Gb {room:Nat}:∀ (k:Nat) (L:TP.Lv) (P:List TR.Pg),L.Ok room -> P.length = L.first + L.q -> xb (room + 1) k L.rows L.m L.fork L.lv L.first (P.map pgD) = (TP.xk room k L P).map pgD
  | 0,L,P,O,h=>rfl
  | k + 1,L,P,O,h=>by
    unfold xb TP.xk
    have hq:TP.qn L.rows.length L.m = L.q:=rfl
    rw [hq]
    have q1:=O.q1
    by_cases c:L.q <= 1
    . rw [if_pos c,if_pos c]
    . rw [if_neg c,if_neg c]
      have O':=O.next (by omega)
      have ih:=Gb k (TP.QT room L) (P ++ TP.Zr (TP.QT room L)) O' (by rw [List.length_append,h];simp [TP.Zr];rfl)
      rw [<- ih,List.map_append,<- VD O',List.length_map,h]
      rfl
def lv0 (rows:TP.Rw) (room:Nat):TP.Lv:=⟨rows,room,false,0,0⟩
def qR (rows:TP.Rw) (room:Nat):List TR.Pg:=TP.xk room (lv0 rows room).q (lv0 rows room) (TP.Zr (lv0 rows room))
theorem kS {rows:TP.Rw} {room:Nat} (hr:2 <= room) (hs:rows.Pairwise (fun a b=>a.1 < b.1)):(lv0 rows room).Ok room where
  room2:=hr
  m1:=rfl
  fk:=⟨fun h=>(by cases h),fun h=>absurd h (Nat.lt_irrefl _)⟩
  rise:=hs
  two:=fun h=>(by cases h)
theorem Qa9 {rows:TP.Rw} {room:Nat} (hr:2 <= room) (hs:rows.Pairwise (fun a b=>a.1 < b.1)):qk rows room = (qR rows room).map pgD:=by
  have O:=kS hr hs
  unfold qR
  rw [<- Gb _ _ _ O (by simp [TP.Zr,lv0]),<- VD O]
  rfl
theorem ki {rows:TP.Rw} {room:Nat} (hr:2 <= room) (hs:rows.Pairwise (fun a b=>a.1 < b.1)):∃ bg L,TP.Pk room (lv0 rows room) (qR rows room) bg L /\ L.q = 1 :=
  TP.Pk.all _ (TP.Pk.base (kS hr hs) rfl rfl) (Nat.le_succ _)
def shP (rows:TP.Rw) (room:Nat):TR.Sh:=⟨room,qR rows room,(qR rows room).length - 1,0,0⟩
structure PF (S:TR.Sh) (bg:TR.Bg) (rt:TR.Pg) (rows:TP.Rw):Prop where
  tree:TR.Tree S bg
  top:S.pg[S.top]? = some rt
  tops:S.top = S.pg.length - 1
  lv12:rt.lv < 12
  sd:rt.sd = none
  len:S.pg.length <= 2000
  pos:1 <= S.pg.length
  room:S.room <= 8
  told:∀ (c:Nat) (q:TR.Pg),S.pg[c]? = some q -> q.lv < rt.lv -> ∃ (m:Nat) (f:TR.Pg),S.pg[m]? = some f /\ f.lv = q.lv + 1 /\ (c:Int) ∈ f.ps
  side:∀ (n:Nat) (p:TR.Pg),S.pg[n]? = some p -> ∀ s,p.sd = some s -> s = n + 1
  mono:∀ (n m:Nat) (p q:TR.Pg),S.pg[n]? = some p -> S.pg[m]? = some q -> p.lv < q.lv -> n < m
  tab:∀ r:List Nat,r.Pairwise (· < ·) -> (∀ m,m ∈ r ↔ ∃ q,S.pg[m]? = some q /\ q.lv = 0) -> r.flatMap (Yh S) = rows
theorem VY {room:Nat} {L0:TP.Lv} (O:L0.Ok room) (h0:L0.lv = 0) {pg:List TR.Pg} (lf:∀ k,k < L0.q -> pg[k]? = some (TP.Q7 L0 k)) {S:TR.Sh} (hS:S.pg = pg):∀ k,k <= L0.q -> (List.range k).flatMap (Yh S) = L0.rows.take (L0.s k)
  | 0,_=>by have:L0.s 0 = 0:=TP.jw O.m_pos _;rw [this];rfl
  | k + 1,h=>by
    rw [List.range_succ,List.flatMap_append,VY O h0 lf hS k (by omega),<- TP.G8 O (by omega)]
    congr 1
    have:Yh S k = TP.QI L0.rows L0.m L0.fork k:=by
      unfold Yh
      rw [hS,lf k (by omega)]
      exact TP.Qa3 O h0 k
    simp [this]
theorem QeI {rows:TP.Rw} {room:Nat} (r2:2 <= room) (r8:room <= 8) (hs:rows.Pairwise (fun a b=>a.1 < b.1)) (hl:rows.length <= 300) (len:(qR rows room).length <= 2000):∃ bg rt,PF (shP rows room) bg rt rows:=by
  obtain ⟨bg,L,P,Lq⟩:=ki (rows:=rows) (room:=room) r2 hs
  obtain ⟨L',X⟩:=TP.Px.all (room:=room) (lv0 rows room).q (TP.Px.base (L:=lv0 rows room) rfl)
  obtain ⟨T,t1,t2⟩:=P.tree Lq
  have qz:(lv0 rows room).q <= 300:=by
    have:=uI (n:=rows.length) (m:=room) (by omega)
    show TP.qn rows.length room <= 300
    omega
  have lv12:L.lv < 12:=by
    have sm:=P.small
    rw [Lq,Nat.mul_one] at sm
    refine Nat.lt_of_not_le fun z=>?_
    have:2 ^ 12 <= 2 ^ L.lv:=Nat.pow_le_pow_right (by decide) z
    omega
  refine ⟨bg,TP.Q7 L 0,⟨T.room2,T.root,T.rbg,T.page,T.link,T.kid,T.dis,T.pred⟩,t1,rfl,lv12,?_,len,?_,r8,P.told',X.side,X.mono,fun r h1 h2=>?_⟩
  . show (if 0 + 1 = L.q then none else some _) = none
    rw [if_pos (by omega)]
  . have:=(List.getElem?_eq_some_iff.mp t1).1
    show 1 <= (qR rows room).length
    omega
  . have e:r = List.range (lv0 rows room).q:=TP.yv _ r h1 fun x=>by
      rw [h2]
      constructor
      . rintro ⟨q,a,b⟩
        exact P.lf0 x q a b
      . intro hx
        exact ⟨_,(P.lf x hx).1,rfl⟩
    rw [e,VY P.ok0 P.lv0 (fun k hk=>(P.lf k hk).1) rfl _ (Nat.le_refl _),(lv0 rows room).s_end,List.take_length]
    rfl
section
variable {S:TR.Sh} {bg:TR.Bg} {rt:TR.Pg} {rows:TP.Rw}
theorem yb (F:PF S bg rt rows) {n:Nat} {r:List Nat} (c:TR.Chain S n r):(∀ m ∈ r,n <= m) /\ r.Pairwise (· < ·):=by
  induction c with
  | @last n p hn hs=>exact ⟨fun m hm=>by rw [List.mem_singleton.mp hm];exact Nat.le_refl _,by simp⟩
  | @next n p s r hn hs c ih =>
    have e:=F.side n p hn s hs
    subst e
    refine ⟨fun m hm=>?_,List.pairwise_cons.mpr ⟨fun m hm=>?_,ih.2⟩⟩
    . rcases List.mem_cons.mp hm with rfl | h
      . exact Nat.le_refl _
      . have:=ih.1 m h;omega
    . have:=ih.1 m hm;omega
theorem Qaq (F:PF S bg rt rows) {ls:List Nat} {rs:List (List Nat)} (lf:TR.Lefts S bg S.top ls) (rws:Rows S ls rs):rs.reverse.flatten = List.range S.pg.length:=by
  have lg:=lf.get F.tree rt F.top
  have rl:=rws.len
  have inf:∀ {i:Nat} {r:List Nat},rs[i]? = some r -> ∃ n q,Row S n r /\ S.pg[n]? = some q /\ q.lv + i = rt.lv:=fun {i r} h=>by
    have il:i < ls.length:=by have:=(List.getElem?_eq_some_iff.mp h).1;omega
    obtain ⟨r',h',row⟩:=rws.get (List.getElem?_eq_getElem il)
    rw [h] at h';cases h'
    obtain ⟨q,q1,q2,_⟩:=lg.2 i _ (List.getElem?_eq_getElem il)
    exact ⟨_,q,row,q1,q2⟩
  refine TP.yv _ _ ?_ fun x=>?_
  . rw [List.pairwise_flatten]
    refine ⟨fun r hr=>?_,List.pairwise_reverse.mpr (List.pairwise_iff_getElem.mpr fun i j hi hj hij x hx y hy=>?_)⟩
    . obtain ⟨i,hi⟩:=List.mem_iff_getElem?.mp (List.mem_reverse.mp hr)
      obtain ⟨n,q,⟨p,_,c,_⟩,_⟩:=inf hi
      exact (yb F c).2
    . obtain ⟨n,q,⟨p,pn,c,_,mem⟩,q1,q2⟩:=inf (List.getElem?_eq_getElem hi)
      obtain ⟨n',q',⟨p',pn',c',_,mem'⟩,q1',q2'⟩:=inf (List.getElem?_eq_getElem hj)
      rw [q1] at pn;cases pn
      rw [q1'] at pn';cases pn'
      obtain ⟨a,a1,a2⟩:=(mem y).mp hy
      obtain ⟨b,b1,b2⟩:=(mem' x).mp hx
      exact F.mono x y b a b1 a1 (by omega)
  . rw [List.mem_flatten]
    constructor
    . rintro ⟨r,hr,hx⟩
      obtain ⟨i,hi⟩:=List.mem_iff_getElem?.mp (List.mem_reverse.mp hr)
      obtain ⟨n,q,⟨p,_,c,_,mem⟩,_⟩:=inf hi
      obtain ⟨a,a1,_⟩:=(mem x).mp hx
      exact (List.getElem?_eq_some_iff.mp a1).1
    . intro hx
      have hp:S.pg[x]? = some S.pg[x]:=List.getElem?_eq_getElem hx
      obtain ⟨r0,h0,top⟩:=F.tree.root
      rw [F.top] at h0;cases h0
      have le:=top x _ hp
      have il:rt.lv - S.pg[x].lv < rs.length:=by rw [rl,lg.1];omega
      obtain ⟨n,q,⟨p,pn,c,_,mem⟩,q1,q2⟩:=inf (List.getElem?_eq_getElem il)
      rw [q1] at pn;cases pn
      exact ⟨_,List.mem_reverse.mpr (List.getElem_mem il),(mem x).mpr ⟨_,hp,by omega⟩⟩
end
theorem V4 (ns:List Int) (k:Nat) (hl:ns.length <= 63):∃ x,QL [.lst (ns.map .int),.int k] = pure (.int x):=by
  by_cases h:k < ns.length
  . have a:=UP (xs:=ns.map DV.int) (j:=k) (v:=.int ns[k]) (by simp [h])
    refine ⟨ns[k],?_⟩
    have h':(k:Int) < (ns.length:Int):=by omega
    simp [QL,Yo,Zl,Qy,QP,Q9,jh,sIf,ZJ,qr,jk,zn,zq,Qh,Qc,eC,eB,asB,Xw,eOr,XD,Yf,jm,jy,eIf,qi,Qk,Qb,JD,ZX,Qt,QU,QA,gN,ZY,Jh,XA,Xc,Xb,XH,JS,Yx,jB,Uo,ZV,XE,qE,ixD,asI,a,h']
  . have h':¬ (k:Int) < (ns.length:Int):=by omega
    exact ⟨0,by simp [QL,Yo,Zl,Qy,QP,Q9,jh,sIf,ZJ,qr,jk,zn,zq,Qh,Qc,eC,eB,asB,Xw,eOr,XD,Yf,jm,jy,eIf,qi,Qk,Qb,JD,ZX,Qt,QU,QA,gN,ZY,Jh,XA,Xc,Xb,XH,JS,Yx,jB,Uo,ZV,XE,qE,h']⟩
def chn (c t:Int):Int:=c % 715827883 + t * t + 3 * t + 11
def QM (c t:Int):Int:=chn c t * chn c t % 715827883 * (chn c t + 7 * t) % 715827883 / 9
theorem X8 (c t:Int) (h0:0 <= t) (h1:t <= 100):Qv [.int c,.int t] = pure (.int (QM c t)):=by
  have a0:0 <= c % 715827883:=Int.emod_nonneg _ (by decide)
  have a1:c % 715827883 < 715827883:=Int.emod_lt_of_pos _ (by decide)
  have tt:0 <= t * t /\ t * t <= 10000:=⟨Int.mul_nonneg h0 h0,by
    have:t * t <= 100 * 100:=Int.mul_le_mul h1 h1 h0 (by decide)
    omega⟩
  have n0:0 <= chn c t /\ chn c t < 2000000000:=by unfold chn;omega
  have q0:0 <= chn c t * chn c t % 715827883:=Int.emod_nonneg _ (by decide)
  have q1:chn c t * chn c t % 715827883 < 715827883:=Int.emod_lt_of_pos _ (by decide)
  refine qh (env:=[.val (.int c),.val (.int t),.val (.int (chn c t))]) ((Zy (JJ (d:=.int (chn c t)) ?_)).trans (Yb ?_))
  . exact Qw (x:=.int (c % 715827883 + t * t + 3 * t)) (y:=.int 11) (Qw (x:=.int (c % 715827883 + t * t)) (y:=.int (3 * t)) (Qw (x:=.int (c % 715827883)) (y:=.int (t * t)) (Qw (x:=.int c) (y:=.int 715827883) rfl rfl (ZC _ _ (by decide))) (Qw (x:=.int t) (y:=.int t) rfl rfl (X3 _ _ (by omega) (by omega))) rfl) (Qw (x:=.int 3) (y:=.int t) rfl rfl (X3 _ _ (by decide) (by decide))) rfl) rfl rfl
  . refine Qw (x:=.int (chn c t * chn c t % 715827883 * (chn c t + 7 * t) % 715827883)) (y:=.int 9) (Qw (x:=.int (chn c t * chn c t % 715827883 * (chn c t + 7 * t))) (y:=.int 715827883) (Qw (x:=.int (chn c t * chn c t % 715827883)) (y:=.int (chn c t + 7 * t)) (Qw (x:=.int (chn c t * chn c t)) (y:=.int 715827883) (Qw (x:=.int (chn c t)) (y:=.int (chn c t)) rfl rfl (X3 _ _ (by omega) (by omega))) rfl (ZC _ _ (by decide))) (Qw (x:=.int (chn c t)) (y:=.int (7 * t)) rfl (Qw (x:=.int 7) (y:=.int t) rfl rfl (X3 _ _ (by decide) (by decide))) rfl) (X3 _ _ (by omega) (by omega))) rfl (ZC _ _ (by decide))) rfl (KI _ _ (by decide) (by decide))
theorem Gj (c k m:Int) (t:En) (h0:0 <= k) (h1:k <= 100) (hm:0 < m):Qh Z2 (Qt 2 Qv (Qb (Qc 0) (Qb (eC (.int k)) Qk))) (eC (.int m)) (.val (.int c) :: t) = pure (.int (QM c k % m)) :=
  Qw (x:=.int (QM c k)) (y:=.int m) (Y7 (x:=.int c) (y:=.int k) rfl rfl (X8 c k h0 h1)) rfl (ZC _ _ hm)
theorem QbD (x:Int) (h:0 <= x):∃ s:Nat,s <= 240 /\ QaU [.int 240,.int x] = pure (.int (s:Int)):=by
  refine ⟨(if x < 240 then x else 240).toNat,by split <;> omega,?_⟩
  show pure (DV.int (if x < 240 then x else 240)) = _
  congr 2
  split <;> omega
theorem Qci (c:Int) (room:Nat) (h2:room <= 50):∃ s:Nat,s <= 240 /\ YV [.int c,.int (room:Int)] = pure (.int (s:Int)):=by
  let kd:=QM c 2 % 4
  let e1:En:=[.val (.int c),.val (.int room),.val (.int kd)]
  have s1:QP 2 (Qh Z2 (Qt 2 Qv (Qb (Qc 0) (Qb (eC (.int 2)) Qk))) (eC (.int 4))) [.val (.int c),.val (.int room),.un] = pure (.nx,e1):=JJ (Gj c 2 4 _ (by decide) (by decide) (by decide))
  have t:∀ j:Int,eB (Qh eqD (Qc 2) (eC (.int j))) e1 = pure (kd == j):=fun j=>VN (Qw (x:=.int kd) (y:=.int j) rfl rfl (ZV _ _))
  have nx:∀ {t:DTx} {A B:DSx} {env:En} {r},t env = pure false -> B env = r -> Qy (sIf t A ZJ) B env = r:=fun h1 h2=>(Zy ((vP h1).trans rfl)).trans h2
  have rt:∀ {t:DTx} {A B:DSx} {env env':En} {d:DV},t env = pure true -> A env = pure (.rt d,env') -> Qy (sIf t A ZJ) B env = pure (.rt d,env'):=fun h1 h2=>uv ((vV h1).trans h2)
  have natm:∀ (k m:Int),0 < m -> m <= 240 -> ∃ s:Nat,s <= 240 /\ QM c k % m = (s:Int):=fun k m h h'=>⟨(QM c k % m).toNat,by have:=Xy (QM c k) m h;omega,by have:=Xy (QM c k) m h;omega⟩
  have r3:=Xy (QM c 3) 3 (by decide)
  have r4:=Xy (QM c 4) 3 (by decide)
  have rr:(room:Int) * ((room:Int) + 1) = ((room * (room + 1):Nat):Int):=by simp
  have rb:room * (room + 1) <= 50 * 51:=Nat.mul_le_mul h2 (by omega)
  by_cases k0:(kd == 0) = true
  . obtain ⟨s,hs,es⟩:=natm 3 10 (by decide) (by decide)
    exact ⟨s,hs,qh (env:=e1) ((Zy s1).trans (rt ((t 0).trans (by rw [k0])) (Yb ((Gj c 3 10 _ (by decide) (by decide) (by decide)).trans (by rw [es])))))⟩
  have f0:=(t 0).trans (by rw [Bool.eq_false_iff.mpr k0])
  by_cases k1:(kd == 1) = true
  . obtain ⟨s,hs,es⟩:=QbD ((room:Int) * ((room:Int) + 1) * (1 + QM c 3 % 3) + QM c 4 % 3 * (room:Int)) (by
      have a:0 <= (room:Int) * ((room:Int) + 1) * (1 + QM c 3 % 3):=Int.mul_nonneg (Int.mul_nonneg (by omega) (by omega)) (by omega)
      have b:0 <= QM c 4 % 3 * (room:Int):=Int.mul_nonneg (by omega) (by omega)
      omega)
    refine ⟨s,hs,qh (env:=e1) ((Zy s1).trans (nx f0 (rt ((t 1).trans (by rw [k1])) (Yb (V5 fun w=>JW (ZH rfl (zy (Qw (x:=.int ((room:Int) * ((room:Int) + 1) * (1 + QM c 3 % 3))) (y:=.int (QM c 4 % 3 * (room:Int))) (Qw (x:=.int ((room:Int) * ((room:Int) + 1))) (y:=.int (1 + QM c 3 % 3)) (Qw (x:=.int room) (y:=.int ((room:Int) + 1)) rfl rfl (X3 _ _ (by omega) (by omega))) (Qw (x:=.int 1) (y:=.int (QM c 3 % 3)) rfl (Gj c 3 3 _ (by decide) (by decide) (by decide)) rfl) (vv _ _ (by omega) (by omega))) (Qw (x:=.int (QM c 4 % 3)) (y:=.int room) (Gj c 4 3 _ (by decide) (by decide) (by decide)) rfl (X3 _ _ (by omega) (by omega))) rfl) w)) (zy es w))))))⟩
  have f1:=(t 1).trans (by rw [Bool.eq_false_iff.mpr k1])
  by_cases k2:(kd == 2) = true
  . have r5:=Xy (QM c 4) (2 * (room:Int) + 1) (by omega)
    obtain ⟨s,hs,es⟩:=QbD ((room:Int) * ((room:Int) + 1) * ((room:Int) + 1) + QM c 4 % (2 * (room:Int) + 1)) (by
      have a:0 <= (room:Int) * ((room:Int) + 1) * ((room:Int) + 1):=Int.mul_nonneg (Int.mul_nonneg (by omega) (by omega)) (by omega)
      omega)
    refine ⟨s,hs,qh (env:=e1) ((Zy s1).trans (nx f0 (nx f1 (rt ((t 2).trans (by rw [k2])) (Yb (V5 fun w=>JW (ZH rfl (zy (Qw (x:=.int ((room:Int) * ((room:Int) + 1) * ((room:Int) + 1))) (y:=.int (QM c 4 % (2 * (room:Int) + 1))) (Qw (x:=.int ((room:Int) * ((room:Int) + 1))) (y:=.int ((room:Int) + 1)) (Qw (x:=.int room) (y:=.int ((room:Int) + 1)) rfl rfl (X3 _ _ (by omega) (by omega))) rfl (vv _ _ (by omega) (by omega))) (Qw (x:=.int (QM c 4)) (y:=.int (2 * (room:Int) + 1)) (Y7 (x:=.int c) (y:=.int 4) rfl rfl (X8 c 4 (by decide) (by decide))) (Qw (x:=.int (2 * (room:Int))) (y:=.int 1) (Qw (x:=.int 2) (y:=.int room) rfl rfl (X3 _ _ (by decide) (by decide))) rfl rfl) (ZC _ _ (by omega))) rfl) w)) (zy es w)))))))⟩
  . obtain ⟨s,hs,es⟩:=natm 3 200 (by decide) (by decide)
    exact ⟨s,hs,qh (env:=e1) ((Zy s1).trans (nx f0 (nx f1 (nx ((t 2).trans (by rw [Bool.eq_false_iff.mpr k2])) (Yb ((Gj c 3 200 _ (by decide) (by decide) (by decide)).trans (by rw [es])))))))⟩
theorem Qbo (ns:List Int) (i:Int) (h0:0 <= i) (hl:ns.length <= 63):∃ x,QL [.lst (ns.map .int),.int i] = pure (.int x):=by
  obtain ⟨x,e⟩:=V4 ns i.toNat hl
  exact ⟨x,by rw [<- e,Int.toNat_of_nonneg h0]⟩
theorem QaV (ns:List Int) (hl:ns.length <= 63) (s:DV) (key wd:Int) (hw:wd = 0 ∨ wd = 1 ∨ wd = 2) (rows:TP.Rw) (hr:rows.length <= 1000) (i:Nat) (z6 z7:Sl) :
    ∃ (key' wt:Int) (y6 y7:Sl),key < key' /\ Yp [.val (.lst (ns.map .int)),.val s,.val (.int key),.val (.int wd),.acc (prD rows),.val (.int (i:Int)),z6,z7] = pure (.nx,[.val (.lst (ns.map .int)),.val s,.val (.int key'),.val (.int wd),.acc (prD (rows ++ [(key,wt)])),.val (.int (i:Int)),y6,y7]):=by
  let S:DV:=.lst (ns.map .int)
  have mx:QU gF (Qb (eC (.int 1)) (Qb (QU qE (Qb (Qc 0) Qk)) Qk)) [.val S,.val s,.val (.int key),.val (.int wd),.acc (prD rows),.val (.int (i:Int)),z6,z7] = pure (.int (if (ns.length:Int) > 1 then ns.length else 1)):=by
    simp [QU,Qb,Qk,eC,Qc,qE,gF,S]
  have mp:0 < (if (ns.length:Int) > 1 then (ns.length:Int) else 1):=by split <;> omega
  obtain ⟨x,ex⟩:=Qbo ns ((i:Int) % (if (ns.length:Int) > 1 then (ns.length:Int) else 1)) (Int.emod_nonneg _ (by omega)) hl
  let cell:=x + (i:Int)
  let E:Int -> Sl -> Sl -> Sl -> En:=fun k a z6 z7=>[.val S,.val s,.val (.int k),.val (.int wd),a,.val (.int (i:Int)),z6,z7]
  have s6:QP 6 (Qh Zb (Qt 2 QL (Qb (Qc 0) (Qb (Qh Z2 (Qc 5) (QU gF (Qb (eC (.int 1)) (Qb (QU qE (Qb (Qc 0) Qk)) Qk)))) Qk))) (Qc 5)) (E key (.acc (prD rows)) z6 z7) = pure (.nx,E key (.acc (prD rows)) (.val (.int cell)) z7) :=
    JJ (Qw (x:=.int x) (y:=.int i) (Y7 (x:=S) (y:=.int ((i:Int) % (if (ns.length:Int) > 1 then (ns.length:Int) else 1))) rfl (Qw (x:=.int i) rfl mx (ZC _ _ mp)) ex) rfl rfl)
  have ch:∀ (k m:Int) (a z7:Sl),0 <= k -> k <= 100 -> 0 < m -> Qh Z2 (Qt 2 Qv (Qb (Qc 6) (Qb (eC (.int k)) Qk))) (eC (.int m)) (E key a (.val (.int cell)) z7) = pure (.int (QM cell k % m)):=fun k m a z7 h0 h1 hm =>
    Qw (x:=.int (QM cell k)) (y:=.int m) (Y7 (x:=.int cell) (y:=.int k) rfl rfl (X8 cell k h0 h1)) rfl (ZC _ _ hm)
  have s7:QP 7 (Qh XW (Qh Z2 (Qt 2 Qv (Qb (Qc 6) (Qb (eC (.int 7)) Qk))) (eC (.int 9))) (eC (.int 4))) (E key (.acc (prD rows)) (.val (.int cell)) z7) = pure (.nx,E key (.acc (prD rows)) (.val (.int cell)) (.val (.int (QM cell 7 % 9 - 4)))) :=
    JJ (Qw (x:=.int (QM cell 7 % 9)) (y:=.int 4) (ch 7 9 _ _ (by decide) (by decide) (by decide)) rfl rfl)
  have sI:∃ wt:Int,sIf (eB (Qh eqD (Qh Z2 (Qt 2 Qv (Qb (Qc 6) (Qb (eC (.int 8)) Qk))) (eC (.int 3))) (eC (.int 0)))) (QP 7 (Qh XW (Qh Z2 (Qh Zb (Qh JT (Qc 6) (eC (.int 13))) (Qh Yt (eC (.int 10)) (eC (.int 30)))) (Qh Zb (Qh JT (eC (.int 2)) (Qh Yt (eC (.int 10)) (eC (.int 30)))) (eC (.int 1)))) (Qh Yt (eC (.int 10)) (eC (.int 30))))) ZJ (E key (.acc (prD rows)) (.val (.int cell)) (.val (.int (QM cell 7 % 9 - 4)))) = pure (.nx,E key (.acc (prD rows)) (.val (.int cell)) (.val (.int wt))):=by
    have t:eB (Qh eqD (Qh Z2 (Qt 2 Qv (Qb (Qc 6) (Qb (eC (.int 8)) Qk))) (eC (.int 3))) (eC (.int 0))) (E key (.acc (prD rows)) (.val (.int cell)) (.val (.int (QM cell 7 % 9 - 4)))) = pure (QM cell 8 % 3 == 0):=VN (Qw (x:=.int (QM cell 8 % 3)) (y:=.int 0) (ch 8 3 _ _ (by decide) (by decide) (by decide)) rfl (ZV _ _))
    by_cases c:(QM cell 8 % 3 == 0) = true
    . refine ⟨(cell * 13 + 1000000000000000000000000000000) % (2 * 1000000000000000000000000000000 + 1) - 1000000000000000000000000000000,(vV (t.trans (by rw [c]))).trans (JJ ?_)⟩
      exact Qw (x:=.int ((cell * 13 + 1000000000000000000000000000000) % (2 * 1000000000000000000000000000000 + 1))) (y:=.int 1000000000000000000000000000000) (Qw (x:=.int (cell * 13 + 1000000000000000000000000000000)) (y:=.int (2 * 1000000000000000000000000000000 + 1)) (Qw (x:=.int (cell * 13)) (y:=.int 1000000000000000000000000000000) (Qw (x:=.int cell) (y:=.int 13) rfl rfl (vv _ _ (by decide) (by decide))) Yx rfl) (Qw (x:=.int (2 * 1000000000000000000000000000000)) (y:=.int 1) (Qw (x:=.int 2) (y:=.int 1000000000000000000000000000000) rfl Yx (X3 _ _ (by decide) (by decide))) rfl rfl) (ZC _ _ (by decide))) Yx (Jh _ _)
    . exact ⟨_,(vP (t.trans (by rw [Bool.eq_false_iff.mpr c]))).trans rfl⟩
  obtain ⟨wt,eI⟩:=sI
  have sA:zq 4 (JD (Qb (Qc 2) (Qb (Qc 7) Qk))) (E key (.acc (prD rows)) (.val (.int cell)) (.val (.int wt))) = pure (.nx,E key (.acc (prD (rows ++ [(key,wt)]))) (.val (.int cell)) (.val (.int wt))):=V5 fun w=>by
    refine (vg (d:=.tup [.int key,.int wt]) (ds:=prD rows) (x9 (ZH (var_at rfl) (var_at rfl)) (Nat.le_of_ble_eq_true rfl)) rfl (by rw [Yd];omega)).trans ?_
    show some ((Fl.nx,E key (.acc (prD rows ++ [.tup [.int key,.int wt]])) _ _),w) = _
    rw [show prD rows ++ [DV.tup [.int key,.int wt]] = prD (rows ++ [(key,wt)]) by rw [<- uj];rfl]
  have sK:∃ key':Int,key < key' /\ Qh Zb (Qh Zb (Qc 2) (eC (.int 1))) (Qh JT (Qh Z2 (Qt 2 Qv (Qb (Qc 6) (Qb (eC (.int 9)) Qk))) (Qh ixD (ZX (Qb (eC (.int 1)) (Qb (eC (.int 3)) (Qb (Qh JT (eC (.int 8)) (Qh Yt (eC (.int 10)) (eC (.int 7)))) Qk)))) (Qc 3))) (Qh ixD (ZX (Qb (eC (.int 1)) (Qb (eC (.int 1)) (Qb (Qh Yt (eC (.int 10)) (eC (.int 19))) Qk)))) (Qc 3))) (E key (.acc (prD (rows ++ [(key,wt)]))) (.val (.int cell)) (.val (.int wt))) = pure (.int key'):=by
    let e:=E key (.acc (prD (rows ++ [(key,wt)]))) (.val (.int cell)) (.val (.int wt))
    have c9:Qt 2 Qv (Qb (Qc 6) (Qb (eC (.int 9)) Qk)) e = pure (.int (QM cell 9)):=Y7 (x:=.int cell) (y:=.int 9) rfl rfl (X8 cell 9 (by decide) (by decide))
    have l1:ZX (Qb (eC (.int 1)) (Qb (eC (.int 3)) (Qb (Qh JT (eC (.int 8)) (Qh Yt (eC (.int 10)) (eC (.int 7)))) Qk))) e = pure (.lst [.int 1,.int 3,.int 80000000]):=rfl
    have l2:ZX (Qb (eC (.int 1)) (Qb (eC (.int 1)) (Qb (Qh Yt (eC (.int 10)) (eC (.int 19))) Qk))) e = pure (.lst [.int 1,.int 1,.int 10000000000000000000]):=rfl
    have fin:∀ (A B:Int),0 < A -> A <= 80000000 -> 0 < B -> ixD (.lst [.int 1,.int 3,.int 80000000]) (.int wd) = pure (.int A) -> ixD (.lst [.int 1,.int 1,.int 10000000000000000000]) (.int wd) = pure (.int B) -> ∃ key':Int,key < key' /\ Qh Zb (Qh Zb (Qc 2) (eC (.int 1))) (Qh JT (Qh Z2 (Qt 2 Qv (Qb (Qc 6) (Qb (eC (.int 9)) Qk))) (Qh ixD (ZX (Qb (eC (.int 1)) (Qb (eC (.int 3)) (Qb (Qh JT (eC (.int 8)) (Qh Yt (eC (.int 10)) (eC (.int 7)))) Qk)))) (Qc 3))) (Qh ixD (ZX (Qb (eC (.int 1)) (Qb (eC (.int 1)) (Qb (Qh Yt (eC (.int 10)) (eC (.int 19))) Qk)))) (Qc 3))) e = pure (.int key'):=fun A B hA hA2 hB h1 h2=>by
      have r:=Xy (QM cell 9) A hA
      exact ⟨key + 1 + QM cell 9 % A * B,by have:=Int.mul_nonneg r.1 (Int.le_of_lt hB);omega,Qw (x:=.int (key + 1)) (y:=.int (QM cell 9 % A * B)) rfl (Qw (x:=.int (QM cell 9 % A)) (y:=.int B) (Qw (x:=.int (QM cell 9)) (y:=.int A) c9 (Qw l1 (y:=.int wd) rfl h1) (ZC _ _ hA)) (Qw l2 (y:=.int wd) rfl h2) (X3 _ _ (by omega) (by omega))) rfl⟩
    rcases hw with rfl | rfl | rfl
    . exact fin 1 1 (by decide) (by decide) (by decide) rfl rfl
    . exact fin 3 1 (by decide) (by decide) (by decide) rfl rfl
    . exact fin 80000000 10000000000000000000 (by decide) (by decide) (by decide) rfl rfl
  obtain ⟨key',lk,eK⟩:=sK
  exact ⟨key',wt,_,_,lk,(Zy s6).trans ((Zy s7).trans ((Zy eI).trans ((Zy sA).trans (JJ eK))))⟩
theorem Qbr (ns:List Int) (hl:ns.length <= 63) (s:Nat) (hs:s <= 240):∃ rows:TP.Rw,rows.length = s /\ rows.Pairwise (fun a b=>a.1 < b.1) /\ Ya [.lst (ns.map .int),.int (s:Int)] = pure (.lst (prD rows)):=by
  let S:DV:=.lst (ns.map .int)
  obtain ⟨x,ex⟩:=V4 ns 1 hl
  let wd:=QM x 6 % 3
  have hw:wd = 0 ∨ wd = 1 ∨ wd = 2:=by have:=Xy (QM x 6) 3 (by decide);show QM x 6 % 3 = 0 ∨ QM x 6 % 3 = 1 ∨ QM x 6 % 3 = 2;omega
  have cc:∀ (k:Int) (e:En),0 <= k -> k <= 100 -> Qc 0 e = pure S -> Qt 2 Qv (Qb (Qt 2 QL (Qb (Qc 0) (Qb (eC (.int 1)) Qk))) (Qb (eC (.int k)) Qk)) e = pure (.int (QM x k)):=fun k e h0 h1 hv =>
    Y7 (x:=.int x) (y:=.int k) (Y7 (x:=S) (y:=.int 1) hv rfl ex) rfl (X8 x k h0 h1)
  let E:DV -> Sl -> Sl -> En:=fun k w a=>[.val S,.val (.int s),.val k,w,a,.un,.un,.un]
  have s2:QP 2 (Qh XW (Qh Z2 (Qt 2 Qv (Qb (Qt 2 QL (Qb (Qc 0) (Qb (eC (.int 1)) Qk))) (Qb (eC (.int 5)) Qk))) (eC (.int 40))) (eC (.int 30))) [.val S,.val (.int s),.un,.un,.un,.un,.un,.un] = pure (.nx,E (.int (QM x 5 % 40 - 30)) .un .un) :=
    JJ (Qw (x:=.int (QM x 5 % 40)) (y:=.int 30) (Qw (x:=.int (QM x 5)) (y:=.int 40) (cc 5 _ (by decide) (by decide) rfl) rfl (ZC _ _ (by decide))) rfl rfl)
  have s3:QP 3 (Qh Z2 (Qt 2 Qv (Qb (Qt 2 QL (Qb (Qc 0) (Qb (eC (.int 1)) Qk))) (Qb (eC (.int 6)) Qk))) (eC (.int 3))) (E (.int (QM x 5 % 40 - 30)) .un .un) = pure (.nx,E (.int (QM x 5 % 40 - 30)) (.val (.int wd)) .un) :=
    JJ (Qw (x:=.int (QM x 6)) (y:=.int 3) (cc 6 _ (by decide) (by decide) rfl) rfl (ZC _ _ (by decide)))
  have sI:∃ k0:Int,sIf (eB (Qh eqD (Qc 3) (eC (.int 2)))) (QP 2 (Qh XW (Qt 2 Qv (Qb (Qt 2 QL (Qb (Qc 0) (Qb (eC (.int 1)) Qk))) (Qb (eC (.int 5)) Qk))) (Qh Yt (eC (.int 10)) (eC (.int 30))))) ZJ (E (.int (QM x 5 % 40 - 30)) (.val (.int wd)) .un) = pure (.nx,E (.int k0) (.val (.int wd)) .un):=by
    have t:eB (Qh eqD (Qc 3) (eC (.int 2))) (E (.int (QM x 5 % 40 - 30)) (.val (.int wd)) .un) = pure (wd == 2):=VN (Qw (x:=.int wd) (y:=.int 2) rfl rfl (ZV _ _))
    by_cases c:(wd == 2) = true
    . exact ⟨QM x 5 - 1000000000000000000000000000000,(vV (t.trans (by rw [c]))).trans (JJ (Qw (x:=.int (QM x 5)) (y:=.int 1000000000000000000000000000000) (cc 5 _ (by decide) (by decide) rfl) Yx rfl))⟩
    . exact ⟨_,(vP (t.trans (by rw [Bool.eq_false_iff.mpr c]))).trans rfl⟩
  obtain ⟨k0,eI⟩:=sI
  have L:=Kr (b:=fun d env=>(gN 5 d env >>= fun env'=>Yp env'))
    (fun i env=>∃ (rows:TP.Rw) (key:Int) (z5 z6 z7:Sl),env = [.val S,.val (.int s),.val (.int key),.val (.int wd),.acc (prD rows),z5,z6,z7] /\ rows.length = i /\ rows.Pairwise (fun a b=>a.1 < b.1) /\ ∀ r ∈ rows,r.1 < key)
    s (E (.int k0) (.val (.int wd)) (.acc [])) ⟨[], k0, .un, .un, .un, rfl, rfl, .nil, fun r hr => by cases hr⟩ (fun i hi env ⟨rows, key, z5, z6, z7, e, hr, hp, hk⟩ => by
      subst e
      obtain ⟨key',wt,y6,y7,lk,er⟩:=QaV ns hl (.int s) key wd hw rows (by omega) i z6 z7
      exact ⟨_,er,rows ++ [(key,wt)],key',_,y6,y7,rfl,by simp [hr],List.pairwise_append.mpr ⟨hp,by simp,fun a ha b hb=>by rw [List.mem_singleton.mp hb];exact hk a ha⟩,fun r hr=>by
        rcases List.mem_append.mp hr with h | h
        . have:=hk r h;omega
        . rw [List.mem_singleton.mp h];exact lk⟩)
  obtain ⟨env',e,rows,key,z5,z6,z7,rfl,hr,hp,_⟩:=L
  refine ⟨rows,hr,hp,qh (env:=[.val S,.val (.int s),.val (.int key),.val (.int wd),.val (.lst (prD rows)),z5,z6,z7]) ?_⟩
  have loop:zC (E (.int k0) (.val (.int wd)) (.acc [])) = pure (.nx,[.val S,.val (.int s),.val (.int key),.val (.int wd),.acc (prD rows),z5,z6,z7]):=(GA (m:=(s:Int)) (by simp [Qb,Qk,Qc,E]) (by omega) (by omega)).trans e
  exact (Zy s2).trans ((Zy s3).trans ((Zy eI).trans ((Zy (rfl:zn 4 _ = pure (.nx,E (.int k0) (.val (.int wd)) (.acc [])))).trans ((Zy loop).trans (show Q9 (Qc 4) [.val S,.val (.int s),.val (.int key),.val (.int wd),.val (.lst (prD rows)),z5,z6,z7] = _ from Yb rfl)))))
theorem QaX (n:Nat):nD (List.range n) = QN 0 n:=by
  unfold nD QN
  refine List.map_congr_left fun i _=>?_
  congr 1;omega
theorem Qev (r:List Nat):∀ d ∈ nD r,Pl 0 d:=fun d hd=>by
  obtain ⟨m,_,rfl⟩:=List.mem_map.mp hd
  exact UT _ _
theorem Qer (rows:TP.Rw):∀ d ∈ prD rows,Pl 1 d:=fun d hd=>by
  obtain ⟨p,_,rfl⟩:=List.mem_map.mp hd
  exact fun x hx=>by simp only [List.mem_cons,List.not_mem_nil,or_false] at hx;rcases hx with rfl | rfl <;> exact UT _ _
theorem QbW {xs ys:List DV} {a:Nat} {hp:Hs} (h:hp[a]? = some (.lst ys)) (hl:xs.length + ys.length <= 100000):Qa2 (.lst xs) (.ref a) hp = some (.lst (xs ++ ys),hp):=by
  unfold Qa2
  rw [Qf (hp1:=hp) (rfl:lsG (.lst xs) hp = some (xs,hp))]
  have e:lsG (.ref a) hp = some (ys,hp):=by
    show (Zi a >>= _) hp = _
    rw [Qf (QY h)];rfl
  rw [Qf e]
  have s:Xs (xs ++ ys) = true:=decide_eq_true (by rw [List.length_append];exact hl)
  rw [s];rfl
def Kp (w w':Hs):Prop:=∀ (i:Nat) (x:OV),w[i]? = some x -> w'[i]? = some x
theorem Kp.app (w t:Hs):Kp w (w ++ t):=fun _ _ h=>Qr h
theorem Kp.wk (w:Hs) (rs:List (List Nat)):Kp w (Wk w rs):=fun i x h=>by
  rw [GM (List.getElem?_eq_some_iff.mp h).1];exact h
theorem Kp.trans {a b c:Hs} (h:Kp a b) (h':Kp b c):Kp a c:=fun i x hx=>h' i x (h i x hx)
section
variable {S:TR.Sh} {bg:TR.Bg} {rt:TR.Pg} {rows:TP.Rw}
theorem PF.hN (F:PF S bg rt rows):(rt.lv + 1) * S.pg.length < 80000:=by
  have:=Nat.mul_le_mul (show rt.lv + 1 <= 12 from F.lv12) F.len
  omega
theorem PF.hM (F:PF S bg rt rows):S.pg.length * (S.room + 1) < 90000:=by
  have:=Nat.mul_le_mul F.len (show S.room + 1 <= 9 by have:=F.room;omega)
  omega
theorem QeO (F:PF S bg rt rows) {w:Hs} {n k:Nat} {rm a b:Int} (h1:w[n]? = some (.ins "Shelf" (shF rm k (S.top:Int) a b))) (h2:w[k]? = some (.lst (S.pg.map pgD))) :
    ∃ hp':Hs,Z0 [.ref n] w = some (.ref w.length,hp') /\ hp'[w.length]? = some (.lst (prD rows)) /\ Kp w hp':=by
  obtain ⟨c,r,hp',⟨p,p1,ch,nd,mem⟩,_,z,e,q,kp⟩:=Qa0 F.tree (by have:=F.room;omega) F.top F.hN F.hM h1 h2
  rw [F.tab r (yb F ch).2 fun m=>by rw [mem,z p p1]] at q
  exact ⟨hp',e,q,kp⟩
theorem Qax (F:PF S bg rt rows) {n:Nat} {T:DV} {ls:List Nat} {rs:List (List Nat)} (lf:TR.Lefts S bg S.top ls) (rws:Rows S ls rs) (rl:rs.length <= 12) (w:Hs) :
    ∃ z3:Sl,zS (nxD (Xp (w.length + 2) rs.length).reverse) (fun d env=>do let env' <- gN 3 d env;Xz env') 100000 0 [.val (.ref n),.val T,.val (.lst []),.un] (Wk w rs) = some ((.nx,[.val (.ref n),.val T,.val (.lst (nD (List.range S.pg.length))),z3]),Wk w rs):=by
  let ds:=(Xp (w.length + 2) rs.length).reverse
  have dl:ds.length = rs.length:=by simp [ds,Jf]
  let Z:Nat -> Sl:=fun i=>match i with
    | 0=>.un
    | i + 1=>.val (ds.getD i .non)
  let J:Nat -> En:=fun i=>[.val (.ref n),.val T,.val (.lst (nD (rs.reverse.take i).flatten)),Z i]
  have fa:=Qaq F lf rws
  have:=ju (b:=fun d env=>do let env' <- gN 3 d env;Xz env') J (fun _=>Wk w rs) ds (by omega) (fun i d hd=>by
    have il:i < rs.length:=by have:=(List.getElem?_eq_some_iff.mp hd).1;omega
    have il':i < rs.reverse.length:=by rw [List.length_reverse];exact il
    have di:d = .ref (w.length + 2 + (rs.length - 1 - i)):=by
      have:ds[i]? = _:=List.getElem?_reverse (by rw [Jf];exact il)
      rw [this,Jf,JH (by omega)] at hd
      exact (Option.some.inj hd).symm
    have ri:rs[rs.length - 1 - i]? = some rs.reverse[i]:=by
      rw [<- List.getElem?_reverse il];exact List.getElem?_eq_getElem il'
    have zd:Z (i + 1) = .val d:=by
      show Sl.val (ds.getD i .non) = _
      rw [List.getD_eq_getElem?_getD,hd];rfl
    have tk:rs.reverse.take (i + 1) = rs.reverse.take i ++ [rs.reverse[i]]:=List.take_succ_eq_append_getElem il'
    have bl:(rs.reverse.take (i + 1)).flatten.length <= 2000:=by
      have h:=congrArg (fun x:List (List Nat)=>x.flatten.length) (List.take_append_drop (i + 1) rs.reverse)
      simp only [List.flatten_append,List.length_append] at h
      have h2:=congrArg List.length fa
      rw [List.length_range] at h2
      have:=F.len
      omega
    have fs:[rs.reverse[i]].flatten = rs.reverse[i]:=by simp
    rw [tk,List.flatten_append,List.length_append,fs] at bl
    show Xz [.val (.ref n),.val T,.val (.lst (nD (rs.reverse.take i).flatten)),.val d] (Wk w rs) = _
    have ad:Qh Qa2 (Qc 2) (Qc 3) [.val (.ref n),.val T,.val (.lst (nD (rs.reverse.take i).flatten)),.val d] (Wk w rs) = some (.lst (nD (rs.reverse.take (i + 1)).flatten),Wk w rs):=by
      refine Qu (var_at rfl) (var_at rfl) ?_
      rw [di,QbW (vb ri) (by rw [Je,Je];omega),Qaf,tk,List.flatten_append,fs]
    refine (Qs ad).trans ?_
    show some ((Fl.nx,[.val (.ref n),.val T,.val (.lst (nD (rs.reverse.take (i + 1)).flatten)),.val d]),Wk w rs) = some ((Fl.nx,[.val (.ref n),.val T,.val (.lst (nD (rs.reverse.take (i + 1)).flatten)),Z (i + 1)]),Wk w rs)
    rw [zd])
  refine ⟨Z ds.length,this.trans ?_⟩
  show some ((Fl.nx,[.val (.ref n),.val T,.val (.lst (nD (rs.reverse.take ds.length).flatten)),Z ds.length]),Wk w rs) = _
  rw [dl,<- List.length_reverse,List.take_length,fa]
theorem UN (F:PF S bg rt rows) {w:Hs} {n k:Nat} {rm a b:Int} (h1:w[n]? = some (.ins "Shelf" (shF rm k (S.top:Int) a b))) (h2:w[k]? = some (.lst (S.pg.map pgD))) :
    ∃ w',Jp [.ref n,.lst (prD rows)] w = some (.bl true,w') /\ Kp w w':=by
  have hr:S.room <= 100:=by have:=F.room;omega
  let T:DV:=.lst (prD rows)
  obtain ⟨t1,x1,f1,g1⟩:=VW F.tree hr F.top F.hN h1 h2
  let w1:=w ++ t1
  obtain ⟨t2,f2⟩:=kT F.tree hr F.top F.hN (w:=w1) (Qr h1) (Qr h2)
  let w2:=w1 ++ t2
  obtain ⟨t3,x3,f3,g3⟩:=kA F.tree F.top F.hN F.hM F.told (w:=w2) (Qr (Qr h1)) (Qr (Qr h2))
  let w3:=w2 ++ t3
  have k3:Kp w w3:=((Kp.app w t1).trans (Kp.app w1 t2)).trans (Kp.app w2 t3)
  obtain ⟨w4,f4,g4,k4⟩:=QeO F (w:=w3) (k3 _ _ h1) (k3 _ _ h2)
  have kw4:Kp w w4:=k3.trans k4
  obtain ⟨ls,rs,lf,ll,rws,f5⟩:=VU F.tree F.top F.hN (w:=w4) (kw4 _ _ h1) (kw4 _ _ h2)
  have rl:rs.length <= 12:=by rw [rws.len,ll];exact F.lv12
  have kw5:Kp w (Wk w4 rs):=kw4.trans (Kp.wk w4 rs)
  obtain ⟨z3,f6⟩:=Qax F (n:=n) (T:=T) lf rws rl w4
  let e0:En:=[.val (.ref n),.val T,.un,.un]
  let e1:En:=[.val (.ref n),.val T,.val (.lst []),.un]
  let e2:En:=[.val (.ref n),.val T,.val (.lst (nD (List.range S.pg.length))),z3]
  refine ⟨Wk w4 rs,Q3 (env:=e2) ?_,kw5⟩
  have c1:eB (Qh neG (Qt 1 X5 (Qb (Qc 0) Qk)) (ZX Qk)) e0 w = some (false,w1):=Zg (Qu (x:=.ref x1) (y:=.lst []) (QO (Zh (var_at rfl)) rfl f1) rfl (yj (n:=0) g1 (fun d hd=>by cases hd) (by decide)))
  have c2:eB (Qh yi (Qt 1 XU (Qb (Qc 0) Qk)) (eC (.bl true))) e0 w1 = some (false,w2):=Zg (Qu (x:=.bl true) (y:=.bl true) (QO (Zh (var_at rfl)) rfl f2) rfl rfl)
  have c3:eB (Qh neG (Qt 1 qL (Qb (Qc 0) Qk)) (ZX Qk)) e0 w2 = some (false,w3):=Zg (Qu (x:=.ref x3) (y:=.lst []) (QO (Zh (var_at rfl)) rfl f3) rfl (yj (n:=0) g3 (fun d hd=>by cases hd) (by decide)))
  have c4:eB (Qh neG (Qt 1 Z0 (Qb (Qc 0) Qk)) (Qc 1)) e0 w3 = some (false,w4):=Zg (Qu (x:=.ref w3.length) (y:=T) (QO (Zh (var_at rfl)) rfl f4) (var_at rfl) (yj g4 (Qer rows) (by decide)))
  refine (Qo ((JO (((zH c1).trans ((zH c2).trans ((zH c3).trans c4))))).trans JQ)).trans ?_
  refine (Qo (env1:=e1) (hp1:=w4) (Qs rfl)).trans ?_
  have rv:uw (Qt 1 Z1 (Qb (Qc 0) Qk)) e1 w4 = some (.lst (Xp (w4.length + 2) rs.length).reverse,Wk w4 rs):=by
    unfold uw
    have cl:Qt 1 Z1 (Qb (Qc 0) Qk) e1 w4 = some (.ref w4.length,Wk w4 rs):=QO (Zh (var_at rfl)) rfl f5
    rw [Qf cl]
    have e:lsG (.ref w4.length) (Wk w4 rs) = some (Xp (w4.length + 2) rs.length,Wk w4 rs):=by
      show (Zi _ >>= _) _ = _
      rw [Qf (QY (GC w4 rs))];rfl
    rw [Qf e];rfl
  refine (Qo (YZ (XM rv) f6)).trans (Q5 ?_)
  have h1':=kw5 _ _ h1
  have pgs:Zt "Shelf" "pages" 1 ZF (Qc 0) Qk e2 (Wk w4 rs) = some (.int S.pg.length,Wk w4 rs):=Ja (a:=n) (var_at rfl) h1' (Kl ..) zB rfl (by rw [kY h1' (kw5 _ _ h2),List.length_map])
  have lr:Ka (Qb (Zt "Shelf" "pages" 1 ZF (Qc 0) Qk) Qk) e2 (Wk w4 rs) = some (.lst (nD (List.range S.pg.length)),Wk w4 rs):=by
    unfold Ka
    rw [Qf (Zh pgs)]
    show (QA (decide ((0:Int) <= (S.pg.length:Int) /\ (S.pg.length:Int) <= 100000)) >>= _) _ = _
    rw [decide_eq_true (by have:=F.len;omega),QaX];rfl
  refine (Ky (b:=true) (Qu (var_at rfl) lr (Go (QdC (Qev _)) (by decide) _))).trans ?_
  rw [if_pos rfl]
  have lst:Qh ixG (Qc 2) (qi (eC (.int 1))) e2 (Wk w4 rs) = some (.int (S.top:Int),Wk w4 rs):=by
    refine Qu (var_at rfl) (y:=.int (-1)) rfl ?_
    show (qP (atI (nD (List.range S.pg.length)) (-1))) _ = _
    have:atI (nD (List.range S.pg.length)) (-1) = some (.int (S.top:Int)):=by
      unfold atI
      rw [Je,List.length_range,KK F.pos]
      show (nD (List.range S.pg.length))[S.pg.length - 1]? = _
      rw [jV (n:=S.pg.length - 1) (List.getElem?_range (by have:=F.pos;omega)),F.tops]
    rw [this];rfl
  exact Qu lst (Ja (a:=n) (var_at rfl) h1' (XY ..) zB rfl (jt h1')) (Go (UT 0 _) (by decide) _)
theorem Qem (F:PF S bg rt rows) {w:Hs} {n k:Nat} {rm a b:Int} (h1:w[n]? = some (.ins "Shelf" (shF rm k (S.top:Int) a b))) (h2:w[k]? = some (.lst (S.pg.map pgD))) :
    ∃ rs:List (List Nat),Z1 [.ref n] w = some (.ref w.length,Wk w rs) /\ rs[0]? = some [S.top] /\ 0 < rs.length:=by
  obtain ⟨ls,rs,lf,ll,rws,f5⟩:=VU F.tree F.top F.hN h1 h2
  have l0:ls[0]? = some S.top:=by cases lf <;> rfl
  obtain ⟨r,r1,p,p1,ch,_⟩:=rws.get l0
  refine ⟨rs,f5,?_,by rw [rws.len,ll];omega⟩
  rw [r1]
  cases ch with
  | last _ _=>rfl
  | next a b c=>rw [F.top] at a;cases a;rw [F.sd] at b;cases b
end
theorem Uz {rows:TP.Rw} {room:Nat} (r2:2 <= room) (r8:room <= 8) (hs:rows.Pairwise (fun a b=>a.1 < b.1)) (hl:rows.length <= 300) {w:Hs} {T:DV} (hT:RowsAt w T rows) :
    ∃ (n:Nat) (w':Hs) (bg:TR.Bg) (rt:TR.Pg) (a b:Int),XX [T,.int (room:Int)] w = some (.ref n,w') /\ Kp w w' /\ PF (shP rows room) bg rt rows /\ w'[n]? = some (.ins "Shelf" (shF room (n + 1) ((shP rows room).top:Int) a b)) /\ w'[n + 1]? = some (.lst ((shP rows room).pg.map pgD)):=by
  obtain ⟨t,e1,p1,q1⟩:=gC hT r2 (by omega) hl
  have pp:=Qa9 (rows:=rows) (room:=room) r2 hs
  have pl:(qk rows room).length = (qR rows room).length:=by rw [pp,List.length_map]
  rw [pl] at e1 p1 q1
  rw [pp] at e1
  obtain ⟨bg,rt,F⟩:=QeI r2 r8 hs hl q1
  exact ⟨_,_,bg,rt,_,_,e1,fun i x h=>by
    have hi:i < w.length:=(List.getElem?_eq_some_iff.mp h).1
    rw [uD (by rw [List.length_append];omega)];exact Qr h,F,yJ ..,uZ ..⟩
theorem RowsAt.kp {w w':Hs} {T:DV} {rows:TP.Rw} (h:RowsAt w T rows) (k:Kp w w'):RowsAt w' T rows:=by
  rcases h with rfl | ⟨n,rfl,hn⟩
  . exact .inl rfl
  . exact .inr ⟨n,rfl,k _ _ hn⟩
theorem Qa8 (ns:List Int) (h:ns.length <= 63):∃ hp,Kf [.lst (ns.map .int)] [] = some (.bl true,hp):=by
  let X:DV:=.lst (ns.map .int)
  obtain ⟨c,ec⟩:=V4 ns 0 h
  have rr:=Xy (QM c 1) 7 (by decide)
  obtain ⟨room,er,r2,r8⟩:∃ room:Nat,2 + QM c 1 % 7 = (room:Int) /\ 2 <= room /\ room <= 8:=⟨(2 + QM c 1 % 7).toNat,by omega,by omega,by omega⟩
  have rr':=Xy (QM c 11) 7 (by decide)
  obtain ⟨oth,eo,o2,o8⟩:∃ oth:Nat,2 + QM c 11 % 7 = (oth:Int) /\ 2 <= oth /\ oth <= 8:=⟨(2 + QM c 11 % 7).toNat,by omega,by omega,by omega⟩
  obtain ⟨sz,hs,es⟩:=Qci c room (by omega)
  obtain ⟨rows,hr,ris,et⟩:=Qbr ns h sz hs
  let T:DV:=.lst (prD rows)
  obtain ⟨n,w1,bg,rt,a,b,e1,_,F,hn,hk⟩:=Uz r2 r8 ris (by omega) (w:=[]) (T:=T) (.inl rfl)
  obtain ⟨w2,e2,k2⟩:=UN F hn hk
  obtain ⟨rs,e3,tp,rl⟩:=Qem F (k2 _ _ hn) (k2 _ _ hk)
  have k3:Kp w1 (Wk w2 rs):=k2.trans (Kp.wk w2 rs)
  obtain ⟨w4,e4,g4,k4⟩:=QeO F (k3 _ _ hn) (k3 _ _ hk)
  let q:=(Wk w2 rs).length
  have Q4:RowsAt w4 (.ref q) rows:=.inr ⟨q,rfl,g4⟩
  obtain ⟨n5,w5,bg5,rt5,a5,b5,e5,k5,F5,hn5,hk5⟩:=Uz r2 r8 ris (by omega) Q4
  obtain ⟨w6,e6,k6⟩:=UN F5 hn5 hk5
  obtain ⟨n7,w7,bg7,rt7,a7,b7,e7,k7,F7,hn7,hk7⟩:=Uz o2 o8 ris (by omega) ((Q4.kp k5).kp k6)
  obtain ⟨w8,e8,k8⟩:=UN F7 hn7 hk7
  let E:Sl -> Sl -> Sl -> Sl -> Sl -> Sl -> En:=fun a b c d e f=>[.val X,a,b,c,d,e,f]
  let z1:Sl:=.val (.int c)
  let z2:Sl:=.val (.int room)
  let z3:Sl:=.val T
  let z4:Sl:=.val (.ref n)
  let z5:Sl:=.val (.ref q)
  let z6:Sl:=.val (.int oth)
  refine ⟨w8,Q3 (env:=E z1 z2 z3 z4 z5 z6) ?_⟩
  refine (Qo (env1:=E z1 .un .un .un .un .un) (hp1:=[]) (Qs (QO (ZH (var_at rfl) rfl) rfl (zy ec _)))).trans ?_
  refine (Qo (env1:=E z1 z2 .un .un .un .un) (hp1:=[]) (Qs (zy ((Qw (x:=.int 2) (y:=.int (QM c 1 % 7)) rfl (Qw (x:=.int (QM c 1)) (y:=.int 7) (Y7 (x:=.int c) (y:=.int 1) rfl rfl (X8 c 1 (by decide) (by decide))) rfl (ZC _ _ (by decide))) (ZY _ _)).trans (by rw [er])) _))).trans ?_
  refine (Qo (env1:=E z1 z2 z3 .un .un .un) (hp1:=[]) (Qs (QO (ZH (var_at rfl) (QO (ZH (var_at rfl) (var_at rfl)) rfl (zy es _))) rfl (zy et _)))).trans ?_
  refine (Qo (env1:=E z1 z2 z3 z4 .un .un) (hp1:=w1) (Qs (QO (ZH (v:=T) (JW (Zh (var_at rfl)) rfl) (var_at rfl)) rfl e1))).trans ?_
  have c1:XD (eB (Qt 2 Jp (Qb (Qc 4) (Qb (Qc 3) Qk)))) (E z1 z2 z3 z4 .un .un) w1 = some (false,w2):=Z6 (b:=true) (Zg (QO (ZH (var_at rfl) (var_at rfl)) rfl e2))
  have ix:Qh ixG (Qt 1 Z1 (Qb (Qc 4) Qk)) (eC (.int 0)) (E z1 z2 z3 z4 .un .un) w2 = some (.ref (w2.length + 2 + 0),Wk w2 rs):=by
    refine Qu (QO (Zh (var_at rfl)) rfl e3) (y:=.int ((0:Nat):Int)) rfl ?_
    show (Zi w2.length >>= _) _ = _
    rw [Qf (QY (GC w2 rs))]
    show (qP (atI (Xp (w2.length + 2) rs.length) ((0:Nat):Int))) _ = _
    have:atI (Xp (w2.length + 2) rs.length) ((0:Nat):Int) = some (.ref (w2.length + 2 + 0)):=by
      unfold atI
      rw [Jf,ub rl]
      exact JH rl
    rw [this];rfl
  have ln:QU Zd (Qb (Qh ixG (Qt 1 Z1 (Qb (Qc 4) Qk)) (eC (.int 0))) Qk) (E z1 z2 z3 z4 .un .un) w2 = some (.int ((1:Nat):Int),Wk w2 rs):=by
    refine JW (Zh ix) ?_
    rw [Gq (vb tp)];rfl
  refine (Qo ((JO ((zH c1).trans (Zg (Qu ln (y:=.int ((1:Nat):Int)) rfl (Qbq (UT 0 _) (by decide) _))))).trans JQ)).trans ?_
  refine (Qo (env1:=E z1 z2 z3 z4 z5 .un) (hp1:=w4) (Qs (QO (Zh (var_at rfl)) rfl e4))).trans ?_
  refine (Qo (env1:=E z1 z2 z3 z4 z5 z6) (hp1:=w4) (Qs (zy ((Qw (x:=.int 2) (y:=.int (QM c 11 % 7)) rfl (Qw (x:=.int (QM c 11)) (y:=.int 7) (Y7 (x:=.int c) (y:=.int 11) rfl rfl (X8 c 11 (by decide) (by decide))) rfl (ZC _ _ (by decide))) (ZY _ _)).trans (by rw [eo])) _))).trans ?_
  refine Q5 ?_
  refine (Ky (b:=true) (QO (ZH (QO (ZH (var_at rfl) (var_at rfl)) rfl e5) (var_at rfl)) rfl e6)).trans ?_
  rw [if_pos rfl]
  exact QO (ZH (QO (ZH (var_at rfl) (var_at rfl)) rfl e7) (var_at rfl)) rfl e8
theorem QdN {P:Program} {w:World} {K:PySem.W.Frag} {h:Heap} {mg:Str -> Option Value} {fa f0 f1 f2 f3 f4 f5 f6 f7 f8 f9 f10 f11 f12 f13 f14 f15 f16 f17 f18 f19 f20 f21 f22 f23 f24 f25 f26 f27 f28 f29 f30 f31 f32 f33 f34 C_Shelf:Addr} (X:K.In h) (G:h.Ns mainGlobals mg) (hfa:mg "law" = some (.ref fa))
    {od0 an0 od1 an1 od2 an2 od3 an3 od4 an4 od5 an5 od6 an6 od7 an7 od8 an8 od9 an9 od10 an10 od11 an11 od12 an12 od13 an13 od14 an14 od15 an15 od16 an16 od17 an17 od18 an18 od19 an19 od20 an20 od21 an21 od22 an22 od23 an23 od24 an24 od25 an25 od26 an26 od27 an27 od28 an28 od29 an29 od30 an30 od31 an31 od32 an32 od33 an33 od34 an34:Option Addr} {sl0 sl1 sl2 sl3 sl4 sl5 sl6 sl7 sl8 sl9 sl10 sl11 sl12 sl13 sl14 sl15 sl16 sl17 sl18 sl19 sl20 sl21 sl22 sl23 sl24 sl25 sl26 sl27 sl28 sl29 sl30 sl31 sl32 sl33 sl34:Array (Option Value)} {oc0 kV0 dc0 pm0 cd0 ct0 oc1 kV1 dc1 pm1 cd1 ct1 oc2 kV2 dc2 pm2 cd2 ct2 oc3 kV3 dc3 pm3 cd3 ct3 oc4 kV4 dc4 pm4 cd4 ct4 oc5 kV5 dc5 pm5 cd5 ct5 oc6 kV6 dc6 pm6 cd6 ct6 oc7 kV7 dc7 pm7 cd7 ct7 oc8 kV8 dc8 pm8 cd8 ct8 oc9 kV9 dc9 pm9 cd9 ct9 oc10 kV10 dc10 pm10 cd10 ct10 oc11 kV11 dc11 pm11 cd11 ct11 oc12 kV12 dc12 pm12 cd12 ct12 oc13 kV13 dc13 pm13 cd13 ct13 oc14 kV14 dc14 pm14 cd14 ct14 oc15 kV15 dc15 pm15 cd15 ct15 oc16 kV16 dc16 pm16 cd16 ct16 oc17 kV17 dc17 pm17 cd17 ct17 oc18 kV18 dc18 pm18 cd18 ct18 oc19 kV19 dc19 pm19 cd19 ct19 oc20 kV20 dc20 pm20 cd20 ct20 oc21 kV21 dc21 pm21 cd21 ct21 oc22 kV22 dc22 pm22 cd22 ct22 oc23 kV23 dc23 pm23 cd23 ct23 oc24 kV24 dc24 pm24 cd24 ct24 oc25 kV25 dc25 pm25 cd25 ct25 oc26 kV26 dc26 pm26 cd26 ct26 oc27 kV27 dc27 pm27 cd27 ct27 oc28 kV28 dc28 pm28 cd28 ct28 oc29 kV29 dc29 pm29 cd29 ct29 oc30 kV30 dc30 pm30 cd30 ct30 oc31 kV31 dc31 pm31 cd31 ct31 oc32 kV32 dc32 pm32 cd32 ct32 oc33 kV33 dc33 pm33 cd33 ct33 oc34 kV34 dc34 pm34 cd34 ct34:Value} {t0 t1 t2 t3 t4:Tok}
    {ta_EMPTY_LEAF_1 ta_EMPTY_LEAF_2 ta_EMPTY_LEAF_0:Addr} {td_EMPTY_LEAF_1 td_EMPTY_LEAF_2 td_EMPTY_LEAF_0:Option Addr} {tn_EMPTY_LEAF_1 tn_EMPTY_LEAF_2 tn_EMPTY_LEAF_0:Nat} {ts_EMPTY_LEAF_1 ts_EMPTY_LEAF_2 ts_EMPTY_LEAF_0:Array (Option Value)} {tt1:Tok}
    (aC_Shelf:PySem.W.nsIn K mainGlobals "Shelf" = some (some (.ref C_Shelf)))
    (a0:PySem.W.findIn K (.ref C_Shelf) "check_number" = some (some (.ref f0))) (i0:PySem.W.isFn K (.ref f0) = true) (l0:K.lookup f0 = some ⟨oc0,od0,.func (PySem.W.fnOf "check_number" "Shelf.check_number" (QF Za) (QC Za) (Qm Za) .none kV0 dc0 pm0 an0 cd0 ct0),sl0⟩) (c0:PySem.W.codeIn K cd0 "Shelf.check_number" = true) (k0:PySem.W.keepIn K (.ref f0) = true)
    (a1:PySem.W.findIn K (.ref C_Shelf) "make_root" = some (some (.ref f1))) (i1:PySem.W.isFn K (.ref f1) = true) (l1:K.lookup f1 = some ⟨oc1,od1,.func (PySem.W.fnOf "make_root" "Shelf.make_root" (QF Zn) (QC Zn) (Qm Zn) .none kV1 dc1 pm1 an1 cd1 ct1),sl1⟩) (c1:PySem.W.codeIn K cd1 "Shelf.make_root" = true) (k1:PySem.W.keepIn K (.ref f1) = true)
    (a2:PySem.W.findIn K (.ref C_Shelf) "lay" = some (some (.ref f2))) (i2:PySem.W.isFn K (.ref f2) = true) (l2:K.lookup f2 = some ⟨oc2,od2,.func (PySem.W.fnOf "lay" "Shelf.lay" (QF Jz) (QC Jz) (Qm Jz) .none kV2 dc2 pm2 an2 cd2 ct2),sl2⟩) (c2:PySem.W.codeIn K cd2 "Shelf.lay" = true) (k2:PySem.W.keepIn K (.ref f2) = true)
    (a3:PySem.W.findIn K (.ref C_Shelf) "write" = some (some (.ref f3))) (i3:PySem.W.isFn K (.ref f3) = true) (l3:K.lookup f3 = some ⟨oc3,od3,.func (PySem.W.fnOf "write" "Shelf.write" (QF ZK) (QC ZK) (Qm ZK) .none kV3 dc3 pm3 an3 cd3 ct3),sl3⟩) (c3:PySem.W.codeIn K cd3 "Shelf.write" = true) (k3:PySem.W.keepIn K (.ref f3) = true)
    (a4:PySem.W.findIn K (.ref C_Shelf) "__init__" = some (some (.ref f4))) (i4:PySem.W.isFn K (.ref f4) = true) (l4:K.lookup f4 = some ⟨oc4,od4,.func (PySem.W.fnOf "__init__" "Shelf.__init__" (QF Zx) (QC Zx) (Qm Zx) .none kV4 dc4 pm4 an4 cd4 ct4),sl4⟩) (c4:PySem.W.codeIn K cd4 "Shelf.__init__" = true) (k4:PySem.W.keepIn K (.ref f4) = true)
    (a5:PySem.W.nsIn K mainGlobals "shelf_of" = some (some (.ref f5))) (l5:K.lookup f5 = some ⟨oc5,od5,.func (PySem.W.fnOf "shelf_of" "shelf_of" (QF J1) (QC J1) (Qm J1) .none kV5 dc5 pm5 an5 cd5 ct5),sl5⟩) (c5:PySem.W.codeIn K cd5 "shelf_of" = true) (k5:PySem.W.keepIn K (.ref f5) = true)
    (a6:PySem.W.nsIn K mainGlobals "linked" = some (some (.ref f6))) (l6:K.lookup f6 = some ⟨oc6,od6,.func (PySem.W.fnOf "linked" "linked" (QF YM) (QC YM) (Qm YM) .none kV6 dc6 pm6 an6 cd6 ct6),sl6⟩) (c6:PySem.W.codeIn K cd6 "linked" = true) (k6:PySem.W.keepIn K (.ref f6) = true)
    (a7:PySem.W.nsIn K mainGlobals "kid_counts" = some (some (.ref f7))) (l7:K.lookup f7 = some ⟨oc7,od7,.func (PySem.W.fnOf "kid_counts" "kid_counts" (QF Z8) (QC Z8) (Qm Z8) .none kV7 dc7 pm7 an7 cd7 ct7),sl7⟩) (c7:PySem.W.codeIn K cd7 "kid_counts" = true) (k7:PySem.W.keepIn K (.ref f7) = true)
    (a8:PySem.W.nsIn K mainGlobals "fork_fills" = some (some (.ref f8))) (l8:K.lookup f8 = some ⟨oc8,od8,.func (PySem.W.fnOf "fork_fills" "fork_fills" (QF Jb) (QC Jb) (Qm Jb) .none kV8 dc8 pm8 an8 cd8 ct8),sl8⟩) (c8:PySem.W.codeIn K cd8 "fork_fills" = true) (k8:PySem.W.keepIn K (.ref f8) = true)
    (a9:PySem.W.nsIn K mainGlobals "leaf_fills" = some (some (.ref f9))) (l9:K.lookup f9 = some ⟨oc9,od9,.func (PySem.W.fnOf "leaf_fills" "leaf_fills" (QF Z9) (QC Z9) (Qm Z9) .none kV9 dc9 pm9 an9 cd9 ct9),sl9⟩) (c9:PySem.W.codeIn K cd9 "leaf_fills" = true) (k9:PySem.W.keepIn K (.ref f9) = true)
    (a10:PySem.W.nsIn K mainGlobals "packed" = some (some (.ref f10))) (l10:K.lookup f10 = some ⟨oc10,od10,.func (PySem.W.fnOf "packed" "packed" (QF Yy) (QC Yy) (Qm Yy) .none kV10 dc10 pm10 an10 cd10 ct10),sl10⟩) (c10:PySem.W.codeIn K cd10 "packed" = true) (k10:PySem.W.keepIn K (.ref f10) = true)
    (a11:PySem.W.findIn K (.ref C_Shelf) "pages" = some (some (.ref f11))) (i11:PySem.W.isFn K (.ref f11) = true) (l11:K.lookup f11 = some ⟨oc11,od11,.func (PySem.W.fnOf "pages" "Shelf.pages" (QF ZM) (QC ZM) (Qm ZM) .none kV11 dc11 pm11 an11 cd11 ct11),sl11⟩) (c11:PySem.W.codeIn K cd11 "Shelf.pages" = true) (k11:PySem.W.keepIn K (.ref f11) = true)
    (a12:PySem.W.findIn K (.ref C_Shelf) "root" = some (some (.ref f12))) (i12:PySem.W.isFn K (.ref f12) = true) (l12:K.lookup f12 = some ⟨oc12,od12,.func (PySem.W.fnOf "root" "Shelf.root" (QF Z5) (QC Z5) (Qm Z5) .none kV12 dc12 pm12 an12 cd12 ct12),sl12⟩) (c12:PySem.W.codeIn K cd12 "Shelf.root" = true) (k12:PySem.W.keepIn K (.ref f12) = true)
    (a13:PySem.W.findIn K (.ref C_Shelf) "picture" = some (some (.ref f13))) (i13:PySem.W.isFn K (.ref f13) = true) (l13:K.lookup f13 = some ⟨oc13,od13,.func (PySem.W.fnOf "picture" "Shelf.picture" (QF ZB) (QC ZB) (Qm ZB) .none kV13 dc13 pm13 an13 cd13 ct13),sl13⟩) (c13:PySem.W.codeIn K cd13 "Shelf.picture" = true) (k13:PySem.W.keepIn K (.ref f13) = true)
    (a14:PySem.W.nsIn K mainGlobals "first_kid" = some (some (.ref f14))) (l14:K.lookup f14 = some ⟨oc14,od14,.func (PySem.W.fnOf "first_kid" "first_kid" (QF Jw) (QC Jw) (Qm Jw) .none kV14 dc14 pm14 an14 cd14 ct14),sl14⟩) (c14:PySem.W.codeIn K cd14 "first_kid" = true) (k14:PySem.W.keepIn K (.ref f14) = true)
    (a15:PySem.W.nsIn K mainGlobals "side_run" = some (some (.ref f15))) (l15:K.lookup f15 = some ⟨oc15,od15,.func (PySem.W.fnOf "side_run" "side_run" (QF J0) (QC J0) (Qm J0) .none kV15 dc15 pm15 an15 cd15 ct15),sl15⟩) (c15:PySem.W.codeIn K cd15 "side_run" = true) (k15:PySem.W.keepIn K (.ref f15) = true)
    (a16:PySem.W.nsIn K mainGlobals "level_lists" = some (some (.ref f16))) (l16:K.lookup f16 = some ⟨oc16,od16,.func (PySem.W.fnOf "level_lists" "level_lists" (QF ZQ) (QC ZQ) (Qm ZQ) .none kV16 dc16 pm16 an16 cd16 ct16),sl16⟩) (c16:PySem.W.codeIn K cd16 "level_lists" = true) (k16:PySem.W.keepIn K (.ref f16) = true)
    (a17:PySem.W.nsIn K mainGlobals "levels" = some (some (.ref f17))) (l17:K.lookup f17 = some ⟨oc17,od17,.func (PySem.W.fnOf "levels" "levels" (QF YI) (QC YI) (Qm YI) .none kV17 dc17 pm17 an17 cd17 ct17),sl17⟩) (c17:PySem.W.codeIn K cd17 "levels" = true) (k17:PySem.W.keepIn K (.ref f17) = true)
    (a18:PySem.W.nsIn K mainGlobals "kid_faults" = some (some (.ref f18))) (l18:K.lookup f18 = some ⟨oc18,od18,.func (PySem.W.fnOf "kid_faults" "kid_faults" (QF Z7) (QC Z7) (Qm Z7) .none kV18 dc18 pm18 an18 cd18 ct18),sl18⟩) (c18:PySem.W.codeIn K cd18 "kid_faults" = true) (k18:PySem.W.keepIn K (.ref f18) = true)
    (a19:PySem.W.nsIn K mainGlobals "wanted_parts" = some (some (.ref f19))) (l19:K.lookup f19 = some ⟨oc19,od19,.func (PySem.W.fnOf "wanted_parts" "wanted_parts" (QF ZI) (QC ZI) (Qm ZI) .none kV19 dc19 pm19 an19 cd19 ct19),sl19⟩) (c19:PySem.W.codeIn K cd19 "wanted_parts" = true) (k19:PySem.W.keepIn K (.ref f19) = true)
    (a20:PySem.W.nsIn K mainGlobals "is_ordered" = some (some (.ref f20))) (l20:K.lookup f20 = some ⟨oc20,od20,.func (PySem.W.fnOf "is_ordered" "is_ordered" (QF Jc) (QC Jc) (Qm Jc) .none kV20 dc20 pm20 an20 cd20 ct20),sl20⟩) (c20:PySem.W.codeIn K cd20 "is_ordered" = true) (k20:PySem.W.keepIn K (.ref f20) = true)
    (a21:PySem.W.nsIn K mainGlobals "page_faults" = some (some (.ref f21))) (l21:K.lookup f21 = some ⟨oc21,od21,.func (PySem.W.fnOf "page_faults" "page_faults" (QF ZN) (QC ZN) (Qm ZN) .none kV21 dc21 pm21 an21 cd21 ct21),sl21⟩) (c21:PySem.W.codeIn K cd21 "page_faults" = true) (k21:PySem.W.keepIn K (.ref f21) = true)
    (a22:PySem.W.nsIn K mainGlobals "begins_of" = some (some (.ref f22))) (l22:K.lookup f22 = some ⟨oc22,od22,.func (PySem.W.fnOf "begins_of" "begins_of" (QF Jx) (QC Jx) (Qm Jx) .none kV22 dc22 pm22 an22 cd22 ct22),sl22⟩) (c22:PySem.W.codeIn K cd22 "begins_of" = true) (k22:PySem.W.keepIn K (.ref f22) = true)
    (a23:PySem.W.nsIn K mainGlobals "list_faults" = some (some (.ref f23))) (l23:K.lookup f23 = some ⟨oc23,od23,.func (PySem.W.fnOf "list_faults" "list_faults" (QF ZP) (QC ZP) (Qm ZP) .none kV23 dc23 pm23 an23 cd23 ct23),sl23⟩) (c23:PySem.W.codeIn K cd23 "list_faults" = true) (k23:PySem.W.keepIn K (.ref f23) = true)
    (a24:PySem.W.nsIn K mainGlobals "faults" = some (some (.ref f24))) (l24:K.lookup f24 = some ⟨oc24,od24,.func (PySem.W.fnOf "faults" "faults" (QF YH) (QC YH) (Qm YH) .none kV24 dc24 pm24 an24 cd24 ct24),sl24⟩) (c24:PySem.W.codeIn K cd24 "faults" = true) (k24:PySem.W.keepIn K (.ref f24) = true)
    (a25:PySem.W.nsIn K mainGlobals "is_sound" = some (some (.ref f25))) (l25:K.lookup f25 = some ⟨oc25,od25,.func (PySem.W.fnOf "is_sound" "is_sound" (QF JY) (QC JY) (Qm JY) .none kV25 dc25 pm25 an25 cd25 ct25),sl25⟩) (c25:PySem.W.codeIn K cd25 "is_sound" = true) (k25:PySem.W.keepIn K (.ref f25) = true)
    (a26:PySem.W.nsIn K mainGlobals "kids_of" = some (some (.ref f26))) (l26:K.lookup f26 = some ⟨oc26,od26,.func (PySem.W.fnOf "kids_of" "kids_of" (QF XJ) (QC XJ) (Qm XJ) .none kV26 dc26 pm26 an26 cd26 ct26),sl26⟩) (c26:PySem.W.codeIn K cd26 "kids_of" = true) (k26:PySem.W.keepIn K (.ref f26) = true)
    (a27:PySem.W.nsIn K mainGlobals "untold" = some (some (.ref f27))) (l27:K.lookup f27 = some ⟨oc27,od27,.func (PySem.W.fnOf "untold" "untold" (QF YC) (QC YC) (Qm YC) .none kV27 dc27 pm27 an27 cd27 ct27),sl27⟩) (c27:PySem.W.codeIn K cd27 "untold" = true) (k27:PySem.W.keepIn K (.ref f27) = true)
    (a28:PySem.W.nsIn K mainGlobals "table_of" = some (some (.ref f28))) (l28:K.lookup f28 = some ⟨oc28,od28,.func (PySem.W.fnOf "table_of" "table_of" (QF J2) (QC J2) (Qm J2) .none kV28 dc28 pm28 an28 cd28 ct28),sl28⟩) (c28:PySem.W.codeIn K cd28 "table_of" = true) (k28:PySem.W.keepIn K (.ref f28) = true)
    (a29:PySem.W.nsIn K mainGlobals "_law_good" = some (some (.ref f29))) (l29:K.lookup f29 = some ⟨oc29,od29,.func (PySem.W.fnOf "_law_good" "_law_good" (QF J5) (QC J5) (Qm J5) .none kV29 dc29 pm29 an29 cd29 ct29),sl29⟩) (c29:PySem.W.codeIn K cd29 "_law_good" = true) (k29:PySem.W.keepIn K (.ref f29) = true)
    (a30:PySem.W.nsIn K mainGlobals "_law_churn" = some (some (.ref f30))) (l30:K.lookup f30 = some ⟨oc30,od30,.func (PySem.W.fnOf "_law_churn" "_law_churn" (QF Jt) (QC Jt) (Qm Jt) .none kV30 dc30 pm30 an30 cd30 ct30),sl30⟩) (c30:PySem.W.codeIn K cd30 "_law_churn" = true) (k30:PySem.W.keepIn K (.ref f30) = true)
    (a31:PySem.W.nsIn K mainGlobals "_law_size" = some (some (.ref f31))) (l31:K.lookup f31 = some ⟨oc31,od31,.func (PySem.W.fnOf "_law_size" "_law_size" (QF J6) (QC J6) (Qm J6) .none kV31 dc31 pm31 an31 cd31 ct31),sl31⟩) (c31:PySem.W.codeIn K cd31 "_law_size" = true) (k31:PySem.W.keepIn K (.ref f31) = true)
    (a32:PySem.W.nsIn K mainGlobals "_law_cell_at" = some (some (.ref f32))) (l32:K.lookup f32 = some ⟨oc32,od32,.func (PySem.W.fnOf "_law_cell_at" "_law_cell_at" (QF ZL) (QC ZL) (Qm ZL) .none kV32 dc32 pm32 an32 cd32 ct32),sl32⟩) (c32:PySem.W.codeIn K cd32 "_law_cell_at" = true) (k32:PySem.W.keepIn K (.ref f32) = true)
    (a33:PySem.W.nsIn K mainGlobals "_law_table" = some (some (.ref f33))) (l33:K.lookup f33 = some ⟨oc33,od33,.func (PySem.W.fnOf "_law_table" "_law_table" (QF Jy) (QC Jy) (Qm Jy) .none kV33 dc33 pm33 an33 cd33 ct33),sl33⟩) (c33:PySem.W.codeIn K cd33 "_law_table" = true) (k33:PySem.W.keepIn K (.ref f33) = true)
    (a34:PySem.W.nsIn K mainGlobals "law" = some (some (.ref f34))) (l34:K.lookup f34 = some ⟨oc34,od34,.func (PySem.W.fnOf "law" "law" (QF jq) (QC jq) (Qm jq) .none kV34 dc34 pm34 an34 cd34 ct34),sl34⟩) (c34:PySem.W.codeIn K cd34 "law" = true) (k34:PySem.W.keepIn K (.ref f34) = true)
    (z_len:PySem.W.nsIn K mainGlobals "len" = some none)
    (z_range:PySem.W.nsIn K mainGlobals "range" = some none)
    (z_tuple:PySem.W.nsIn K mainGlobals "tuple" = some none)
    (z_list:PySem.W.nsIn K mainGlobals "list" = some none)
    (z_all:PySem.W.nsIn K mainGlobals "all" = some none)
    (z_zip:PySem.W.nsIn K mainGlobals "zip" = some none)
    (z_min:PySem.W.nsIn K mainGlobals "min" = some none)
    (z_max:PySem.W.nsIn K mainGlobals "max" = some none)
    (g_PARTS:PySem.W.nsIn K mainGlobals "PARTS" = some (some (.int 2 t0)))
    (g_SIDE:PySem.W.nsIn K mainGlobals "SIDE" = some (some (.int 4 t1)))
    (g_LEVEL:PySem.W.nsIn K mainGlobals "LEVEL" = some (some (.int 0 t2)))
    (g_KEYS:PySem.W.nsIn K mainGlobals "KEYS" = some (some (.int 1 t3)))
    (g_HIGH:PySem.W.nsIn K mainGlobals "HIGH" = some (some (.int 3 t4)))
    (g_EMPTY_LEAF:PySem.W.nsIn K mainGlobals "EMPTY_LEAF" = some (some (.ref ta_EMPTY_LEAF_0)))
    (tp_EMPTY_LEAF_0:K.lookup ta_EMPTY_LEAF_0 = some ⟨.type "tuple", td_EMPTY_LEAF_0,.seq #[.int 0 tt1,.ref ta_EMPTY_LEAF_1,.ref ta_EMPTY_LEAF_2,.none,.none] tn_EMPTY_LEAF_0,ts_EMPTY_LEAF_0⟩)
    (tp_EMPTY_LEAF_2:K.lookup ta_EMPTY_LEAF_2 = some ⟨.type "tuple", td_EMPTY_LEAF_2,.seq #[] tn_EMPTY_LEAF_2,ts_EMPTY_LEAF_2⟩)
    (tp_EMPTY_LEAF_1:K.lookup ta_EMPTY_LEAF_1 = some ⟨.type "tuple", td_EMPTY_LEAF_1,.seq #[] tn_EMPTY_LEAF_1,ts_EMPTY_LEAF_1⟩)
    (pg_Shelf:PySem.W.plainGet K C_Shelf Str.empty = true) (hd_Shelf:PySem.W.hasDictIn K C_Shelf = true) (po_Shelf:PySem.W.plainOver K C_Shelf = true) (sa_Shelf:PySem.W.findIn K (.ref C_Shelf) "__setattr__" = some (some (.builtin "object.__setattr__"))) (mk_Shelf:PySem.W.makesIn K C_Shelf = true) (kc_Shelf:PySem.W.keepIn K (.ref C_Shelf) = true)
    (n_Shelf_kept:PySem.W.findIn K (.ref C_Shelf) "kept" = some none)
    (n_Shelf_top:PySem.W.findIn K (.ref C_Shelf) "top" = some none)
    (n_Shelf_write_count:PySem.W.findIn K (.ref C_Shelf) "write_count" = some none)
    (n_Shelf_read_count:PySem.W.findIn K (.ref C_Shelf) "read_count" = some none)
    (n_Shelf_page_room:PySem.W.findIn K (.ref C_Shelf) "page_room" = some none)
    : ∃ fd:FuncData,(∀ (s:Shared) (v:Value),BindsTo s fd ⟨[v],[]⟩ [("script", v)]) /\ ∀ base:Heap,K.In base -> base.Ns mainGlobals mg -> FnOk P w K mg base CX0 7 fa fd ["script"] (spD K 1 Kf):=by
  have e:=hfa.symm.trans (PySem.W.mg_of X G a34)
  cases e
  have U0:=QZ (st:=Za) l0 c0 k0
  have U1:=QZ (st:=Zn) l1 c1 k1
  have U2:=QZ (st:=Jz) l2 c2 k2
  have U3:=QZ (st:=ZK) l3 c3 k3
  have U4:=QZ (st:=Zx) l4 c4 k4
  have U5:=QZ (st:=J1) l5 c5 k5
  have U6:=QZ (st:=YM) l6 c6 k6
  have U7:=QZ (st:=Z8) l7 c7 k7
  have U8:=QZ (st:=Jb) l8 c8 k8
  have U9:=QZ (st:=Z9) l9 c9 k9
  have U10:=QZ (st:=Yy) l10 c10 k10
  have U11:=QZ (st:=ZM) l11 c11 k11
  have U12:=QZ (st:=Z5) l12 c12 k12
  have U13:=QZ (st:=ZB) l13 c13 k13
  have U14:=QZ (st:=Jw) l14 c14 k14
  have U15:=QZ (st:=J0) l15 c15 k15
  have U16:=QZ (st:=ZQ) l16 c16 k16
  have U17:=QZ (st:=YI) l17 c17 k17
  have U18:=QZ (st:=Z7) l18 c18 k18
  have U19:=QZ (st:=ZI) l19 c19 k19
  have U20:=QZ (st:=Jc) l20 c20 k20
  have U21:=QZ (st:=ZN) l21 c21 k21
  have U22:=QZ (st:=Jx) l22 c22 k22
  have U23:=QZ (st:=ZP) l23 c23 k23
  have U24:=QZ (st:=YH) l24 c24 k24
  have U25:=QZ (st:=JY) l25 c25 k25
  have U26:=QZ (st:=XJ) l26 c26 k26
  have U27:=QZ (st:=YC) l27 c27 k27
  have U28:=QZ (st:=J2) l28 c28 k28
  have U29:=QZ (st:=J5) l29 c29 k29
  have U30:=QZ (st:=Jt) l30 c30 k30
  have U31:=QZ (st:=J6) l31 c31 k31
  have U32:=QZ (st:=ZL) l32 c32 k32
  have U33:=QZ (st:=Jy) l33 c33 k33
  have U34:=QZ (st:=jq) l34 c34 k34
  have y_len:=PySem.W.mg_none_of X G z_len
  have y_range:=PySem.W.mg_none_of X G z_range
  have y_tuple:=PySem.W.mg_none_of X G z_tuple
  have y_list:=PySem.W.mg_none_of X G z_list
  have y_all:=PySem.W.mg_none_of X G z_all
  have y_zip:=PySem.W.mg_none_of X G z_zip
  have y_min:=PySem.W.mg_none_of X G z_min
  have y_max:=PySem.W.mg_none_of X G z_max
  have cl_Shelf:Cls K C_Shelf:=⟨pg_Shelf,hd_Shelf,po_Shelf,sa_Shelf⟩
  have x_Shelf_kept:X9 K "Shelf" "kept" := ⟨C_Shelf,aC_Shelf,cl_Shelf,n_Shelf_kept⟩
  have x_Shelf_top:X9 K "Shelf" "top" := ⟨C_Shelf,aC_Shelf,cl_Shelf,n_Shelf_top⟩
  have x_Shelf_write_count:X9 K "Shelf" "write_count" := ⟨C_Shelf,aC_Shelf,cl_Shelf,n_Shelf_write_count⟩
  have x_Shelf_read_count:X9 K "Shelf" "read_count" := ⟨C_Shelf,aC_Shelf,cl_Shelf,n_Shelf_read_count⟩
  have x_Shelf_page_room:X9 K "Shelf" "page_room" := ⟨C_Shelf,aC_Shelf,cl_Shelf,n_Shelf_page_room⟩
  have w_PARTS:=PySem.W.mg_of X G g_PARTS
  have w_SIDE:=PySem.W.mg_of X G g_SIDE
  have w_LEVEL:=PySem.W.mg_of X G g_LEVEL
  have w_KEYS:=PySem.W.mg_of X G g_KEYS
  have w_HIGH:=PySem.W.mg_of X G g_HIGH
  have w_EMPTY_LEAF:=PySem.W.mg_of X G g_EMPTY_LEAF
  have qq_EMPTY_LEAF:KRep K (.tup [.int 0,.tup [],.tup [],.non,.non]) (.ref ta_EMPTY_LEAF_0):=(GZ (xs:=[.int 0,.ref ta_EMPTY_LEAF_1,.ref ta_EMPTY_LEAF_2,.non,.non]) tp_EMPTY_LEAF_0 (Nat.le_of_ble_eq_true rfl) (.cons ⟨_,rfl⟩ (.cons rfl (.cons rfl (.cons rfl (.cons rfl .nil))))) (qM QdM (qM (GZ (xs:=[]) tp_EMPTY_LEAF_1 (Nat.le_of_ble_eq_true rfl) .nil Ue) (qM (GZ (xs:=[]) tp_EMPTY_LEAF_2 (Nat.le_of_ble_eq_true rfl) .nil Ue) (qM Qad (qM Qad Ue))))))
  refine ⟨PySem.W.fnOf "law" "law" (QF jq) (QC jq) (Qm jq) .none kV34 dc34 pm34 an34 cd34 ct34,fun s v=>.of_eq rfl,fun base _ _=>?_⟩
  have v0:=YW (P:=P) (w:=w) (mg:=mg) (base:=base) U0 aC_Shelf cl_Shelf ⟨a0,i0,k0⟩ y_len x_Shelf_kept
  have v1:=zt (P:=P) (w:=w) (mg:=mg) (base:=base) U1 aC_Shelf cl_Shelf ⟨a1,i1,k1⟩ v0 x_Shelf_top
  have v2:=Vq (P:=P) (w:=w) (mg:=mg) (base:=base) U2 aC_Shelf cl_Shelf ⟨a2,i2,k2⟩ y_len x_Shelf_kept x_Shelf_write_count
  have v3:=xD (P:=P) (w:=w) (mg:=mg) (base:=base) U3 aC_Shelf cl_Shelf ⟨a3,i3,k3⟩ v0 x_Shelf_kept x_Shelf_write_count
  have v4:=zU (P:=P) (w:=w) (mg:=mg) (base:=base) U4 aC_Shelf (PySem.W.mg_of X G aC_Shelf) ⟨mk_Shelf,a4,i4,kc_Shelf⟩ w_EMPTY_LEAF qq_EMPTY_LEAF x_Shelf_write_count x_Shelf_read_count x_Shelf_top x_Shelf_kept x_Shelf_page_room
  have v5:=V9 (P:=P) (w:=w) (mg:=mg) (base:=base) U5 (PySem.W.mg_of X G a5) v1 v2 v3 v4 y_len
  have v6:=GB (P:=P) (w:=w) (mg:=mg) (base:=base) U6 (PySem.W.mg_of X G a6) y_len y_range
  have v7:=ya (P:=P) (w:=w) (mg:=mg) (base:=base) U7 (PySem.W.mg_of X G a7)
  have v8:=yz (P:=P) (w:=w) (mg:=mg) (base:=base) U8 (PySem.W.mg_of X G a8) v7 y_len y_tuple y_range
  have v9:=yN (P:=P) (w:=w) (mg:=mg) (base:=base) U9 (PySem.W.mg_of X G a9) y_len y_range y_tuple
  have v10:=Gx (P:=P) (w:=w) (mg:=mg) (base:=base) U10 (PySem.W.mg_of X G a10) v5 v6 v8 v9 y_len
  have v11:=xJ (P:=P) (w:=w) (mg:=mg) (base:=base) U11 aC_Shelf cl_Shelf ⟨a11,i11,k11⟩ y_len x_Shelf_kept
  have v12:=yc (P:=P) (w:=w) (mg:=mg) (base:=base) U12 aC_Shelf cl_Shelf ⟨a12,i12,k12⟩ x_Shelf_top
  have v13:=jv (P:=P) (w:=w) (mg:=mg) (base:=base) U13 aC_Shelf cl_Shelf ⟨a13,i13,k13⟩ y_list x_Shelf_kept
  have v14:=Vm (P:=P) (w:=w) (mg:=mg) (base:=base) U14 (PySem.W.mg_of X G a14) w_PARTS
  have v15:=Us (P:=P) (w:=w) (mg:=mg) (base:=base) U15 (PySem.W.mg_of X G a15) y_len w_SIDE
  have v16:=xE (P:=P) (w:=w) (mg:=mg) (base:=base) U16 (PySem.W.mg_of X G a16) v14 v15 y_len w_LEVEL
  have v17:=vh (P:=P) (w:=w) (mg:=mg) (base:=base) U17 (PySem.W.mg_of X G a17) v12 v13 v16
  have v18:=xW (P:=P) (w:=w) (mg:=mg) (base:=base) U18 (PySem.W.mg_of X G a18) y_len y_range w_KEYS w_PARTS
  have v19:=jU (P:=P) (w:=w) (mg:=mg) (base:=base) U19 (PySem.W.mg_of X G a19) y_len w_LEVEL w_KEYS
  have v20:=Vd (P:=P) (w:=w) (mg:=mg) (base:=base) U20 (PySem.W.mg_of X G a20) y_all y_zip w_HIGH w_KEYS
  have v21:=xA (P:=P) (w:=w) (mg:=mg) (base:=base) U21 (PySem.W.mg_of X G a21) v19 v20 y_len w_HIGH w_SIDE w_PARTS w_LEVEL
  have v22:=Vj (P:=P) (w:=w) (mg:=mg) (base:=base) U22 (PySem.W.mg_of X G a22) w_HIGH
  have v23:=xF (P:=P) (w:=w) (mg:=mg) (base:=base) U23 (PySem.W.mg_of X G a23) v18 v21 v22 y_len y_range
  have v24:=G0 (P:=P) (w:=w) (mg:=mg) (base:=base) U24 (PySem.W.mg_of X G a24) v23 v12 v16 v13 y_len y_range
  have v25:=Ub (P:=P) (w:=w) (mg:=mg) (base:=base) U25 (PySem.W.mg_of X G a25) v24
  have v26:=K2 (P:=P) (w:=w) (mg:=mg) (base:=base) U26 (PySem.W.mg_of X G a26) w_PARTS
  have v27:=va (P:=P) (w:=w) (mg:=mg) (base:=base) U27 (PySem.W.mg_of X G a27) v26 v12 v16 v13 y_len y_range
  have v28:=UA (P:=P) (w:=w) (mg:=mg) (base:=base) U28 (PySem.W.mg_of X G a28) v12 v16 v13 y_list y_zip w_KEYS w_PARTS
  have v29:=Um (P:=P) (w:=w) (mg:=mg) (base:=base) U29 (PySem.W.mg_of X G a29) v11 v12 v17 v24 v25 v27 v28 y_list y_range
  have v30:=Vo (P:=P) (w:=w) (mg:=mg) (base:=base) U30 (PySem.W.mg_of X G a30)
  have v31:=Ul (P:=P) (w:=w) (mg:=mg) (base:=base) U31 (PySem.W.mg_of X G a31) v30 y_min
  have v32:=xx (P:=P) (w:=w) (mg:=mg) (base:=base) U32 (PySem.W.mg_of X G a32) y_len
  have v33:=Vi (P:=P) (w:=w) (mg:=mg) (base:=base) U33 (PySem.W.mg_of X G a33) v30 v32 y_range y_max y_len
  exact law_fn U34 v10 v29 v30 v28 v17 v31 v33 v32 y_len y_list
theorem QfF {l:PySem.W.OpenLaw} {q:Program} {loose:List Str} {XP:(Str -> Option Value) -> Heap -> Prop} {YP:World -> Heap -> Prop} {d:DefRec} {K:Params -> PySem.W.Frag} (hn:l.most = some 63) (hdf:d.params.defaults = [])
    (hY:∀ (w:World) (h:Heap),YP w h -> (K w.params).In h)
    (F:∀ (w:World) (mg:Str -> Option Value) (fa:Addr) (h:Heap),(K w.params).In h -> h.Ns mainGlobals mg -> mg d.name = some (.ref fa) ->
      ∃ fd:FuncData,(∀ (s:Shared) (u:Value),BindsTo s fd ⟨[u],[]⟩ [("script", u)]) /\ ∀ base:Heap,(K w.params).In base -> base.Ns mainGlobals mg -> FnOk l.prog w (K w.params) mg base CX0 7 fa fd ["script"] (spD (K w.params) 1 Kf)) :
    PySem.W.WalkO q loose XP YP l.row.toRowW d [] (fun f vs=>PySem.call f vs) :=
  L2.u9 (n:=63) (k:=7) (x := "script") (CX:=fun _=>CX0) (sp:=fun w=>spD (K w.params) 1 Kf) hn (by decide) hdf ⟨rfl,by decide,by decide⟩ hY F (fun w _ a ns hl _ hS=>Qel (Qa8 ns hl) hS) fun _ _ _ _ _ z=>z
end K63
open PySem PySem.W PyProof.Rows
set_option maxRecDepth 100000 in
set_option maxHeartbeats 0 in
theorem PySem.Challenge.cw_sidelink_k63_whole_packed_is_sound_holds : PySem.Challenge.rw_sidelink_k63_whole_packed_is_sound.Holds := by
  w_on;o_law;k_head;(case hw=>w_witness2)
  k_fill
  refine K63.QfF (l:=PySem.Challenge.rw_sidelink_k63_whole_packed_is_sound) rfl rfl (fun w h Y=>PySem.W.kIn_of Y) ?F
  case F =>
    intro w mg fa h KX G hmg
    refine' K63.QdN KX G hmg ?aC_Shelf ?a0 ?i0 ?l0 ?c0 ?k0 ?a1 ?i1 ?l1 ?c1 ?k1 ?a2 ?i2 ?l2 ?c2 ?k2 ?a3 ?i3 ?l3 ?c3 ?k3 ?a4 ?i4 ?l4 ?c4 ?k4 ?a5 ?l5 ?c5 ?k5 ?a6 ?l6 ?c6 ?k6 ?a7 ?l7 ?c7 ?k7 ?a8 ?l8 ?c8 ?k8 ?a9 ?l9 ?c9 ?k9 ?a10 ?l10 ?c10 ?k10 ?a11 ?i11 ?l11 ?c11 ?k11 ?a12 ?i12 ?l12 ?c12 ?k12 ?a13 ?i13 ?l13 ?c13 ?k13 ?a14 ?l14 ?c14 ?k14 ?a15 ?l15 ?c15 ?k15 ?a16 ?l16 ?c16 ?k16 ?a17 ?l17 ?c17 ?k17 ?a18 ?l18 ?c18 ?k18 ?a19 ?l19 ?c19 ?k19 ?a20 ?l20 ?c20 ?k20 ?a21 ?l21 ?c21 ?k21 ?a22 ?l22 ?c22 ?k22 ?a23 ?l23 ?c23 ?k23 ?a24 ?l24 ?c24 ?k24 ?a25 ?l25 ?c25 ?k25 ?a26 ?l26 ?c26 ?k26 ?a27 ?l27 ?c27 ?k27 ?a28 ?l28 ?c28 ?k28 ?a29 ?l29 ?c29 ?k29 ?a30 ?l30 ?c30 ?k30 ?a31 ?l31 ?c31 ?k31 ?a32 ?l32 ?c32 ?k32 ?a33 ?l33 ?c33 ?k33 ?a34 ?l34 ?c34 ?k34 ?z_len ?z_range ?z_tuple ?z_list ?z_all ?z_zip ?z_min ?z_max ?g_PARTS ?g_SIDE ?g_LEVEL ?g_KEYS ?g_HIGH ?g_EMPTY_LEAF ?tp_EMPTY_LEAF_0 ?tp_EMPTY_LEAF_2 ?tp_EMPTY_LEAF_1 ?pg_Shelf ?hd_Shelf ?po_Shelf ?sa_Shelf ?mk_Shelf ?kc_Shelf ?n_Shelf_kept ?n_Shelf_top ?n_Shelf_write_count ?n_Shelf_read_count ?n_Shelf_page_room
    (case aC_Shelf=>k_is)
    (case a0=>k_is);(case i0=>k_is);(case l0=>k_is);(case c0=>k_is);(case k0=>k_is)
    (case a1=>k_is);(case i1=>k_is);(case l1=>k_is);(case c1=>k_is);(case k1=>k_is)
    (case a2=>k_is);(case i2=>k_is);(case l2=>k_is);(case c2=>k_is);(case k2=>k_is)
    (case a3=>k_is);(case i3=>k_is);(case l3=>k_is);(case c3=>k_is);(case k3=>k_is)
    (case a4=>k_is);(case i4=>k_is);(case l4=>k_is);(case c4=>k_is);(case k4=>k_is)
    (case a5=>k_is);(case l5=>k_is);(case c5=>k_is);(case k5=>k_is)
    (case a6=>k_is);(case l6=>k_is);(case c6=>k_is);(case k6=>k_is)
    (case a7=>k_is);(case l7=>k_is);(case c7=>k_is);(case k7=>k_is)
    (case a8=>k_is);(case l8=>k_is);(case c8=>k_is);(case k8=>k_is)
    (case a9=>k_is);(case l9=>k_is);(case c9=>k_is);(case k9=>k_is)
    (case a10=>k_is);(case l10=>k_is);(case c10=>k_is);(case k10=>k_is)
    (case a11=>k_is);(case i11=>k_is);(case l11=>k_is);(case c11=>k_is);(case k11=>k_is)
    (case a12=>k_is);(case i12=>k_is);(case l12=>k_is);(case c12=>k_is);(case k12=>k_is)
    (case a13=>k_is);(case i13=>k_is);(case l13=>k_is);(case c13=>k_is);(case k13=>k_is)
    (case a14=>k_is);(case l14=>k_is);(case c14=>k_is);(case k14=>k_is)
    (case a15=>k_is);(case l15=>k_is);(case c15=>k_is);(case k15=>k_is)
    (case a16=>k_is);(case l16=>k_is);(case c16=>k_is);(case k16=>k_is)
    (case a17=>k_is);(case l17=>k_is);(case c17=>k_is);(case k17=>k_is)
    (case a18=>k_is);(case l18=>k_is);(case c18=>k_is);(case k18=>k_is)
    (case a19=>k_is);(case l19=>k_is);(case c19=>k_is);(case k19=>k_is)
    (case a20=>k_is);(case l20=>k_is);(case c20=>k_is);(case k20=>k_is)
    (case a21=>k_is);(case l21=>k_is);(case c21=>k_is);(case k21=>k_is)
    (case a22=>k_is);(case l22=>k_is);(case c22=>k_is);(case k22=>k_is)
    (case a23=>k_is);(case l23=>k_is);(case c23=>k_is);(case k23=>k_is)
    (case a24=>k_is);(case l24=>k_is);(case c24=>k_is);(case k24=>k_is)
    (case a25=>k_is);(case l25=>k_is);(case c25=>k_is);(case k25=>k_is)
    (case a26=>k_is);(case l26=>k_is);(case c26=>k_is);(case k26=>k_is)
    (case a27=>k_is);(case l27=>k_is);(case c27=>k_is);(case k27=>k_is)
    (case a28=>k_is);(case l28=>k_is);(case c28=>k_is);(case k28=>k_is)
    (case a29=>k_is);(case l29=>k_is);(case c29=>k_is);(case k29=>k_is)
    (case a30=>k_is);(case l30=>k_is);(case c30=>k_is);(case k30=>k_is)
    (case a31=>k_is);(case l31=>k_is);(case c31=>k_is);(case k31=>k_is)
    (case a32=>k_is);(case l32=>k_is);(case c32=>k_is);(case k32=>k_is)
    (case a33=>k_is);(case l33=>k_is);(case c33=>k_is);(case k33=>k_is)
    (case a34=>k_is);(case l34=>k_is);(case c34=>k_is);(case k34=>k_is)
    (case z_len=>k_is)
    (case z_range=>k_is)
    (case z_tuple=>k_is)
    (case z_list=>k_is)
    (case z_all=>k_is)
    (case z_zip=>k_is)
    (case z_min=>k_is)
    (case z_max=>k_is)
    (case g_PARTS=>k_is)
    (case g_SIDE=>k_is)
    (case g_LEVEL=>k_is)
    (case g_KEYS=>k_is)
    (case g_HIGH=>k_is)
    (case g_EMPTY_LEAF=>k_is)
    (case tp_EMPTY_LEAF_0=>k_is)
    (case tp_EMPTY_LEAF_2=>k_is)
    (case tp_EMPTY_LEAF_1=>k_is)
    (case pg_Shelf=>k_is);(case hd_Shelf=>k_is);(case po_Shelf=>k_is);(case sa_Shelf=>k_is);(case mk_Shelf=>k_is);(case kc_Shelf=>k_is)
    (case n_Shelf_kept=>k_is)
    (case n_Shelf_top=>k_is)
    (case n_Shelf_write_count=>k_is)
    (case n_Shelf_read_count=>k_is)
    (case n_Shelf_page_room=>k_is)
